import PyProof.Rows.All
import Wide.All
import OpenK.AllK
import Wide.FinOn
import Lean
import PyProof.EqAt
import PyProof.EqKinds
import PyProof.TupleCall
import PySem.Challenge.RW_curvehouse_k49_texts_near_ratios
set_option Elab.async false
section
set_option maxRecDepth 100000
set_option maxHeartbeats 0
open PySem PySem.W PyProof.Rows
def CL.top (i : Nat) : Stmt := PySem.Challenge.pw_curvehouse_k49_texts_near_ratios.main.body.getD i (.Pass ⟨0, 0, 0, 0⟩)
noncomputable def CL.qv : Program := { PySem.Challenge.pw_curvehouse_k49_texts_near_ratios with main := { PySem.Challenge.pw_curvehouse_k49_texts_near_ratios.main with body := [CL.top 1, CL.top 2, CL.top 3, CL.top 4, CL.top 5, CL.top 6, CL.top 7, CL.top 8, CL.top 9, CL.top 10, CL.top 12, CL.top 14, CL.top 15, CL.top 16, CL.top 17, CL.top 18, CL.top 20, CL.top 21, CL.top 22, CL.top 23, CL.top 24, CL.top 25, CL.top 26, CL.top 27, CL.top 28, CL.top 29, CL.top 30, CL.top 31, CL.top 32] } }
def CL.grow : List Obj → Nat → BT → BT
  | [], _, T => T
  | x :: l, i, T => CL.grow l (i + 1) (T.ins i x)
noncomputable def CL.b0 (P : Params) : BT := CL.grow (boot_heap P).objs.toList 0 .nil
theorem CL.b0_abs (P : Params) : absHeap (CL.b0 P) 11 (boot_heap P).life = boot_heap P := by kernel_rfl
theorem CL.b0_sz (P : Params) : (boot_heap P).objs.size = 11 := by kernel_rfl
theorem CL.b0_ns (P : Params) : (boot_heap P).isNs mainGlobals = true := by kernel_rfl
noncomputable def CL.tT (tb : String → Option Builtin) (p : Program) (w : World) (k : Nat) (an : Option Value) : Nat → SharedT → Thread → Option SharedT
  | 0, _, _ => none
  | m + 1, a, c => match through c, stepOk k an c with
    | true, _ => some a
    | false, false => none
    | false, true => match stepT (denote tb) p w a c with
      | none => none
      | some (a', c') => CL.tT tb p w k an m a' c'
theorem CL.tT_of {tb : String → Option Builtin} {p : Program} {w : World} {k : Nat} {an : Option Value} : ∀ {m : Nat} {a r : SharedT} {c : Thread}, CL.tT tb p w k an m a c = some r → topRun tb p w k an m a.abs c = some r.abs
  | 0, _, _, _, h => by cases h
  | m + 1, a, r, c, h => by
    unfold CL.tT at h
    unfold topRun
    cases e1 : through c with
    | true => rw [e1] at h; cases h; rfl
    | false =>
      cases e2 : stepOk k an c with
      | false => rw [e1, e2] at h; cases h
      | true =>
        rw [e1, e2] at h
        dsimp only at h ⊢
        cases e3 : stepT (denote tb) p w a c with
        | none => rw [e3] at h; cases h
        | some x =>
          obtain ⟨a', c'⟩ := x
          rw [e3] at h
          rw [stepT_spec e3]
          exact CL.tT_of h
noncomputable def CL.s0 (w : World) (os : OsState) : SharedT := ⟨CL.b0 w.params, 11, (boot_heap w.params).life, Array.mk [], boot_drawn, boot_toks, os⟩
theorem CL.s0_abs (w : World) (os : OsState) : (CL.s0 w os).abs = ⟨boot_heap w.params, Array.mk [], boot_drawn, boot_toks, os⟩ := by
  unfold CL.s0 SharedT.abs
  dsimp only
  rw [CL.b0_abs]
noncomputable def CL.an (w : World) : Option Value := (boot_heap w.params).nsMap mainGlobals "__annotations__"
noncomputable def CL.fin (p : Program) (w : World) (N : Nat) (os : OsState) : Option SharedT := CL.tT treeTable p w 11 (CL.an w) N (CL.s0 w os) (topStub p)
noncomputable def CL.ok (p : Program) (w : World) (s : Shared) : Bool :=
  staticsOk (importedModules p.main.body) (boot_heap w.params) s.heap && namesBound p s.heap &&
  gensDone s && laidKept (boot_heap w.params) s.heap
theorem CL.lo {p q : Program} {Xt : Shared → Bool} {α : Type} {Yf : Shared → α} {Ya : World → α} {N : Nat}
    (o : ∀ w : World, (fencedOpening treeTable p w N).map (fun s => (s.heap, s.gens, s.drawn, s.toks)) = some (boot_heap w.params, Array.mk [], boot_drawn, boot_toks))
    (a : ∀ (w : World) (os : OsState), (CL.fin p w N os).map (fun s => (CL.ok p w s.abs, openSeen q [] (importedModules p.main.body) Xt true s.abs)) = some (true, openGood q []))
    (b : ∀ (w : World) (os : OsState), (CL.fin p w N os).map (fun s => Yf s.abs) = some (Ya w)) : LeftO p q [] Xt Yf Ya N true := by
  intro w
  obtain ⟨s, e, e'⟩ := Option.map_eq_some_iff.mp (o w)
  obtain ⟨h, gs, d, k, os⟩ := s
  simp only [Prod.mk.injEq] at e'
  obtain ⟨e1, e2, e3, e4⟩ := e'
  subst e1 e2 e3 e4
  obtain ⟨s, hs, hv⟩ := Option.map_eq_some_iff.mp (a w os)
  have hb := b w os
  rw [hs] at hb
  have hy : Yf s.abs = Ya w := Option.some.inj hb
  have r := CL.tT_of hs
  rw [CL.s0_abs] at r
  obtain ⟨v1, v2⟩ := Prod.mk.inj hv
  have t : topFrom treeTable p w N ⟨boot_heap w.params, Array.mk [], boot_drawn, boot_toks, os⟩ = some s.abs := by
    unfold topFrom
    dsimp only
    rw [CL.b0_ns, CL.b0_sz]
    change Option.bind (topRun treeTable p w 11 (CL.an w) N _ _) _ = _
    rw [r]
    show (match CL.ok p w s.abs with | true => some s.abs | false => none) = some s.abs
    rw [v1]
  unfold openEnds
  rw [e]
  show (topFrom treeTable p w N _).map _ = _
  rw [t, ← v2, ← hy]
  rfl
theorem CL.op (w : World) : (fencedOpening treeTable ((OpenLaw.row PySem.Challenge.rw_curvehouse_k49_texts_near_ratios).toRowW.prog) w 30100).map (fun s => (s.heap, s.gens, s.drawn, s.toks)) = some (boot_heap w.params, Array.mk [], boot_drawn, boot_toks) := boot_open (by kernel_rfl) (by decide +kernel) (fun s => by kernel_rfl) w
theorem CL.lA (w : World) (os : OsState) : (CL.fin ((OpenLaw.row PySem.Challenge.rw_curvehouse_k49_texts_near_ratios).toRowW.prog) w 30100 os).map (fun s => (CL.ok ((OpenLaw.row PySem.Challenge.rw_curvehouse_k49_texts_near_ratios).toRowW.prog) w s.abs, openSeen CL.qv [] (importedModules ((OpenLaw.row PySem.Challenge.rw_curvehouse_k49_texts_near_ratios).toRowW.prog).main.body) (fun s => xlAt CL.qv [] s && recOk (RowW.records (OpenRow.toRowW (OpenLaw.row PySem.Challenge.rw_curvehouse_k49_texts_near_ratios))) s) true s.abs)) = some (true, openGood CL.qv []) := by kernel_rfl
end
set_option linter.all false
set_option maxRecDepth 100000
/-! THE HAND LAYER, for ints, bools, texts, own classes, LISTS and tuples (index, slices, in, append, pop ..), calls, loops. Paste it whole ahead of your own text; what your proof does not reach may be deleted. -/
namespace L2
open PySem PySem.Spec PyProof.Rows

/-- a key: an int or a str -/
abbrev Key := Sum Int Str
def keyIs : Key → Value → Bool
  | .inl k, v => Value.isInt k v
  | .inr x, v => Value.isStrOf x v
def keyH (w : World) : Key → Int
  | .inl k => hashInt k
  | .inr x => hashStr w x
theorem keyIs_shape : ∀ {k : Key} {v : Value}, keyIs k v = true → (∃ i t, k = Sum.inl i ∧ v = Value.int i t) ∨ (∃ x t, k = Sum.inr x ∧ v = Value.str x t)
  | .inl i, v, h => by
    obtain ⟨t, e⟩ := Value.isInt_shape (k := i) (v := v) h
    exact .inl ⟨i, t, rfl, e⟩
  | .inr x, v, h => by
    obtain ⟨t, e⟩ := Value.isStrOf_shape (x := x) (v := v) h
    exact .inr ⟨x, t, rfl, e⟩
theorem key_ll (a b : Int) : decide ((Sum.inl a : Key) = Sum.inl b) = (a == b) := by
  by_cases e : a = b
  · subst e; simp
  · have h : ¬ (Sum.inl a : Key) = Sum.inl b := fun q => e (Sum.inl.inj q)
    rw [decide_eq_false h]
    exact (beq_eq_false_iff_ne.mpr e).symm
theorem key_rr (a b : Str) : decide ((Sum.inr a : Key) = Sum.inr b) = decide (a = b) := by
  by_cases e : a = b
  · subst e; simp
  · have h : ¬ (Sum.inr a : Key) = Sum.inr b := fun q => e (Sum.inr.inj q)
    rw [decide_eq_false h, decide_eq_false e]
theorem key_lr (a : Int) (b : Str) : decide ((Sum.inl a : Key) = Sum.inr b) = false := decide_eq_false (fun q => nomatch q)
theorem key_rl (a : Str) (b : Int) : decide ((Sum.inr a : Key) = Sum.inl b) = false := decide_eq_false (fun q => nomatch q)

def mixKind (prog : Program) (w : World) : PySem.KeyKind prog w Key where
  is := keyIs
  hash := keyH w
  inj := fun v a b ha hb => by
    rcases keyIs_shape ha with ⟨i, t, rfl, rfl⟩ | ⟨x, t, rfl, rfl⟩
    · rcases keyIs_shape hb with ⟨j, u, rfl, e⟩ | ⟨y, u, rfl, e⟩
      · injection e with e1 _; rw [e1]
      · exact nomatch e
    · rcases keyIs_shape hb with ⟨j, u, rfl, e⟩ | ⟨y, u, rfl, e⟩
      · exact nomatch e
      · injection e with e1 _; rw [e1]
  byValue := fun k v h => by
    rcases keyIs_shape h with ⟨i, t, rfl, rfl⟩ | ⟨x, t, rfl, rfl⟩ <;> rfl
  pyHash := fun hv h => by
    rcases keyIs_shape hv with ⟨i, t, rfl, rfl⟩ | ⟨x, t, rfl, rfl⟩
    · exact wpAny_pyHash_int h
    · exact wpAny_pyHash_str h
  eqBool := fun hu hv h => by
    rcases keyIs_shape hu with ⟨i, t, rfl, rfl⟩ | ⟨x, t, rfl, rfl⟩
    · rcases keyIs_shape hv with ⟨j, u, rfl, rfl⟩ | ⟨y, u, rfl, rfl⟩
      · rw [key_ll] at h; exact wpAny_eqBool_int h
      · rw [key_lr] at h; exact SeqAt.EqAt.int_str i t y u _ _ _ _ h
    · rcases keyIs_shape hv with ⟨j, u, rfl, rfl⟩ | ⟨y, u, rfl, rfl⟩
      · rw [key_rl] at h; exact SeqAt.EqAt.str_int x t j u _ _ _ _ h
      · rw [key_rr] at h; exact wpAny_eqBool_str h
  «strs» := fun k x t v h => by
    rcases keyIs_shape h with ⟨i, u, rfl, e⟩ | ⟨y, u, rfl, e⟩
    · exact nomatch e
    · injection e with e1 _
      subst e1
      cases v <;> rfl

end L2

namespace L2
open PySem PySem.Spec PyProof.Rows

/-- a value, without the heap -/
inductive V where
  | non | bl (b : Bool) | int (i : Int) | str (x : Str) | byt (b : Array UInt8) | flt (b : UInt64) | ref (a : Addr) | ty (n : String)
  deriving DecidableEq

def RelV : V → Value → Prop
  | .non, u => u = Value.none
  | .bl b, u => u = Value.bool b
  | .int i, u => ∃ t, u = Value.int i t
  | .str x, u => ∃ t, u = Value.str x t
  | .byt b, u => ∃ t, u = Value.bytes b t
  | .flt b, u => ∃ t, u = Value.float b t
  | .ref a, u => u = Value.ref a
  | .ty n, u => u = Value.type n

abbrev Vals : List V → List Value → Prop := Paired RelV
theorem Vals.length {xs : List V} {us : List Value} (r : Vals xs us) : xs.length = us.length := Paired.length r
theorem Vals.get : ∀ {xs : List V} {us : List Value} {i : Nat} {x : V}, Vals xs us → xs[i]? = some x → ∃ u, us[i]? = some u ∧ RelV x u
  | _, _, _, _, .nil, e => by simp at e
  | _, _, 0, _, .cons r _, e => by simp at e; subst e; exact ⟨_, rfl, r⟩
  | _, _, i + 1, x, .cons _ t, e => by
    obtain ⟨u, h1, h2⟩ := Vals.get (i := i) (x := x) t (by simpa using e)
    exact ⟨u, by simpa using h1, h2⟩
theorem Vals.set {x : V} {u : Value} (r : RelV x u) : ∀ {xs : List V} {us : List Value} (i : Nat), Vals xs us → Vals (xs.set i x) (us.set i u)
  | _, _, _, .nil => .nil
  | _, _, 0, .cons _ t => .cons r t
  | _, _, i + 1, .cons q t => .cons q (Vals.set r i t)
theorem Vals.append : ∀ {xs ys : List V} {us ws : List Value}, Vals xs us → Vals ys ws → Vals (xs ++ ys) (us ++ ws)
  | _, _, _, _, .nil, s => s
  | _, _, _, _, .cons r t, s => .cons r (Vals.append t s)
theorem Vals.take : ∀ {xs : List V} {us : List Value} (n : Nat), Vals xs us → Vals (xs.take n) (us.take n)
  | _, _, 0, _ => .nil
  | _, _, _ + 1, .nil => .nil
  | _, _, n + 1, .cons r t => .cons r (Vals.take n t)
theorem Vals.drop : ∀ {xs : List V} {us : List Value} (n : Nat), Vals xs us → Vals (xs.drop n) (us.drop n)
  | _, _, 0, r => r
  | _, _, _ + 1, .nil => .nil
  | _, _, n + 1, .cons _ t => Vals.drop n t

def RelO : Option V → Option Value → Prop
  | some v, some u => RelV v u
  | none, none => True
  | _, _ => False
def KV {κ : Type} : List (κ × V) → List (κ × Value) → Prop := Paired fun (p : κ × V) (q : κ × Value) => p.1 = q.1 ∧ RelV p.2 q.2

/-- a key of a dict (00_mix): an int or a text -/
def kV : Key → V
  | .inl i => .int i
  | .inr x => .str x

/-- what stands at a tracked address -/
inductive HO where
  /-- a list -/
  | lst (xs : List V)
  /-- a tuple (never changes) -/
  | tup (xs : List V)
  /-- a dict whose keys are ints and texts; one whose keys are tuples of ints and texts (the empty one is both) -/
  | dK (kvs : List (Key × V)) | dT (kvs : List (List Key × V))
  /-- a set of ints: its members, its size -/
  | set (S : Int → Bool) (n : Nat)
  /-- an instance of the class at C, its dict at dx, its attributes -/
  | ins (C dx : Addr) (fs : List (Str × V))
  /-- the dict of the instance at x -/
  | own (x : Addr)
  /-- the dict of an exception -/
  | xd (fs : List (Str × V))
  /-- a bound method, f of x -/
  | met (f x : Addr)
  /-- a range object lo, lo + 1, .. below hi -/
  | rng (lo hi : Int)
  /-- a thing that is known to the object (the script; a dict while a loop walks it): read, never written while it is so -/
  | frz (o : Obj) (u : HO)
  /-- a code object's table -/
  | tbl (ps : Array Value)
  /-- any other thing, by what is true of its one object (a def of one's own: SetO a S n := HO.ext fun h => ..) -/
  | ext (φ : Heap → Prop)

abbrev Hp := Addr → Option HO
def upd (H : Hp) (a : Addr) (o : HO) : Hp := fun b => if b = a then some o else H b
theorem upd_same {H : Hp} {a : Addr} {o : HO} : upd H a o a = some o := by unfold upd; rw [if_pos rfl]
theorem upd_ne {H : Hp} {a b : Addr} {o : HO} (h : b ≠ a) : upd H a o b = H b := by unfold upd; rw [if_neg h]
theorem ne_of_none {H : Hp} {a b : Addr} {o : HO} (h : H a = some o) (h' : H b = none) : a ≠ b := by
  intro e; subst e; rw [h] at h'; cases h'

/-- a code object's table: the codes that it knows lie there, frozen -/
def TabOk (H : Hp) (h : Heap) (a : Addr) : Prop := ∃ tab : Array Value, h.get? a = some { cls := .none, data := .fields tab } ∧ TriplesOk tab.toList ∧
  ∀ (pos : Pos) (cv : Value), codeAmong pos tab.toList = some cv → ∃ (c : Addr) (oc : Obj) (fs : Array Value) (nm : Str) (t : Nat), cv = .ref c ∧ H c = some (.frz oc (.own a)) ∧ oc.data = .fields fs ∧ fs[1]? = some (.str nm t)
theorem TabOk.stay {H H' : Hp} {h h' : Heap} {a : Addr} (x : TabOk H h a) (k : ∀ o, h.get? a = some o → h'.get? a = some o) (hf : ∀ b o u, H b = some (.frz o u) → H' b = some (.frz o u)) : TabOk H' h' a := by
  obtain ⟨tab, e, tr, q⟩ := x
  refine ⟨tab, k _ e, tr, fun pos cv z => ?_⟩
  obtain ⟨c, oc, fs, nm, t, z1, z2, z3⟩ := q pos cv z
  exact ⟨c, oc, fs, nm, t, z1, hf _ _ _ z2, z3⟩
section
variable (P : Program) (w : World)
def ObjOk (H : Hp) (h : Heap) (a : Addr) : HO → Prop
  | .lst xs => xs.length ≤ sizeLine ∧ ∃ (its : List Value) (n : Nat), Vals xs its ∧ h.get? a = some { cls := .type "list", data := .seq its.toArray n }
  | .tup xs => xs.length ≤ sizeLine ∧ ∃ its : List Value, Vals xs its ∧ IsTup h a its.toArray
  | .dK kvs => kvs.length ≤ sizeLine ∧ (a == sysModules) = false ∧ ∃ vs, KV kvs vs ∧ h.DictOf (mixKind P w) a vs
  | .dT kvs => kvs.length ≤ sizeLine ∧ (a == sysModules) = false ∧ ∃ xs : List (List Key × Addr × Value),
      Paired (fun (p : List Key × V) (q : List Key × Addr × Value) => p.1 = q.1 ∧ H q.2.1 = some (.tup (p.1.map kV)) ∧ RelV p.2 q.2.2) kvs xs ∧
      ∃ o es ep, h.get? a = some o ∧ o.ExactDict ∧ o.data = .dict es ep ∧ es.toList = xs.map (entryOfKey (tupleKind (mixKind P w))) ∧ (xs.map (·.1)).Nodup
  | .set S n => h.SetOf (intKind P w) a S n
  | .ins C dx fs => H dx = some (.own a) ∧ fs.length ≤ 1000 ∧ dx ≠ a ∧ h.get? a = some (PySem.W.instObj C dx) ∧
      ∃ mA, h.Ns1 dx mA ∧ (∀ f, RelO (fs.lookup f) (mA f)) ∧ PySem.Within mA (fs.map (·.1))
  | .own _ => ∃ o, h.get? a = some o
  | .xd fs => ∃ mA, h.Ns1 a mA ∧ ∀ f, RelO (fs.lookup f) (mA f)
  | .rng lo hi => ∃ t u v, h.get? a = some { cls := .type "range", data := .fields #[.int lo t, .int hi u, .int 1 v] }
  | .frz o u => h.get? a = some o ∧ ObjOk H h a u
  | .tbl _ => TabOk H h a
  | .met f x => h.get? a = some (PySem.W.methodObj (.ref f) (.ref x))
  | .ext φ => φ h ∧ (∃ o, h.get? a = some o) ∧ ∀ h1 h2 : Heap, φ h1 → (∀ o, h1.get? a = some o → h2.get? a = some o) → φ h2
/-- the abstract heap is held -/
def HOk (H : Hp) (h : Heap) : Prop := ∀ a o, H a = some o → ObjOk P w H h a o
end

section
variable {P : Program} {w : World} {H H' : Hp} {h h' : Heap} {a : Addr} {o : HO}
theorem ObjOk.lt (x : ObjOk P w H h a o) : a < h.objs.size := by
  cases o with
  | lst xs => obtain ⟨_, _, _, _, e⟩ := x; exact Heap.lt_size e
  | tup xs => obtain ⟨_, _, _, p⟩ := x; exact p.lt
  | dK kvs => obtain ⟨_, _, _, _, o, _, _, e, _⟩ := x; exact Heap.lt_size e
  | dT kvs => obtain ⟨_, _, _, _, o, _, _, e, _⟩ := x; exact Heap.lt_size e
  | set S n => obtain ⟨o, _, _, _, e, _⟩ := x; exact Heap.lt_size e
  | ins C dx fs => obtain ⟨_, _, _, e, _⟩ := x; exact Heap.lt_size e
  | own y => obtain ⟨_, e⟩ := x; exact Heap.lt_size e
  | xd fs => obtain ⟨_, ⟨_, _, _, e, _⟩, _⟩ := x; exact Heap.lt_size e
  | rng lo hi => obtain ⟨_, _, _, e⟩ := x; exact Heap.lt_size e
  | frz ob u => obtain ⟨e, _⟩ := x; exact Heap.lt_size e
  | tbl ps => obtain ⟨_, e, _⟩ := x; exact Heap.lt_size e
  | met f y => exact Heap.lt_size (show h.get? a = some _ from x)
  | ext φ => obtain ⟨_, ⟨_, e⟩, _⟩ := x; exact Heap.lt_size e
theorem Paired.mapP {α β : Type} {F G : α → β → Prop} : ∀ {l₁ : List α} {l₂ : List β}, Paired F l₁ l₂ → (∀ a b, F a b → G a b) → Paired G l₁ l₂
  | _, _, .nil, _ => .nil
  | _, _, .cons r t, f => .cons (f _ _ r) (Paired.mapP t f)
/-- what an object's description leans on: its own object, its own dict, the tuples -/
theorem ObjOk.stay (x : ObjOk P w H h a o) (k : ∀ b u, (b = a ∨ H b = some (.own a)) → h.get? b = some u → h'.get? b = some u)
    (ho : ∀ b, H b = some (.own a) → H' b = some (.own a)) (ht : ∀ b xs, H b = some (.tup xs) → H' b = some (.tup xs)) (hf : ∀ b o u, H b = some (.frz o u) → H' b = some (.frz o u) := by intro _ _ _ q; exact q) : ObjOk P w H' h' a o := by
  induction o with
  | lst xs => obtain ⟨z, its, n, r, e⟩ := x; exact ⟨z, its, n, r, k _ _ (.inl rfl) e⟩
  | tup xs => obtain ⟨z, its, r, ob, e, c⟩ := x; exact ⟨z, its, r, ob, k _ _ (.inl rfl) e, c⟩
  | dK kvs => obtain ⟨z, y, vs, r, ob, es, ep, e, c⟩ := x; exact ⟨z, y, vs, r, ob, es, ep, k _ _ (.inl rfl) e, c⟩
  | dT kvs =>
    obtain ⟨z, y, xs, r, ob, es, ep, e, c⟩ := x
    exact ⟨z, y, xs, Paired.mapP r fun p q z => ⟨z.1, ht _ _ z.2.1, z.2.2⟩, ob, es, ep, k _ _ (.inl rfl) e, c⟩
  | set S n => obtain ⟨ob, es, ep, t, e, c⟩ := x; exact ⟨ob, es, ep, t, k _ _ (.inl rfl) e, c⟩
  | ins C dx fs =>
    obtain ⟨d, z, ne, e, mA, ⟨od, es, ep, e2, c⟩, r⟩ := x
    exact ⟨ho _ d, z, ne, k _ _ (.inl rfl) e, mA, ⟨od, es, ep, k _ _ (.inr d) e2, c⟩, r⟩
  | own y => obtain ⟨ob, e⟩ := x; exact ⟨ob, k _ _ (.inl rfl) e⟩
  | xd fs => obtain ⟨mA, ⟨od, es, ep, e, c⟩, r⟩ := x; exact ⟨mA, ⟨od, es, ep, k _ _ (.inl rfl) e, c⟩, r⟩
  | rng lo hi => obtain ⟨t, u, v, e⟩ := x; exact ⟨t, u, v, k _ _ (.inl rfl) e⟩
  | frz ob u ih => obtain ⟨e, q⟩ := x; exact ⟨k _ _ (.inl rfl) e, ih q⟩
  | tbl ps => exact TabOk.stay x (fun u q => k _ _ (.inl rfl) q) hf
  | met f y =>
    have e : h.get? a = some (PySem.W.methodObj (.ref f) (.ref y)) := x
    show h'.get? a = some (PySem.W.methodObj (.ref f) (.ref y))
    exact k a _ (.inl rfl) e
  | ext φ => obtain ⟨p, ⟨o, e⟩, st⟩ := x; exact ⟨st _ _ p fun o q => k _ _ (.inl rfl) q, ⟨o, k _ _ (.inl rfl) e⟩, st⟩
theorem HOk.lt (x : HOk P w H h) (e : H a = some o) : a < h.objs.size := (x a o e).lt
theorem HOk.fresh (x : HOk P w H h) (e : h.objs.size ≤ a) : H a = none := by
  cases q : H a with
  | none => rfl
  | some u => exact absurd (Nat.lt_of_lt_of_le (x.lt q) e) (Nat.lt_irrefl _)
/-- every object of the heap is kept -/
theorem HOk.kept (x : HOk P w H h) (k : ∀ b u, h.get? b = some u → h'.get? b = some u) : HOk P w H h' := fun a o e =>
  (x a o e).stay (fun b u _ q => k b u q) (fun _ q => q) fun _ _ q => q
/-- a new object is laid and tracked -/
theorem HOk.laid (x : HOk P w H h) (k : ∀ b u, h.get? b = some u → h'.get? b = some u) (hp : h.objs.size ≤ a) (new : ObjOk P w (upd H a o) h' a o) : HOk P w (upd H a o) h' := fun b u e => by
  have hn := x.fresh hp
  by_cases hb : b = a
  · subst hb; rw [upd_same] at e; cases e; exact new
  · rw [upd_ne hb] at e
    exact (x b u e).stay (hf := fun c w1 w2 q => by rw [upd_ne (ne_of_none q hn)]; exact q) (fun c v _ q => k c v q) (fun c q => by rw [upd_ne (ne_of_none q hn)]; exact q) fun c xs q => by rw [upd_ne (ne_of_none q hn)]; exact q
end

/-- what may be read as u: it is u, or a known u -/
def Rd (H : Hp) (a : Addr) (u : HO) : Prop := H a = some u ∨ ∃ o, H a = some (.frz o u)
theorem Rd.of {H : Hp} {a : Addr} {u : HO} (h : H a = some u) : Rd H a u := .inl h
theorem Rd.ok {P : Program} {w : World} {H : Hp} {h : Heap} {a : Addr} {u : HO} (r : Rd H a u) (x : HOk P w H h) : ObjOk P w H h a u := by
  rcases r with r | ⟨o, r⟩
  · exact x a u r
  · obtain ⟨_, q⟩ := x a _ r
    exact q
/-- what may be written -/
def Mut : Option HO → Prop
  | some (.lst _) => True
  | some (.dK _) => True
  | some (.dT _) => True
  | some (.set _ _) => True
  | some (.ins _ _ _) => True
  | some (.ext _) => True
  | _ => False
section
variable {P : Program} {w : World} {H : Hp} {h h' : Heap} {x e : Addr} {o' : HO}
/-- the object at e is changed: x itself, or the dict of the instance x -/
theorem HOk.write (ok : HOk P w H h) (mu : Mut (H x)) (he : e = x ∨ H e = some (.own x)) (k : ∀ b u, b ≠ e → h.get? b = some u → h'.get? b = some u) (heo : ∃ u, h'.get? e = some u)
    (new : ObjOk P w (upd H x o') h' x o') : HOk P w (upd H x o') h' := fun b u q => by
  have nown : ∀ c y, H c = some (.own y) → c ≠ x := fun c y r z => by subst z; rw [r] at mu; exact mu
  have ntup : ∀ c xs, H c = some (.tup xs) → c ≠ x := fun c xs r z => by subst z; rw [r] at mu; exact mu
  by_cases hb : b = x
  · subst hb; rw [upd_same] at q; cases q; exact new
  · rw [upd_ne hb] at q
    by_cases hbe : b = e
    · have q' : H b = some (.own x) := by
        rcases he with z | z
        · exact absurd (hbe.trans z) hb
        · rw [hbe]; exact z
      rw [q] at q'; cases q'
      obtain ⟨v, hv⟩ := heo
      exact ⟨v, by rw [hbe]; exact hv⟩
    · refine (ok b u q).stay (hf := fun c w1 w2 r => by rw [upd_ne (fun z => by subst z; rw [r] at mu; exact mu)]; exact r) (fun c v hc r => k c v ?_ r) (fun c r => by rw [upd_ne (nown c b r)]; exact r) fun c xs r => by rw [upd_ne (ntup c xs r)]; exact r
      rcases hc with rfl | hc
      · exact hbe
      · rintro rfl
        rcases he with z | z
        · exact nown c b hc z
        · rw [hc] at z; cases z; exact hb rfl
end

/-! ### kept unless tracked; of the frames at fs (the callers') the slots may change (an exception that passes writes there); of the records at ex (iterators) nothing is said -/
structure Un (fs ex : List Addr) (H H' : Hp) (h h' : Heap) : Prop where
  keep : ∀ b o, h.get? b = some o → H b = none → b ∉ fs → b ∉ ex → h'.get? b = some o
  slot : ∀ b o, h.get? b = some o → H b = none → b ∈ fs → b ∉ ex → ∃ sl, h'.get? b = some { o with slots := sl }
  free : ∀ b o, h.get? b = some o → H b = none → b ∉ ex → H' b = none
  there : ∀ b o, h.get? b = some o → b ∉ ex → ∃ o', h'.get? b = some o'
  tups : ∀ b xs, H b = some (.tup xs) → H' b = some (.tup xs)
  frzs : ∀ b o u, H b = some (.frz o u) → H' b = some (.frz o u)
  tbls : ∀ b ps, H b = some (.tbl ps) → ∃ more, H' b = some (.tbl (ps ++ more))
section
variable {fs fs' ex ex' : List Addr} {H H1 H2 : Hp} {h h1 h2 h' : Heap} {a x e : Addr} {o : HO}
theorem Un.any (u : Un fs ex H H1 h h1) {b : Addr} {ob : Obj} (q : h.get? b = some ob) (n : H b = none) (hx : b ∉ ex) : ∃ sl, h1.get? b = some { ob with slots := sl } := by
  by_cases hb : b ∈ fs
  · exact u.slot b ob q n hb hx
  · exact ⟨ob.slots, u.keep b ob q n hb hx⟩
theorem Un.trans (a : Un fs ex H H1 h h1) (b : Un fs ex H1 H2 h1 h2) : Un fs ex H H2 h h2 where
  keep := fun c ob q n hc hx => b.keep c ob (a.keep c ob q n hc hx) (a.free c ob q n hx) hc hx
  slot := fun c ob q n hc hx => by
    obtain ⟨sl, e1⟩ := a.slot c ob q n hc hx
    obtain ⟨sl', e2⟩ := b.slot c _ e1 (a.free c ob q n hx) hc hx
    exact ⟨sl', e2⟩
  free := fun c ob q n hx => by
    obtain ⟨o', e1⟩ := a.there c ob q hx
    exact b.free c o' e1 (a.free c ob q n hx) hx
  there := fun c ob q hx => by
    obtain ⟨o', e1⟩ := a.there c ob q hx
    exact b.there c o' e1 hx
  tups := fun c xs q => b.tups c xs (a.tups c xs q)
  frzs := fun c ob xs q => b.frzs c ob xs (a.frzs c ob xs q)
  tbls := fun c ps q => by
    obtain ⟨m1, e1⟩ := a.tbls c ps q
    obtain ⟨m2, e2⟩ := b.tbls c _ e1
    exact ⟨m1 ++ m2, by rw [e2, Array.append_assoc]⟩
theorem Un.kept (k : ∀ b u, h.get? b = some u → h'.get? b = some u) : Un fs ex H H h h' :=
  ⟨fun b ob q _ _ _ => k b ob q, fun b ob q _ _ _ => ⟨ob.slots, k b ob q⟩, fun _ _ _ n _ => n, fun b ob q _ => ⟨ob, k b ob q⟩, fun _ _ q => q, fun _ _ _ q => q, fun _ ps q => ⟨#[], by rw [q]; simp⟩⟩
theorem Un.refl : Un fs ex H H h h := Un.kept fun _ _ q => q
theorem Un.laid (k : ∀ b u, h.get? b = some u → h'.get? b = some u) (hp : h.objs.size ≤ a) (hn : H a = none) : Un fs ex H (upd H a o) h h' where
  keep := fun b u q _ _ _ => k b u q
  slot := fun b u q _ _ _ => ⟨u.slots, k b u q⟩
  free := fun b u q n _ => by rw [upd_ne (Nat.ne_of_lt (Nat.lt_of_lt_of_le (Heap.lt_size q) hp))]; exact n
  there := fun b u q _ => ⟨u, k b u q⟩
  tups := fun b xs q => by rw [upd_ne (ne_of_none q hn)]; exact q
  frzs := fun b u xs q => by rw [upd_ne (ne_of_none q hn)]; exact q
  tbls := fun b ps q => ⟨#[], by rw [upd_ne (ne_of_none q hn), q]; simp⟩
theorem Un.write (mu : Mut (H x)) (he : e = x ∨ H e = some (.own x)) (k : ∀ b u, b ≠ e → h.get? b = some u → h'.get? b = some u) (heo : ∃ u, h'.get? e = some u) : Un fs ex H (upd H x o) h h' := by
  have hx : ∀ b, H b = none → b ≠ x := fun b n z => by subst z; rw [n] at mu; exact mu
  have hb : ∀ b, H b = none → b ≠ e := fun b n z => by
    subst z
    rcases he with r | r
    · exact hx b n r
    · rw [n] at r; cases r
  have hm : ∀ b u, H b = some u → ¬ Mut (some u) → b ≠ x := fun b u q nm z => by subst z; rw [q] at mu; exact nm mu
  refine ⟨fun b u q n _ _ => k b u (hb b n) q, fun b u q n _ _ => ⟨u.slots, k b u (hb b n) q⟩, fun b u q n _ => by rw [upd_ne (hx b n)]; exact n, fun b u q _ => ?_,
    fun b xs q => by rw [upd_ne (hm b _ q fun z => z)]; exact q, fun b u xs q => by rw [upd_ne (hm b _ q fun z => z)]; exact q, fun b ps q => ⟨#[], by rw [upd_ne (hm b _ q fun z => z), q]; simp⟩⟩
  by_cases hbe : b = e
  · subst hbe; exact heo
  · exact ⟨u, k b u hbe q⟩
theorem Un.mono (u : Un fs ex H H1 h h1) (hs : ∀ b ∈ fs, b ∈ fs') (hx : ∀ b ∈ ex, b ∈ ex') : Un fs' ex' H H1 h h1 :=
  ⟨fun b ob q n hb he => u.keep b ob q n (fun z => hb (hs b z)) fun z => he (hx b z), fun _ _ q n _ he => u.any q n fun z => he (hx _ z), fun b ob q n he => u.free b ob q n fun z => he (hx b z), fun b ob q he => u.there b ob q fun z => he (hx b z), u.tups, u.frzs, u.tbls⟩
end

/-! ### the heap without what is tracked -/
def trk (h : Heap) (H : Hp) : List Addr := (List.range h.objs.size).filter fun a => (H a).isSome
def hidT (h : Heap) (H : Hp) : Heap := PySem.W.hideAll h (trk h H)
theorem hidT_size (h : Heap) (H : Hp) : (hidT h H).objs.size = h.objs.size := PySem.W.hideAll_size _ _
theorem hidT_get {h : Heap} {H : Hp} {b : Addr} {o : Obj} (e : h.get? b = some o) (n : H b = none) : (hidT h H).get? b = some o :=
  PySem.W.hideAll_get _ e fun hm => by
    have q : (H b).isSome = true := (List.mem_filter.mp hm).2
    rw [n] at q; simp at q
theorem of_hidT {h : Heap} {H : Hp} {b : Addr} {o : Obj} (e : (hidT h H).get? b = some o) : h.get? b = some o ∧ H b = none := by
  have e' : h.get? b = some o := PySem.W.of_hideAll (trk h H) e
  refine ⟨e', ?_⟩
  cases q : H b with
  | none => rfl
  | some x =>
    have hm : b ∈ trk h H := List.mem_filter.mpr ⟨List.mem_range.mpr (Heap.lt_size e'), by simp [q]⟩
    have z : (hidT h H).get? b = none := PySem.W.hideAll_none (trk h H) hm
    rw [z] at e; cases e

/-! ### OpenK's ledger, filled with every new object but one -/
def allNews (g h : Heap) (L : Addr) : List (Addr × Obj) := (List.range h.objs.size).filterMap fun a => if a = L ∨ (g.get? a).isSome = true then none else (h.get? a).map fun o => (a, o)
def rest (g h : Heap) (L d : Addr) : List (Addr × Obj) := (allNews g h L).filter fun p => decide (p.1 ≠ d)
end L2

namespace L2
open PySem PySem.Spec PyProof.Rows

/-- the module's facts, over the base: the heap at the law's entry without what is tracked there -/
structure Mod (K : PySem.W.Frag) (mg : Str → Option Value) (base : Heap) : Prop where
  kin : K.In base
  glob : base.Ns mainGlobals mg
  blt : ∃ mb, base.Ns builtinsNs mb ∧ ∀ x : Str, x ≠ "__name__" → mb x = bootBuiltins x
  nolimit : base.NoLimit

/-- the context: a def's body (or a comprehension's block) running. base: fixed through the whole law; s₀, H₀: the entry; outer: the frames whose slots others may change (a def's callers); stack: all frames that run;
   ex: iterators that were made ahead of the entry and are walked here (a comprehension's); fn: the names whose cells were made at the entry (a def: all; a comprehension's block: its own); calm: not within an except suite; pn: pins that every state bears; xe: what is wanted of an exception that leaves the code -/
structure Cx where
  prog : Program
  w : World
  K : PySem.W.Frag
  mg : Str → Option Value
  base : Heap
  A : Around
  N : List Str
  s₀ : Shared
  H₀ : Hp
  env : Env
  outer : List Env
  stack : List Env
  ex : List Addr
  fn : Str → Bool
  calm : Bool
  pn : List (Addr × Obj)
  xe : Value → Shared → Prop
/-- the callers' frames -/
def frs (l : List Env) : List Addr := l.filterMap (·.frame)
abbrev Cx.fs (X : Cx) : List Addr := frs X.outer

def Vis (sc : Scope) (x : Str) : Prop := sc.names.lookup x = some .local ∨ sc.names.lookup x = some .cell ∨ sc.names.lookup x = some .free
def Loc (sc : Scope) (x : Str) : Prop := sc.names.lookup x = some .local ∨ sc.names.lookup x = some .cell
def Look (env : Env) (h : Heap) (m : Str → Option Value) (x : Str) (u : Value) : Prop :=
  (env.kindOf x = some .local ∧ m x = some u) ∨ ((env.kindOf x = some .cell ∨ env.kindOf x = some .free) ∧ ∃ c, env.cells.lookup x = some c ∧ h.IsCell c (some u))

/-- the tables of the defs' code objects are tracked, and the module knows its builtins -/
structure TB (P : Program) (K : PySem.W.Frag) (mg : Str → Option Value) (base : Heap) (H : Hp) : Prop where
  bm : ∃ (b : Addr) (o : Obj), mg "__builtins__" = some (.ref b) ∧ b ≠ builtinsNs ∧ base.get? b = some o ∧ o.cls = .type "module" ∧ o.dict = some builtinsNs ∧ o.data = .plain
  tab : ∀ (x : Str) (c T : Addr), PySem.W.tabIn K x = some (c, T) → (recsOf P).any (fun d => d.name == x) = true → PySem.W.CodeHd base c T ∧ ∃ ps, H T = some (.tbl ps)
structure Cx.Ok (X : Cx) : Prop where
  mod : Mod X.K X.mg X.base
  kind : X.env.scope.kind = .function
  glob : X.env.globals = mainGlobals
  blt : X.env.builtins = builtinsNs
  above : X.s₀.heap.objs.size ≤ X.env.locals
  inj : ∀ x y c, X.env.cells.lookup x = some c → X.env.cells.lookup y = some c → x = y
  has : ∀ x, (X.env.kindOf x = some .cell ∨ X.env.kindOf x = some .free) → ∃ c, X.env.cells.lookup x = some c
  cab : ∀ x c, X.fn x = true → X.env.cells.lookup x = some c → X.s₀.heap.objs.size ≤ c
  hd : X.calm = true → X.A.handled = none
  frames : X.A.frames = some X.stack
  stk : X.stack = X.outer ∨ (X.stack = X.env :: X.outer ∧ X.env.frame = some X.env.locals)
  exf : ∀ b ∈ X.ex, b ≠ X.env.locals ∧ ∀ x c, X.env.cells.lookup x = some c → c ≠ b
  bs : ∀ b o, X.base.get? b = some o → X.s₀.heap.get? b = some o ∧ X.H₀ b = none
  bsz : X.base.objs.size ≤ X.s₀.heap.objs.size
  noex : ∀ b o, X.base.get? b = some o → b ∉ X.ex
  exfs : ∀ b ∈ X.ex, b ∉ X.fs
  funs : X.s₀.heap.FunFrames X.base X.outer
  frf : ∀ b ∈ X.fs, X.H₀ b = none
  tb : TB X.prog X.K X.mg X.base X.H₀

structure Inv (X : Cx) (pins : List (Addr × Obj)) (σ : List (Option V)) (H : Hp) (s : Shared) : Prop where
  ok : X.Ok
  os : s.os = X.s₀.os
  bare : AllBare s.gens
  base : Un X.fs X.ex X.H₀ H X.s₀.heap s.heap
  loc : ∃ m, s.heap.Ns X.env.locals m ∧ ∀ (i : Nat) (x : Str) (v : V), X.N[i]? = some x → σ[i]? = some (some v) → Vis X.env.scope x → ∃ u, RelV v u ∧ Look X.env s.heap m x u
  cell : ∀ x c, X.env.cells.lookup x = some c → ∃ v, s.heap.IsCell c v
  free : H X.env.locals = none
  freeC : ∀ x c, X.env.cells.lookup x = some c → H c = none
  pin : ∀ p ∈ X.pn ++ pins, s.heap.get? p.1 = some p.2 ∧ H p.1 = none ∧ p.1 ≠ X.env.locals ∧ p.1 ∉ X.fs ∧ ∀ v, p.2.data ≠ .cell v
  hok : HOk X.prog X.w H s.heap
  len : σ.length = X.N.length

section
variable {X : Cx} {pins : List (Addr × Obj)} {σ : List (Option V)} {H H' : Hp} {s : Shared} {h' : Heap}

theorem Cx.Ok.nofr (ok : X.Ok) {b : Addr} {o : Obj} (e : X.base.get? b = some o) : b ∉ X.fs := fun hb => by
  have := (ok.funs.mem hb).1
  rw [e] at this; cases this
theorem Inv.bs (I : Inv X pins σ H s) : ∀ b o, X.base.get? b = some o → s.heap.get? b = some o ∧ H b = none := fun b o e =>
  ⟨I.base.keep b o (I.ok.bs b o e).1 (I.ok.bs b o e).2 (I.ok.nofr e) (I.ok.noex b o e), I.base.free b o (I.ok.bs b o e).1 (I.ok.bs b o e).2 (I.ok.noex b o e)⟩
theorem Inv.bk (I : Inv X pins σ H s) : ∀ b o, X.base.get? b = some o → s.heap.get? b = some o := fun b o e => (I.bs b o e).1
theorem Inv.tb (I : Inv X pins σ H s) : TB X.prog X.K X.mg X.base H := ⟨I.ok.tb.bm, fun x c T h1 h2 => by
  obtain ⟨z, ps, e⟩ := I.ok.tb.tab x c T h1 h2
  obtain ⟨more, e'⟩ := I.base.tbls T ps e
  exact ⟨z, _, e'⟩⟩
theorem Inv.mod (I : Inv X pins σ H s) : Mod X.K X.mg X.base := I.ok.mod
theorem Inv.kIn (I : Inv X pins σ H s) : X.K.In s.heap := I.ok.mod.kin.keeps I.bk
theorem Inv.nolimit (I : Inv X pins σ H s) : s.heap.NoLimit := I.ok.mod.nolimit.keeps I.bk
theorem Inv.lt (I : Inv X pins σ H s) : X.env.locals < s.heap.objs.size := let ⟨_, hn, _⟩ := I.loc; hn.lt
theorem Inv.sz (I : Inv X pins σ H s) : X.s₀.heap.objs.size ≤ s.heap.objs.size := Nat.le_trans I.ok.above (Nat.le_of_lt I.lt)
theorem Inv.nofs (I : Inv X pins σ H s) {a : Addr} (h : s.heap.objs.size ≤ a) : a ∉ X.fs := fun hb => by
  obtain ⟨_, o, ho, _⟩ := I.ok.funs.mem hb
  exact absurd (Nat.lt_of_lt_of_le (Heap.lt_size ho) (Nat.le_trans I.sz h)) (Nat.lt_irrefl _)
theorem Inv.cne (I : Inv X pins σ H s) : ∀ x c, X.env.cells.lookup x = some c → c ≠ X.env.locals := fun x c e z => by
  obtain ⟨v, o, ho, hd⟩ := I.cell x c e
  obtain ⟨m, ⟨o', es, ep, ho', hd', _⟩, _⟩ := I.loc
  rw [z, ho'] at ho; cases ho; rw [hd'] at hd; cases hd
theorem Inv.funs (I : Inv X pins σ H s) : s.heap.FunFrames X.base X.outer := by
  have all : ∀ (l : List Env), (∀ b ∈ frs l, b ∈ X.fs) → X.s₀.heap.FunFrames X.base l → s.heap.FunFrames X.base l := by
    intro l
    induction l with
    | nil => intro _ _; trivial
    | cons env r ih =>
      intro hs hl
      obtain ⟨hk, ⟨L, o, hf, hn, ho, hd⟩, hr⟩ := hl
      have hL : L ∈ X.fs := hs L (by unfold frs; rw [List.filterMap_cons, hf]; exact List.mem_cons_self)
      obtain ⟨sl, e⟩ := I.base.slot L o ho (I.ok.frf L hL) hL fun z => I.ok.exfs L z hL
      exact ⟨hk, ⟨L, _, hf, hn, e, hd⟩, ih (fun b hb => hs b (by unfold frs; rw [List.filterMap_cons, hf]; exact List.mem_cons_of_mem _ hb)) hr⟩
  exact all X.outer (fun _ hb => hb) I.ok.funs

/-- the frames that run, for a call -/
theorem Inv.stack (I : Inv X pins σ H s) : s.heap.FunFrames X.base X.stack := by
  rcases I.ok.stk with e | ⟨e, hf⟩
  · rw [e]; exact I.funs
  · rw [e]
    obtain ⟨m, hn, _⟩ := I.loc
    refine .cons (by rw [I.ok.kind]; decide) hf hn ?_ I.funs
    exact Heap.get?_none_of_le (Nat.le_trans I.ok.bsz I.ok.above)
theorem Inv.stkSub (I : Inv X pins σ H s) : ∀ b ∈ frs X.stack, b ∈ X.env.locals :: X.fs := fun b hb => by
  rcases I.ok.stk with e | ⟨e, hf⟩
  · rw [e] at hb; exact List.mem_cons_of_mem _ hb
  · rw [e] at hb
    unfold frs at hb
    rw [List.filterMap_cons, hf] at hb
    exact hb
theorem Inv.stkFree (I : Inv X pins σ H s) : ∀ b ∈ frs X.stack, H b = none := fun b hb => by
  rcases List.mem_cons.mp (I.stkSub b hb) with e | hb
  · rw [e]; exact I.free
  · obtain ⟨_, o, ho, _⟩ := I.ok.funs.mem hb
    exact I.base.free b o ho (I.ok.frf b hb) fun z => I.ok.exfs b z hb

/-- THE STEP: the untracked objects but the frame and the records at ch are kept (the callers' frames up to slots), the frame's map is kept, the new abstract heap is held -/
theorem Inv.step {g' : Array GenState} {t' : Nat} {d' : Drawn} {ch : List Addr} (I : Inv X pins σ H s)
    (hch : ∀ b ∈ ch, (b ∈ X.ex ∨ X.s₀.heap.objs.size ≤ b) ∧ b ≠ X.env.locals ∧ (∀ x c, X.env.cells.lookup x = some c → c ≠ b) ∧ ∀ p ∈ X.pn ++ pins, p.1 ≠ b)
    (keep : ∀ b o, b ≠ X.env.locals → b ∉ X.fs → b ∉ ch → s.heap.get? b = some o → H b = none → h'.get? b = some o)
    (slot : ∀ b o, b ≠ X.env.locals → b ∈ X.fs → b ∉ ch → s.heap.get? b = some o → H b = none → ∃ sl, h'.get? b = some { o with slots := sl }) (free : ∀ b o, b ∉ ch → s.heap.get? b = some o → H b = none → H' b = none)
    (there : ∀ b o, b ∉ ch → s.heap.get? b = some o → ∃ o', h'.get? b = some o')
    (tups : ∀ b xs, H b = some (.tup xs) → H' b = some (.tup xs)) (frzs : ∀ b o u, H b = some (.frz o u) → H' b = some (.frz o u)) (tbls : ∀ b ps, H b = some (.tbl ps) → ∃ more, H' b = some (.tbl (ps ++ more)))
    (ns : ∀ m, s.heap.Ns X.env.locals m → h'.Ns X.env.locals m) (hok : HOk X.prog X.w H' h') (hg : AllBare g') :
    Inv X pins σ H' { s with heap := h', gens := g', drawn := d', toks := t' } := by
  have neL : ∀ b o, X.s₀.heap.get? b = some o → b ≠ X.env.locals := fun b o e => Nat.ne_of_lt (Nat.lt_of_lt_of_le (Heap.lt_size e) I.ok.above)
  have neC : ∀ b o, X.s₀.heap.get? b = some o → b ∉ X.ex → b ∉ ch := fun b o e hx hb => by
    rcases (hch b hb).1 with z | z
    · exact hx z
    · exact absurd (Nat.lt_of_lt_of_le (Heap.lt_size e) z) (Nat.lt_irrefl _)
  have cellK : ∀ x c, X.env.cells.lookup x = some c → ∀ v, s.heap.IsCell c v → h'.IsCell c v := fun x c e v hh => by
    obtain ⟨o, ho, hd⟩ := hh
    have nch : c ∉ ch := fun z => (hch c z).2.2.1 x c e rfl
    by_cases hc : c ∈ X.fs
    · obtain ⟨sl, q⟩ := slot c o (I.cne x c e) hc nch ho (I.freeC x c e)
      exact ⟨_, q, hd⟩
    · exact ⟨o, keep c o (I.cne x c e) hc nch ho (I.freeC x c e), hd⟩
  refine ⟨I.ok, I.os, hg, ⟨fun b o e n hb hx => ?_, fun b o e n hb hx => ?_, fun b o e n hx => ?_, fun b o e hx => ?_, fun b xs e => tups b xs (I.base.tups b xs e), fun b o xs e => frzs b o xs (I.base.frzs b o xs e), fun b ps e => ?_⟩, ?_, fun x c e => ?_, ?_, fun x c e => ?_, fun p hp => ?_, hok, I.len⟩
  · exact keep b o (neL b o e) hb (neC b o e hx) (I.base.keep b o e n hb hx) (I.base.free b o e n hx)
  · obtain ⟨sl, e1⟩ := I.base.slot b o e n hb hx
    obtain ⟨sl', e2⟩ := slot b _ (neL b o e) hb (neC b o e hx) e1 (I.base.free b o e n hx)
    exact ⟨sl', e2⟩
  · obtain ⟨o', e1⟩ := I.base.there b o e hx
    exact free b o' (neC b o e hx) e1 (I.base.free b o e n hx)
  · obtain ⟨o', e1⟩ := I.base.there b o e hx
    exact there b o' (neC b o e hx) e1
  · obtain ⟨m1, e1⟩ := I.base.tbls b ps e
    obtain ⟨m2, e2⟩ := tbls b _ e1
    exact ⟨m1 ++ m2, by rw [e2, Array.append_assoc]⟩
  · obtain ⟨m, hn, hl⟩ := I.loc
    refine ⟨m, ns m hn, fun i x v e1 e2 e3 => ?_⟩
    obtain ⟨u, r, l⟩ := hl i x v e1 e2 e3
    refine ⟨u, r, ?_⟩
    rcases l with l | ⟨k, c, e, z⟩
    · exact .inl l
    · exact .inr ⟨k, c, e, cellK x c e _ z⟩
  · obtain ⟨v, z⟩ := I.cell x c e
    exact ⟨v, cellK x c e v z⟩
  · obtain ⟨m, ⟨o, _, _, ho, _⟩, _⟩ := I.loc
    exact free _ o (fun z => (hch _ z).2.1 rfl) ho I.free
  · obtain ⟨v, o, ho, hd⟩ := I.cell x c e
    exact free c o (fun z => (hch c z).2.2.1 x c e rfl) ho (I.freeC x c e)
  · obtain ⟨e, n, ne, nf, d⟩ := I.pin p hp
    have nch : p.1 ∉ ch := fun z => (hch p.1 z).2.2.2 p hp rfl
    exact ⟨keep p.1 p.2 ne nf nch e n, free p.1 p.2 nch e n, ne, nf, d⟩
/-- .. where the frame's own object is kept too -/
theorem Inv.un {t' : Nat} (I : Inv X pins σ H s) (u : Un X.fs [] H H' s.heap h') (hok : HOk X.prog X.w H' h') : Inv X pins σ H' { s with heap := h', toks := t' } := by
  obtain ⟨m, ⟨o, es, ep, ho, r⟩, _⟩ := id I.loc
  obtain ⟨sl, hL⟩ := u.any ho I.free (by simp)
  exact I.step (g' := s.gens) (d' := s.drawn) (ch := []) (fun _ z => nomatch z) (fun b o _ hb _ e n => u.keep b o e n hb (by simp)) (fun b o _ hb _ e n => u.slot b o e n hb (by simp)) (fun b o _ e n => u.free b o e n (by simp)) (fun b o _ e => u.there b o e (by simp)) u.tups u.frzs u.tbls (fun m' hm => by
    obtain ⟨o', es', ep', ho', r'⟩ := hm
    rw [ho] at ho'; cases ho'
    exact ⟨_, es', ep', hL, r'⟩) hok I.bare
/-- behind a call (or a comprehension's block): the slots of this frame may have changed too, the records at ch may have turned -/
theorem Inv.call {g' : Array GenState} {t' : Nat} {d' : Drawn} {ch : List Addr} (I : Inv X pins σ H s) (u : Un (frs X.stack) ch H H' s.heap h') (hok : HOk X.prog X.w H' h') (hg : AllBare g')
    (hch : ∀ b ∈ ch, (b ∈ X.ex ∨ X.s₀.heap.objs.size ≤ b) ∧ b ≠ X.env.locals ∧ (∀ x c, X.env.cells.lookup x = some c → c ≠ b) ∧ ∀ p ∈ X.pn ++ pins, p.1 ≠ b) :
    Inv X pins σ H' { s with heap := h', gens := g', drawn := d', toks := t' } := by
  obtain ⟨m, ⟨o, es, ep, ho, r⟩, _⟩ := id I.loc
  obtain ⟨sl, hL⟩ := u.any ho I.free fun z => (hch _ z).2.1 rfl
  exact I.step (ch := ch) hch (fun b o hL hb hc e n => u.keep b o e n (fun z => (List.mem_cons.mp (I.stkSub b z)).elim hL hb) hc) (fun b o _ _ hc e n => u.any e n hc) (fun b o hc e n => u.free b o e n hc) (fun b o hc e => u.there b o e hc) u.tups u.frzs u.tbls (fun m' hm => by
    obtain ⟨o', es', ep', ho', r'⟩ := hm
    rw [ho] at ho'; cases ho'
    exact ⟨_, es', ep', hL, r'⟩) hok hg
/-- an untracked record of ours (an iterator) has turned -/
theorem Inv.turned {t' : Nat} {it : Addr} (I : Inv X pins σ H s) (k : ∀ b o, b ≠ it → s.heap.get? b = some o → h'.get? b = some o) (hn : H it = none) (hL : it ≠ X.env.locals)
    (h1 : it ∈ X.ex ∨ X.s₀.heap.objs.size ≤ it) (h2 : ∀ x c, X.env.cells.lookup x = some c → c ≠ it) (h3 : ∀ p ∈ X.pn ++ pins, p.1 ≠ it) : Inv X pins σ H { s with heap := h', toks := t' } := by
  have nit : ∀ b u, H b = some u → b ≠ it := fun b u e z => by rw [z, hn] at e; cases e
  refine I.step (g' := s.gens) (d' := s.drawn) (ch := [it]) (fun b hb => ?_) (fun b o _ _ hc e _ => k b o (fun z => hc (by simp [z])) e) (fun b o _ _ hc e _ => ⟨o.slots, k b o (fun z => hc (by simp [z])) e⟩) (fun _ _ _ _ n => n)
    (fun b o hc e => ⟨o, k b o (fun z => hc (by simp [z])) e⟩) (fun _ _ e => e) (fun _ _ _ e => e) (fun b ps e => ⟨#[], by rw [e]; simp⟩) (fun m hm => ?_) (fun b u e => ?_) I.bare
  · have e : b = it := by simpa using hb
    subst e
    exact ⟨h1, hL, h2, h3⟩
  · obtain ⟨o, es, ep, ho, r⟩ := hm
    exact ⟨o, es, ep, k _ o (Ne.symm hL) ho, r⟩
  · refine (I.hok b u e).stay (fun c v hc q => k c v ?_ q) (fun _ q => q) fun _ _ q => q
    rcases hc with z | z
    · rw [z]; exact nit b u e
    · exact nit c _ z
theorem Inv.tok (I : Inv X pins σ H s) (t : Nat) : Inv X pins σ H { s with toks := t } := I.un (h' := s.heap) (t' := t) Un.refl I.hok
/-- all objects kept -/
theorem Inv.kept {t' : Nat} (I : Inv X pins σ H s) (k : ∀ b u, s.heap.get? b = some u → h'.get? b = some u) : Inv X pins σ H { s with heap := h', toks := t' } := I.un (Un.kept k) (I.hok.kept k)
/-- a new object laid and tracked -/
theorem Inv.laid {a : Addr} {o : HO} {t' : Nat} (I : Inv X pins σ H s) (k : ∀ b u, s.heap.get? b = some u → h'.get? b = some u) (hp : s.heap.objs.size ≤ a) (new : ObjOk X.prog X.w (upd H a o) h' a o) :
    Inv X pins σ (upd H a o) { s with heap := h', toks := t' } := I.un (Un.laid k hp (I.hok.fresh hp)) (I.hok.laid k hp new)
/-- an object written -/
theorem Inv.write {x e : Addr} {o : HO} {t' : Nat} (I : Inv X pins σ H s) (mu : Mut (H x)) (he : e = x ∨ H e = some (.own x)) (k : ∀ b u, b ≠ e → s.heap.get? b = some u → h'.get? b = some u) (heo : ∃ u, h'.get? e = some u)
    (new : ObjOk X.prog X.w (upd H x o) h' x o) : Inv X pins σ (upd H x o) { s with heap := h', toks := t' } := I.un (Un.write mu he k heo) (I.hok.write mu he k heo new)
theorem Inv.pins_of {pins' : List (Addr × Obj)} (I : Inv X pins σ H s) (h : ∀ p ∈ pins', s.heap.get? p.1 = some p.2 ∧ H p.1 = none ∧ p.1 ≠ X.env.locals ∧ p.1 ∉ X.fs ∧ ∀ v, p.2.data ≠ .cell v) : Inv X pins' σ H s :=
  ⟨I.ok, I.os, I.bare, I.base, I.loc, I.cell, I.free, I.freeC, fun p hp => (List.mem_append.mp hp).elim (fun z => I.pin p (List.mem_append_left _ z)) (h p), I.hok, I.len⟩

theorem nodup_ix {N : List Str} (hN : N.Nodup) {i j : Nat} {x : Str} (a : N[i]? = some x) (b : N[j]? = some x) : i = j := by
  obtain ⟨h1, e1⟩ := List.getElem?_eq_some_iff.mp a
  obtain ⟨h2, e2⟩ := List.getElem?_eq_some_iff.mp b
  exact (List.getElem_inj hN).mp (e1.trans e2.symm)

/-- a name is stored; what changed -/
theorem store_ok2 {M : Model} {A : Around} {E : Value → Shared → Prop} {i : Nat} {x : Str} {v : V} {u : Value} {Q : Unit → Shared → Prop} (I : Inv X pins σ H s) (hN : X.N.Nodup) (hi : X.N[i]? = some x) (hx : Loc X.env.scope x) (r : RelV v u)
    (h : ∀ s', Inv X pins (σ.set i (some v)) H s' → (∃ a, Heap.SameBut a s.heap s'.heap ∧ (a = X.env.locals ∨ X.env.cells.lookup x = some a)) → Q () s') (hf : X.fn x = true ∨ X.env.scope.names.lookup x = some .local := by first | exact .inl rfl | exact .inr rfl | assumption) : wpAny M A (storeName X.env x u) Q E s := by
  obtain ⟨m, hn, hl⟩ := id I.loc
  have hcls : (X.env.scope.kind == .class || (X.env.scope.kind == .module && X.env.locals != X.env.globals)) = false := by rw [I.ok.kind]; rfl
  have hiσ : i < σ.length := by rw [I.len]; exact (List.getElem?_eq_some_iff.mp hi).1
  have cne := I.cne
  have tracked : ∀ {a : Addr} {h' : Heap}, (∃ o, s.heap.get? a = some o ∧ H a = none) → Heap.SameBut a s.heap h' → HOk X.prog X.w H h' := fun {a h'} ha hs b ob e => by
    obtain ⟨_, _, hfree⟩ := ha
    refine (I.hok b ob e).stay (fun c w' hc q => (hs.2 c ?_).trans q) (fun _ q => q) fun _ _ q => q
    rintro rfl
    rcases hc with rfl | hc
    · rw [hfree] at e; cases e
    · rw [hfree] at hc; cases hc
  rcases hx with hk | hk
  · refine wpAny_storeName_local hk hn (fun h' hn' hs => ?_) hcls
    obtain ⟨oL, _, _, hoL, _⟩ := id hn
    refine h _ ⟨I.ok, I.os, I.bare, ⟨fun b o e n hb hx => ?_, fun b o e n hb hx => ?_, I.base.free, fun b o e hx => ?_, I.base.tups, I.base.frzs, I.base.tbls⟩, ⟨_, hn', fun j y v' e1 e2 e3 => ?_⟩, fun y c e => ?_, I.free, I.freeC, fun p hp => ?_, tracked ⟨oL, hoL, I.free⟩ hs, by simpa using I.len⟩ ⟨_, hs, .inl rfl⟩
    · exact (hs.2 b (Nat.ne_of_lt (Nat.lt_of_lt_of_le (Heap.lt_size e) I.ok.above))).trans (I.base.keep b o e n hb hx)
    · obtain ⟨sl, e1⟩ := I.base.slot b o e n hb hx
      exact ⟨sl, (hs.2 b (Nat.ne_of_lt (Nat.lt_of_lt_of_le (Heap.lt_size e) I.ok.above))).trans e1⟩
    · obtain ⟨o', e1⟩ := I.base.there b o e hx
      exact ⟨o', (hs.2 b (Nat.ne_of_lt (Nat.lt_of_lt_of_le (Heap.lt_size e) I.ok.above))).trans e1⟩
    · by_cases hj : j = i
      · subst hj
        rw [hi] at e1; cases e1
        rw [List.getElem?_set_self hiσ] at e2
        cases e2
        exact ⟨u, r, .inl ⟨hk, by simp⟩⟩
      · rw [List.getElem?_set_ne (Ne.symm hj)] at e2
        obtain ⟨u', r', q⟩ := hl j y v' e1 e2 e3
        refine ⟨u', r', ?_⟩
        rcases q with ⟨k, e⟩ | ⟨k, c, e, z⟩
        · refine .inl ⟨k, ?_⟩
          have : y ≠ x := fun e => hj (nodup_ix hN e1 (e ▸ hi))
          simp [this, e]
        · exact .inr ⟨k, c, e, z.sameBut hs (cne y c e)⟩
    · obtain ⟨w', z⟩ := I.cell y c e
      exact ⟨w', z.sameBut hs (cne y c e)⟩
    · obtain ⟨e, n, ne, nf, d⟩ := I.pin p hp
      exact ⟨(hs.2 p.1 ne).trans e, n, ne, nf, d⟩
  · have hfn : X.fn x = true := by
      rcases hf with z | z
      · exact z
      · rw [z] at hk; cases hk
    obtain ⟨c, hc⟩ := I.ok.has x (.inl hk)
    obtain ⟨w', z⟩ := I.cell x c hc
    refine wpAny_storeName_cell I.ok.kind hk hc z (fun h' hc' hs => ?_)
    obtain ⟨oc, hoc, hocd⟩ := id z
    refine h { s with heap := h' } ⟨I.ok, I.os, I.bare, ⟨fun b o e n hb hx => ?_, fun b o e n hb hx => ?_, I.base.free, fun b o e hx => ?_, I.base.tups, I.base.frzs, I.base.tbls⟩, ⟨m, hn.sameBut hs (Ne.symm (cne x c hc)), fun j y v' e1 e2 e3 => ?_⟩, fun y c' e => ?_, I.free, I.freeC, fun p hp => ?_, tracked ⟨oc, hoc, I.freeC x c hc⟩ hs, by simpa using I.len⟩ ⟨c, hs, .inr hc⟩
    · exact (hs.2 b (Nat.ne_of_lt (Nat.lt_of_lt_of_le (Heap.lt_size e) (I.ok.cab x c hfn hc)))).trans (I.base.keep b o e n hb hx)
    · obtain ⟨sl, e1⟩ := I.base.slot b o e n hb hx
      exact ⟨sl, (hs.2 b (Nat.ne_of_lt (Nat.lt_of_lt_of_le (Heap.lt_size e) (I.ok.cab x c hfn hc)))).trans e1⟩
    · obtain ⟨o', e1⟩ := I.base.there b o e hx
      exact ⟨o', (hs.2 b (Nat.ne_of_lt (Nat.lt_of_lt_of_le (Heap.lt_size e) (I.ok.cab x c hfn hc)))).trans e1⟩
    · by_cases hj : j = i
      · subst hj
        rw [hi] at e1; cases e1
        rw [List.getElem?_set_self hiσ] at e2
        cases e2
        exact ⟨u, r, .inr ⟨.inl hk, c, hc, hc'⟩⟩
      · rw [List.getElem?_set_ne (Ne.symm hj)] at e2
        obtain ⟨u', r', q⟩ := hl j y v' e1 e2 e3
        refine ⟨u', r', ?_⟩
        rcases q with q | ⟨k, c', e, z'⟩
        · exact .inl q
        · refine .inr ⟨k, c', e, z'.sameBut hs ?_⟩
          rintro rfl
          exact hj (nodup_ix hN e1 (I.ok.inj _ _ _ e hc ▸ hi))
    · by_cases hcc : c' = c
      · subst hcc; exact ⟨_, hc'⟩
      · obtain ⟨w2, z2⟩ := I.cell y c' e
        exact ⟨w2, z2.sameBut hs hcc⟩
    · obtain ⟨e, n, ne, nf, d⟩ := I.pin p hp
      refine ⟨(hs.2 p.1 ?_).trans e, n, ne, nf, d⟩
      intro q
      rw [q, hoc] at e
      have q' : oc = p.2 := Option.some.inj e
      exact d w' (by rw [← q']; exact hocd)
theorem store_ok {M : Model} {A : Around} {E : Value → Shared → Prop} {i : Nat} {x : Str} {v : V} {u : Value} {Q : Unit → Shared → Prop} (I : Inv X pins σ H s) (hN : X.N.Nodup) (hi : X.N[i]? = some x) (hx : Loc X.env.scope x) (r : RelV v u)
    (h : ∀ s', Inv X pins (σ.set i (some v)) H s' → Q () s') (hf : X.fn x = true ∨ X.env.scope.names.lookup x = some .local := by first | exact .inl rfl | exact .inr rfl | assumption) : wpAny M A (storeName X.env x u) Q E s :=
  store_ok2 I hN hi hx r (fun s' I' _ => h s' I') hf
/-- behind a call or a block, the state as it is -/
theorem Inv.call' {s' : Shared} {ch : List Addr} (I : Inv X pins σ H s) (ho : s'.os = s.os) (u : Un (frs X.stack) ch H H' s.heap s'.heap) (hok : HOk X.prog X.w H' s'.heap) (hg : AllBare s'.gens)
    (hch : ∀ b ∈ ch, (b ∈ X.ex ∨ X.s₀.heap.objs.size ≤ b) ∧ b ≠ X.env.locals ∧ (∀ x c, X.env.cells.lookup x = some c → c ≠ b) ∧ ∀ p ∈ X.pn ++ pins, p.1 ≠ b) : Inv X pins σ H' s' := by
  obtain ⟨h', g', d', t', o'⟩ := s'
  have e : o' = s.os := ho
  subst e
  exact I.call (g' := g') (t' := t') (d' := d') u hok hg hch
end

/-! ### the judgements -/
/-- an exception: its class, its own dict's address (where it has one), the abstract heap behind it -/
abbrev XK := Value → Option Addr → Hp → Prop
abbrev St := List (Option V)
abbrev VK := V → Hp → Prop
/-- an expression's reading; a test's; an argument list's -/
abbrev TE := St → Hp → VK → Prop
abbrev TT := St → Hp → (Bool → Hp → Prop) → Prop
abbrev TA := St → Hp → (List V → Hp → Prop) → Prop
/-- what is wanted behind a statement -/
structure Ends where
  nx : St → Hp → Prop
  rt : VK
  bk : St → Hp → Prop := fun _ _ => False
  ct : St → Hp → Prop := fun _ _ => False
abbrev TS := Ends → St → Hp → Prop

def EP (X : Cx) (pins : List (Addr × Obj)) (σ : St) (Q : VK) (u : Value) (s' : Shared) : Prop := ∃ v H', Inv X pins σ H' s' ∧ RelV v u ∧ Q v H'
def TP (X : Cx) (pins : List (Addr × Obj)) (σ : St) (Q : Bool → Hp → Prop) (b : Bool) (s' : Shared) : Prop := ∃ H', Inv X pins σ H' s' ∧ Q b H'
def AP (X : Cx) (pins : List (Addr × Obj)) (σ : St) (Q : List V → Hp → Prop) (us : List Value) (s' : Shared) : Prop := ∃ vs H', Inv X pins σ H' s' ∧ Vals vs us ∧ Q vs H'
def SP (X : Cx) (pins : List (Addr × Obj)) (D : Ends) (f : Flow) (s' : Shared) : Prop :=
  match f with
  | .next => ∃ σ' H', Inv X pins σ' H' s' ∧ D.nx σ' H'
  | .brk => ∃ σ' H', Inv X pins σ' H' s' ∧ D.bk σ' H'
  | .cont => ∃ σ' H', Inv X pins σ' H' s' ∧ D.ct σ' H'
  | .ret u => ∃ v σ' H', Inv X pins σ' H' s' ∧ RelV v u ∧ D.rt v H'

def PE (X : Cx) (e : Expr) (t : TE) : Prop :=
  ∀ (pins : List (Addr × Obj)) (s : Shared) (σ : St) (H : Hp) (Q : VK), Inv X pins σ H s → t σ H Q → wpAny (model X.prog X.w) X.A (eval e X.env) (EP X pins σ Q) X.xe s
def PT (X : Cx) (e : Expr) (t : TT) : Prop :=
  ∀ (pins : List (Addr × Obj)) (s : Shared) (σ : St) (H : Hp) (Q : Bool → Hp → Prop), Inv X pins σ H s → t σ H Q → wpAny (model X.prog X.w) X.A (isTrue e X.env (eval e X.env)) (TP X pins σ Q) X.xe s
/-- a test whatever its 'whole' is (and, or) -/
def PW (X : Cx) (e : Expr) (t : TT) : Prop :=
  ∀ (whole : Sem Value) (pins : List (Addr × Obj)) (s : Shared) (σ : St) (H : Hp) (Q : Bool → Hp → Prop), Inv X pins σ H s → t σ H Q → wpAny (model X.prog X.w) X.A (isTrue e X.env whole) (TP X pins σ Q) X.xe s
theorem PW.pt {X : Cx} {e : Expr} {t : TT} (h : PW X e t) : PT X e t := h _
/-- an argument list (no star), from the left -/
def PA (X : Cx) (es : List Expr) (t : TA) : Prop :=
  ∀ (pos : Pos) (pins : List (Addr × Obj)) (s : Shared) (σ : St) (H : Hp) (Q : List V → Hp → Prop), Inv X pins σ H s → t σ H Q → wpAny (model X.prog X.w) X.A (spliced (backTo pos (starEach es X.env))) (AP X pins σ Q) X.xe s
def PS (X : Cx) (st : Stmt) (t : TS) : Prop :=
  ∀ (pins : List (Addr × Obj)) (s : Shared) (σ : St) (H : Hp) (D : Ends), Inv X pins σ H s → t D σ H → wpAny (model X.prog X.w) X.A (exec st X.env) (SP X pins D) X.xe s
def PSs (X : Cx) (st : List Stmt) (t : TS) : Prop :=
  ∀ (pins : List (Addr × Obj)) (s : Shared) (σ : St) (H : Hp) (D : Ends), Inv X pins σ H s → t D σ H → wpAny (model X.prog X.w) X.A (execs st X.env) (SP X pins D) X.xe s
/-- weaken the end -/
theorem thn {α : Type} {t : Sem α} {Q Q' : α → Shared → Prop} {M : Model} {A : Around} {E : Value → Shared → Prop} {s : Shared} (h : wpAny M A t Q E s) (hQ : ∀ a s, Q a s → Q' a s) : wpAny M A t Q' E s := wpAny_mono h hQ fun _ _ x => x
end L2

namespace L2
open PySem PySem.Spec PyProof.Rows
section
variable {X : Cx}


/-! ### names and constants -/
def tVar (i : Nat) : TE := fun σ H Q => ∃ v, σ[i]? = some (some v) ∧ Q v H
def tC (v : V) : TE := fun _ H Q => Q v H
theorem pe_var {i : Nat} {x : Str} {pos : Pos} (hN : X.N[i]? = some x) (hv : Vis X.env.scope x) (hd : (x == ("__debug__" : Str)) = false := by decide) (hcd : (x == ("__classdict__" : Str)) = false := by decide) : PE X (.Name x pos) (tVar i) := by
  intro pins s σ H Q I h
  obtain ⟨v, e, h⟩ := h
  obtain ⟨m, hn, hl⟩ := I.loc
  obtain ⟨u, r, l⟩ := hl i x v hN e hv
  have fin : EP X pins σ Q u s := ⟨v, H, I, r, h⟩
  rcases l with ⟨hk, hm⟩ | ⟨hk, c, hc, hcell⟩
  · exact wpAny_Name (wpAny_loadName_local I.ok.kind hk hn hm fin) hd
  · rcases hk with hk | hk
    · exact wpAny_Name (wpAny_loadName_cell I.ok.kind hk hc hcell fin) hd
    · exact wpAny_Name (wpAny_loadName_free I.ok.kind hk hc hcell fin hcd) hd
theorem pe_int {i j pos} : PE X (.Constant (.int i) j pos) (tC (.int i)) := fun _ _ _ H _ I h => wpAny_Constant_int ⟨.int i, H, I.tok _, ⟨_, rfl⟩, h⟩
theorem pe_bl {b j pos} : PE X (.Constant (.bool b) j pos) (tC (.bl b)) := fun _ _ _ H _ I h => Constant_bool ⟨.bl b, H, I, rfl, h⟩
theorem pe_non {j pos} : PE X (.Constant .none j pos) (tC .non) := fun _ _ _ H _ I h => Constant_none ⟨.non, H, I, rfl, h⟩
theorem pe_str {x j pos} : PE X (.Constant (.str x) j pos) (tC (.str x)) := fun _ _ _ H _ I h => Calls.Constant_str ⟨.str x, H, I.tok _, ⟨_, rfl⟩, h⟩

/-- a global name of the def -/
def Gl (X : Cx) (x : Str) : Prop := X.env.kindOf x = some .globalImplicit
theorem ld_glob {E : Value → Shared → Prop} {pins : List (Addr × Obj)} {s : Shared} {σ : St} {H : Hp} {x : Str} {u : Value} {pos : Pos} {Q : Value → Shared → Prop} (I : Inv X pins σ H s) (hg : Gl X x) (hm : X.mg x = some u) (h : Q u s)
    (hd : (x == ("__debug__" : Str)) = false := by decide) : wpAny (model X.prog X.w) X.A (eval (.Name x pos) X.env) Q E s :=
  Calls.Name_function_global I.ok.kind hg (Calls.loadGlobal_global (by rw [I.ok.glob]; exact I.mod.glob.keeps I.bk) hm h) hd
theorem ld_blt {E : Value → Shared → Prop} {pins : List (Addr × Obj)} {s : Shared} {σ : St} {H : Hp} {x : Str} {u : Value} {pos : Pos} {Q : Value → Shared → Prop} (I : Inv X pins σ H s) (hg : Gl X x) (hm : X.mg x = none) (hv : bootBuiltins x = some u) (h : Q u s)
    (hn : x ≠ "__name__" := by decide) (hd : (x == ("__debug__" : Str)) = false := by decide) : wpAny (model X.prog X.w) X.A (eval (.Name x pos) X.env) Q E s := by
  obtain ⟨mb, h1, h2⟩ := I.mod.blt
  exact Calls.Name_function_global I.ok.kind hg (Calls.loadGlobal_builtin (by rw [I.ok.glob]; exact I.mod.glob.keeps I.bk) hm (by rw [I.ok.blt]; exact h1.keeps I.bk) ((h2 x hn).trans hv) h) hd
/-- a module's constant, a class, a function, as a value -/
theorem pe_glob {x : Str} {v : V} {u : Value} {pos : Pos} (hg : Gl X x) (hm : X.mg x = some u) (r : RelV v u) (hd : (x == ("__debug__" : Str)) = false := by decide) : PE X (.Name x pos) (tC v) :=
  fun _ _ _ H _ I h => ld_glob I hg hm ⟨v, H, I, r, h⟩ hd
theorem pe_bltn {x : Str} {v : V} {u : Value} {pos : Pos} (hg : Gl X x) (hm : X.mg x = none) (hv : bootBuiltins x = some u) (r : RelV v u) (hn : x ≠ "__name__" := by decide) (hd : (x == ("__debug__" : Str)) = false := by decide) : PE X (.Name x pos) (tC v) :=
  fun _ _ _ H _ I h => ld_blt I hg hm hv ⟨v, H, I, r, h⟩ hn hd

/-! ### arithmetic -/
variable {a b : Expr} {ta tb : TE} {pos : Pos}

/-! ### comparisons -/
/-- a comparison as a value, as a test -/
def tB (t : TE) : TT := fun σ H Q => t σ H fun x H1 => ∃ c, x = .bl c ∧ Q c H1
/-- an expression whose value is a bool, as a test -/
theorem pt_val {e : Expr} {t : TE} (h : PE X e t) (he : ∀ whole, isTrue e X.env whole = (do let v ← whole; standAt e.pos; holding [v] (truthy v)) := by intro _; rfl) : PT X e (tB t) := by
  intro pins s σ H Q I hw
  refine isTrue_plain (thn (h pins s σ H _ I hw) fun v s1 ⟨x, H1, I1, r1, q1⟩ => ?_) (he _)
  obtain ⟨d, rfl, q⟩ := q1
  cases r1
  exact wpAny_truthy_bool ⟨H1, I1, q⟩

/-! ### and, or, not -/
variable {tA tB' : TT} {rest : List Expr}
def tAnd (t u : TT) : TT := fun σ H Q => t σ H fun c H1 => if c = true then u σ H1 Q else Q false H1
def tOr (t u : TT) : TT := fun σ H Q => t σ H fun c H1 => if c = true then Q true H1 else u σ H1 Q
def tNot (t : TT) : TT := fun σ H Q => t σ H fun c H1 => Q (!c) H1
theorem pw_and1 (ha : PT X a tA) : PW X (.BoolOp .And [a] pos) tA := by
  intro wh pins s σ H Q I h
  refine isTrue_and (thn (ha pins s σ H Q I h) fun c s1 e => ?_)
  cases c with
  | true => exact isTrue_and_nil e
  | false => exact e
theorem pw_or1 (ha : PT X a tA) : PW X (.BoolOp .Or [a] pos) tA := by
  intro wh pins s σ H Q I h
  refine isTrue_or (thn (ha pins s σ H Q I h) fun c s1 e => ?_)
  cases c with
  | false => exact isTrue_or_nil e
  | true => exact e
theorem pw_and (ha : PT X a tA) (hb : PW X (.BoolOp .And (b :: rest) pos) tB') : PW X (.BoolOp .And (a :: b :: rest) pos) (tAnd tA tB') := by
  intro wh pins s σ H Q I h
  refine isTrue_and (thn (ha pins s σ H _ I h) fun c s1 hh => ?_)
  obtain ⟨H1, I1, q1⟩ := hh
  cases c with
  | true => exact hb wh pins s1 σ H1 Q I1 q1
  | false => exact ⟨H1, I1, q1⟩
theorem pw_or (ha : PT X a tA) (hb : PW X (.BoolOp .Or (b :: rest) pos) tB') : PW X (.BoolOp .Or (a :: b :: rest) pos) (tOr tA tB') := by
  intro wh pins s σ H Q I h
  refine isTrue_or (thn (ha pins s σ H _ I h) fun c s1 hh => ?_)
  obtain ⟨H1, I1, q1⟩ := hh
  cases c with
  | true => exact ⟨H1, I1, q1⟩
  | false => exact hb wh pins s1 σ H1 Q I1 q1
theorem pt_not (ha : PT X a tA) : PT X (.UnaryOp .Not a pos) (tNot tA) := by
  intro pins s σ H Q I h
  exact isTrue_not (ha pins s σ H (fun c H1 => Q (!c) H1) I h)
/-- .. as values (bools) -/
def tAndV (ta tb : TE) : TE := fun σ H Q => ta σ H fun x H1 => ∃ c, x = .bl c ∧ if c = true then tb σ H1 Q else Q (.bl false) H1
def tNotV (ta : TE) : TE := fun σ H Q => ta σ H fun x H1 => ∃ c, x = .bl c ∧ Q (.bl (!c)) H1
theorem pe_one {op} {t : TE} (h : PE X a t) : PE X (.BoolOp op [a] pos) t := fun pins s σ H Q I hw => BoolOp_one (h pins s σ H Q I hw)
theorem pe_and (ha : PE X a ta) (hb : PE X (.BoolOp .And (b :: rest) pos) tb) : PE X (.BoolOp .And (a :: b :: rest) pos) (tAndV ta tb) := by
  intro pins s σ H Q I h
  refine BoolOp_and (thn (ha pins s σ H _ I h) fun v s1 hh => ?_)
  obtain ⟨x, H1, I1, r1, q1⟩ := hh
  obtain ⟨c, rfl, q1⟩ := q1
  cases r1
  refine wpAny_truthy_bool ?_
  cases c with
  | true => exact hb pins s1 σ H1 Q I1 q1
  | false => exact ⟨.bl false, H1, I1, rfl, q1⟩
theorem pe_not (ha : PE X a ta) : PE X (.UnaryOp .Not a pos) (tNotV ta) := by
  intro pins s σ H Q I h
  refine UnaryOp_ (thn (ha pins s σ H _ I h) fun v s1 hh => ?_)
  obtain ⟨x, H1, I1, r1, q1⟩ := hh
  obtain ⟨c, rfl, q1⟩ := q1
  cases r1
  exact not_of (wpAny_truthy_bool ⟨.bl (!c), H1, I1, rfl, q1⟩)
end
end L2

namespace L2
open PySem PySem.Spec PyProof.Rows

/-! ### a list, a tuple that is read: tracked, frozen, or an object of the module -/
def SqL (K : PySem.W.Frag) (H : Hp) (a : Addr) (xs : List V) : Prop :=
  Rd H a (.lst xs) ∨
    ∃ (o : Obj) (its : Array Value) (n : Nat), K.lookup a = some o ∧ o.cls = .type "list" ∧ o.dict = none ∧ o.data = .seq its n ∧ its.size ≤ sizeLine ∧ Vals xs its.toList
def SqT (K : PySem.W.Frag) (H : Hp) (a : Addr) (xs : List V) : Prop :=
  Rd H a (.tup xs) ∨
    ∃ (o : Obj) (its : Array Value) (n : Nat), K.lookup a = some o ∧ o.cls = .type "tuple" ∧ o.data = .seq its n ∧ its.size ≤ sizeLine ∧ Vals xs its.toList
def absV : Value → Option V
  | .none => some .non
  | .bool b => some (.bl b)
  | .int i _ => some (.int i)
  | .str x _ => some (.str x)
  | .bytes b _ => some (.byt b)
  | .float b _ => some (.flt b)
  | .ref a => some (.ref a)
  | .type n => some (.ty n)
  | _ => none
theorem RelV.abs {x : V} {u : Value} (r : RelV x u) : absV u = some x := by
  cases x with
  | non => cases r; rfl
  | bl _ => cases r; rfl
  | int _ => obtain ⟨t, rfl⟩ := r; rfl
  | str _ => obtain ⟨t, rfl⟩ := r; rfl
  | byt _ => obtain ⟨t, rfl⟩ := r; rfl
  | flt _ => obtain ⟨t, rfl⟩ := r; rfl
  | ref _ => cases r; rfl
  | ty _ => cases r; rfl
theorem RelV.inj {x y : V} {u : Value} (r : RelV x u) (q : RelV y u) : x = y := Option.some.inj (r.abs.symm.trans q.abs)
theorem Vals.inj : ∀ {xs ys : List V} {us : List Value}, Vals xs us → Vals ys us → xs = ys
  | _, _, _, .nil, .nil => rfl
  | _, _, _, .cons r t, .cons r' t' => by rw [r.inj r', Vals.inj t t']
section
variable {X : Cx} {pins : List (Addr × Obj)} {σ : St} {H : Hp} {s : Shared} {a : Addr} {xs ys : List V}
theorem SqL.of {K : PySem.W.Frag} (h : H a = some (.lst xs)) : SqL K H a xs := .inl (.inl h)
theorem SqT.of {K : PySem.W.Frag} (h : H a = some (.tup xs)) : SqT K H a xs := .inl (.inl h)
theorem Inv.list (I : Inv X pins σ H s) (h : SqL X.K H a xs) : ∃ its : List Value, Vals xs its ∧ PlainL s.heap a its.toArray ∧ xs.length ≤ sizeLine := by
  rcases h with h | ⟨o, its, n, hk, hc, hd, hs, hz, r⟩
  · obtain ⟨z, its, n, r, e⟩ := h.ok I.hok
    exact ⟨its, r, ⟨_, n, e, rfl, rfl, rfl⟩, z⟩
  · refine ⟨its.toList, r, ⟨o, n, I.kIn a o hk, hc, hd, by simpa using hs⟩, ?_⟩
    have e := r.length
    simp only [Array.length_toList] at e
    omega
theorem Inv.tuple (I : Inv X pins σ H s) (h : SqT X.K H a xs) : ∃ its : List Value, Vals xs its ∧ IsTup s.heap a its.toArray ∧ xs.length ≤ sizeLine := by
  rcases h with h | ⟨o, its, n, hk, hc, hs, hz, r⟩
  · obtain ⟨z, its, r, p⟩ := h.ok I.hok
    exact ⟨its, r, p, z⟩
  · refine ⟨its.toList, r, ⟨o, I.kIn a o hk, hc, n, by simpa using hs⟩, ?_⟩
    have e := r.length
    simp only [Array.length_toList] at e
    omega
theorem Inv.list_inj (I : Inv X pins σ H s) (h : SqL X.K H a xs) (h' : SqL X.K H a ys) : xs = ys := by
  obtain ⟨its, r, ⟨o, n, e, _, _, d⟩, _⟩ := I.list h
  obtain ⟨its', r', ⟨o', n', e', _, _, d'⟩, _⟩ := I.list h'
  rw [e] at e'; cases e'
  rw [d] at d'
  injection d' with d1 _
  have : its = its' := by simpa using congrArg Array.toList d1
  subst this
  exact r.inj r'
theorem Inv.tuple_inj (I : Inv X pins σ H s) (h : SqT X.K H a xs) (h' : SqT X.K H a ys) : xs = ys := by
  obtain ⟨its, r, ⟨o, e, _, n, d⟩, _⟩ := I.tuple h
  obtain ⟨its', r', ⟨o', e', _, n', d'⟩, _⟩ := I.tuple h'
  rw [e] at e'; cases e'
  rw [d] at d'
  injection d' with d1 _
  have : its = its' := by simpa using congrArg Array.toList d1
  subst this
  exact r.inj r'
end

/-! ### another wish about exceptions -/
abbrev Cx.wish (X : Cx) (E : Value → Shared → Prop) : Cx := { X with xe := E }
/-- no exception leaves -/
abbrev Cx.nox (X : Cx) : Cx := X.wish fun _ _ => False
theorem Cx.Ok.wish {X : Cx} (ok : X.Ok) (E : Value → Shared → Prop) : (X.wish E).Ok :=
  ⟨ok.mod, ok.kind, ok.glob, ok.blt, ok.above, ok.inj, ok.has, ok.cab, ok.hd, ok.frames, ok.stk, ok.exf, ok.bs, ok.bsz, ok.noex, ok.exfs, ok.funs, ok.frf, ok.tb⟩
theorem Cx.Ok.unwish {X : Cx} {E : Value → Shared → Prop} (ok : (X.wish E).Ok) : X.Ok :=
  ⟨ok.mod, ok.kind, ok.glob, ok.blt, ok.above, ok.inj, ok.has, ok.cab, ok.hd, ok.frames, ok.stk, ok.exf, ok.bs, ok.bsz, ok.noex, ok.exfs, ok.funs, ok.frf, ok.tb⟩
section
variable {X : Cx} {pins : List (Addr × Obj)} {σ : St} {H : Hp} {s : Shared} {E : Value → Shared → Prop}
theorem Inv.wish (I : Inv X pins σ H s) (E : Value → Shared → Prop) : Inv (X.wish E) pins σ H s := ⟨I.ok.wish E, I.os, I.bare, I.base, I.loc, I.cell, I.free, I.freeC, I.pin, I.hok, I.len⟩
theorem Inv.unwish (I : Inv (X.wish E) pins σ H s) : Inv X pins σ H s := ⟨I.ok.unwish, I.os, I.bare, I.base, I.loc, I.cell, I.free, I.freeC, I.pin, I.hok, I.len⟩
theorem SP.unwish {D : Ends} {f : Flow} {s' : Shared} (h : SP (X.wish E) pins D f s') : SP X pins D f s' := by
  cases f with
  | next => obtain ⟨σ', H', I, q⟩ := h; exact ⟨σ', H', I.unwish, q⟩
  | brk => obtain ⟨σ', H', I, q⟩ := h; exact ⟨σ', H', I.unwish, q⟩
  | cont => obtain ⟨σ', H', I, q⟩ := h; exact ⟨σ', H', I.unwish, q⟩
  | ret u => obtain ⟨v, σ', H', I, r, q⟩ := h; exact ⟨v, σ', H', I.unwish, r, q⟩
theorem PE.nox {e : Expr} {t : TE} (h : PE X.nox e t) : PE X e t := fun pins s σ H Q I hw =>
  wpAny_mono (h pins s σ H Q (I.wish _) hw) (fun _ _ ⟨v, H', I', r, q⟩ => ⟨v, H', I'.unwish, r, q⟩) fun _ _ z => False.elim z
theorem PT.nox {e : Expr} {t : TT} (h : PT X.nox e t) : PT X e t := fun pins s σ H Q I hw =>
  wpAny_mono (h pins s σ H Q (I.wish _) hw) (fun _ _ ⟨H', I', q⟩ => ⟨H', I'.unwish, q⟩) fun _ _ z => False.elim z
theorem PSs.nox {st : List Stmt} {t : TS} (h : PSs X.nox st t) : PSs X st t := fun pins s σ H D I hw =>
  wpAny_mono (h pins s σ H D (I.wish _) hw) (fun _ _ q => q.unwish) fun _ _ z => False.elim z
end

/-! ### blocks and small statements -/
section
variable {X : Cx} {st : Stmt} {rest : List Stmt} {t u : TS} {e : Expr} {te : TE} {pos : Pos}
def tNext : TS := fun D σ H => D.nx σ H
def tSeq (t u : TS) : TS := fun D σ H => t { D with nx := u D } σ H
theorem pss_nil : PSs X [] tNext := fun _ _ σ H _ I h => wpAny_execs_nil ⟨σ, H, I, h⟩
theorem pss_cons (h1 : PS X st t) (h2 : PSs X rest u) : PSs X (st :: rest) (tSeq t u) := by
  intro pins s σ H D I h
  refine wpAny_execs_cons (thn (h1 pins s σ H { D with nx := u D } I h) fun f s1 q => ?_)
  cases f with
  | next =>
    obtain ⟨σ', H', I', q⟩ := q
    exact h2 pins s1 σ' H' D I' q
  | ret v => exact q
  | brk => exact q
  | cont => exact q
theorem pss_one (h1 : PS X st t) : PSs X [st] t := by
  intro pins s σ H D I h
  refine wpAny_execs_cons (thn (h1 pins s σ H D I h) fun f s1 q => ?_)
  cases f with
  | next => exact wpAny_execs_nil q
  | ret v => exact q
  | brk => exact q
  | cont => exact q
/-- in a def's body nothing is shown -/
theorem Inv.quiet {pins : List (Addr × Obj)} {σ : St} {H : Hp} {s : Shared} (I : Inv X pins σ H s) : interactive X.env = false := by simp [interactive, I.ok.kind]
/-- an expression whose value is dropped -/
def tDrop (te : TE) : TS := fun D σ H => te σ H fun _ H1 => D.nx σ H1
theorem ps_expr (he : PE X e te) (hs : swapsWith e none pos.line X.env = pure false := by rfl) : PS X (.Expr e pos) (tDrop te) := by
  intro pins s σ H D I h
  exact wpAny_Expr_any (thn (he pins s σ H _ I h) fun v s1 ⟨x, H1, I1, r1, q1⟩ => ⟨σ, H1, I1, q1⟩) I.quiet hs
def tRet (te : TE) : TS := fun D σ H => te σ H D.rt
theorem ps_ret (he : PE X e te) : PS X (.Return (some e) pos) (tRet te) := by
  intro pins s σ H D I h
  exact wpAny_Return_some (thn (he pins s σ H _ I h) fun v s1 ⟨x, H1, I1, r1, q1⟩ => ⟨x, σ, H1, I1, r1, q1⟩)
def tIfS (c : TT) (t u : TS) : TS := fun D σ H => c σ H fun b H1 => if b = true then t D σ H1 else u D σ H1
theorem ps_if {c : Expr} {a b : List Stmt} {tc : TT} (hc : PT X c tc) (ha : PSs X a t) (hb : PSs X b u) : PS X (.If c a b pos) (tIfS tc t u) := by
  intro pins s σ H D I h
  refine wpAny_If (thn (hc pins s σ H _ I h) fun d s1 hh => ?_)
  obtain ⟨H1, I1, q1⟩ := hh
  cases d with
  | true => exact ha pins s1 σ H1 D I1 q1
  | false => exact hb pins s1 σ H1 D I1 q1
end

/-! ### targets -/
abbrev TG := V → St → Hp → (St → Hp → Prop) → Prop
def PG (X : Cx) (target : Expr) (t : TG) : Prop :=
  ∀ (pins : List (Addr × Obj)) (s : Shared) (σ : St) (H : Hp) (v : V) (u : Value) (Q : St → Hp → Prop), Inv X pins σ H s → RelV v u → t v σ H Q →
    wpAny (model X.prog X.w) X.A (assign target X.env u) (fun _ s' => ∃ σ' H', Inv X pins σ' H' s' ∧ Q σ' H') X.xe s
section
variable {X : Cx} {pos : Pos}
def gName (i : Nat) : TG := fun v σ H Q => Q (σ.set i (some v)) H
theorem pg_name {i : Nat} {x : Str} (hN : X.N.Nodup) (hi : X.N[i]? = some x) (hx : Loc X.env.scope x) (hf : X.fn x = true ∨ X.env.scope.names.lookup x = some .local := by first | exact .inl rfl | exact .inr rfl | assumption) : PG X (.Name x pos) (gName i) := by
  intro pins s σ H v u Q I r h
  exact wpAny_assign_Name (store_ok I hN hi hx r (fun s' I' => ⟨_, H, I', h⟩) hf)
/-- target = value -/
def tAsg (te : TE) (g : TG) : TS := fun D σ H => te σ H fun x H1 => g x σ H1 D.nx
/-- name = value -/
theorem ps_set {i : Nat} {x : Str} {e : Expr} {te : TE} {pos' : Pos} (hN : X.N.Nodup) (hi : X.N[i]? = some x) (hx : Loc X.env.scope x) (he : PE X e te) (hs : swapsWith e (some (.Name x pos')) pos.line X.env = pure false := by rfl) (hf : X.fn x = true ∨ X.env.scope.names.lookup x = some .local := by first | exact .inl rfl | exact .inr rfl | assumption) :
    PS X (.Assign [.Name x pos'] e pos) (tAsg te (gName i)) := by
  intro pins s σ H D I h
  refine wpAny_Assign_Name (thn (he pins s σ H _ I h) fun v s1 ⟨y, H1, I1, r1, q1⟩ => ?_) hs
  exact store_ok I1 hN hi hx r1 (fun s2 I2 => ⟨_, H1, I2, q1⟩) hf
end

/-! ### while -/
section
variable {X : Cx} {pos : Pos}
/-- the invariant W with its measure -/
def tWhile (c : TT) (tb : TS) : TS := fun D σ H => ∃ W : Nat → St → Hp → Prop, (∃ m, W m σ H) ∧ ∀ m σ H, W m σ H →
  c σ H fun b H1 => if b = true then ∃ N : St → Hp → Prop, (∀ σ' H', N σ' H' → ∃ m', m' < m ∧ W m' σ' H') ∧ tb { D with nx := N, ct := N, bk := D.nx } σ H1 else D.nx σ H1
theorem ps_while {c : Expr} {body : List Stmt} {tc : TT} {tb : TS} (hp : PassesOwn (model X.prog X.w) X.A X.env X.xe) (hc : PT X c tc) (hb : PSs X body tb) : PS X (.While c body [] pos) (tWhile tc tb) := by
  intro pins s σ H D I h
  obtain ⟨W, ⟨m0, w0⟩, turn⟩ := h
  refine wpAny_While (codeAny_whileLoop (fun n s' => ∃ σ' H', Inv X pins σ' H' s' ∧ W n σ' H') ?_ m0 ⟨σ, H, I, w0⟩)
  rintro n s1 ⟨σ1, H1, I1, w1⟩
  refine wpAny_passesOwn hp (thn (hc pins s1 σ1 H1 _ I1 (turn n σ1 H1 w1)) fun b s2 hh => ?_)
  obtain ⟨H2, I2, q2⟩ := hh
  cases b with
  | true =>
    obtain ⟨N, hN, q2⟩ := q2
    rw [if_pos rfl]
    refine wpAny_passesOwn hp (thn (hb pins s2 σ1 H2 _ I2 q2) fun f s3 q3 => ?_)
    cases f with
    | next =>
      obtain ⟨σ3, H3, I3, n3⟩ := q3
      obtain ⟨m', hm, w3⟩ := hN σ3 H3 n3
      exact ⟨m', hm, σ3, H3, I3, w3⟩
    | cont =>
      obtain ⟨σ3, H3, I3, n3⟩ := q3
      obtain ⟨m', hm, w3⟩ := hN σ3 H3 n3
      exact ⟨m', hm, σ3, H3, I3, w3⟩
    | brk => exact q3
    | ret v => exact q3
  | false =>
    rw [if_neg Bool.false_ne_true]
    exact wpAny_execs_nil ⟨σ1, H2, I2, q2⟩
end

/-! ### what a loop or a comprehension walks -/
/-- at turn i: it yields x (the heap may grow), or it stops -/
structure It where
  go : Nat → Hp → Prop
  yld : Nat → Hp → V → Hp → Prop
  stop : Nat → Hp → Prop
/-- the iterator's own objects may turn: they are not the frame's, not pinned, younger than the entry (or a comprehension's own) -/
def FpOk (X : Cx) (pins : List (Addr × Obj)) (H : Hp) (b : Addr) : Prop :=
  H b = none ∧ b ≠ X.env.locals ∧ b ∉ X.fs ∧ (b ∈ X.ex ∨ X.s₀.heap.objs.size ≤ b) ∧ (∀ x c, X.env.cells.lookup x = some c → c ≠ b) ∧ ∀ p ∈ X.pn ++ pins, p.1 ≠ b
theorem Inv.fpOk {X : Cx} {pins : List (Addr × Obj)} {σ : St} {H H' : Hp} {s : Shared} {b : Addr} (I : Inv X pins σ H s) (hb : s.heap.objs.size ≤ b) (hn : H' b = none) : FpOk X pins H' b := by
  refine ⟨hn, Nat.ne_of_gt (Nat.lt_of_lt_of_le I.lt hb), I.nofs hb, .inr (Nat.le_trans I.sz hb), fun x c e z => ?_, fun p hp z => ?_⟩
  · obtain ⟨v, q⟩ := I.cell x c e
    exact absurd (Nat.lt_of_lt_of_le q.lt (by rw [z]; exact hb)) (Nat.lt_irrefl _)
  · exact absurd (Nat.lt_of_lt_of_le (Heap.lt_size (I.pin p hp).1) (by rw [z]; exact hb)) (Nat.lt_irrefl _)
structure Turn (P : Program) (w : World) (K : PySem.W.Frag) (tg : Expr) (J : It) (fp : List Addr) (it : Addr) (tn : Nat → Heap → Prop) : Prop where
  mem : it ∈ fp
  obj : ∀ i h, tn i h → ∀ b ∈ fp, ∃ o, h.get? b = some o ∧ ∀ v, o.data ≠ .cell v
  keep : ∀ i h h', tn i h → (∀ b ∈ fp, ∀ o, h.get? b = some o → h'.get? b = some o) → tn i h'
  item : ∀ (X : Cx), X.prog = P → X.w = w → X.K = K → X.calm = true → ∀ (i : Nat) (pins : List (Addr × Obj)) (s : Shared) (σ : St) (H : Hp) (E : Value → Shared → Prop), Inv X pins σ H s → (∀ b ∈ fp, FpOk X pins H b) → tn i s.heap → J.go i H →
    wpAny (model P w) X.A (pyNext (.ref it)) (fun r s1 => ∃ u, r = some u ∧
      wpAny (model P w) X.A (letOwnedTupleGo tg (.ref it) u) (fun _ s2 => ∃ x H', Inv X pins σ H' s2 ∧ RelV x u ∧ J.yld i H x H' ∧ tn (i + 1) s2.heap ∧ ∀ b ∈ fp, H' b = none) E s1) E s
  done : ∀ (X : Cx), X.prog = P → X.w = w → X.K = K → X.calm = true → ∀ (i : Nat) (pins : List (Addr × Obj)) (s : Shared) (σ : St) (H : Hp) (E : Value → Shared → Prop), Inv X pins σ H s → (∀ b ∈ fp, FpOk X pins H b) → tn i s.heap → J.stop i H →
    wpAny (model P w) X.A (pyNext (.ref it)) (fun r s1 => r = none ∧ Inv X pins σ H s1) E s
  self : ∀ (A : Around) (i : Nat) (s : Shared) (Q : Value → Shared → Prop) (E : Value → Shared → Prop), tn i s.heap → Q (.ref it) s → wpAny (model P w) A (pyIter (.ref it)) Q E s
abbrev TI := St → Hp → (It → Hp → Prop) → Prop
/-- an iterator has come -/
def PIE (X : Cx) (pins : List (Addr × Obj)) (σ : St) (tg : Expr) (R : It → Hp → Prop) (itv : Value) (s2 : Shared) : Prop :=
  ∃ (it : Addr) (fp : List Addr) (tn : Nat → Heap → Prop) (J : It) (H' : Hp), itv = .ref it ∧ Inv X pins σ H' s2 ∧ Turn X.prog X.w X.K tg J fp it tn ∧ tn 0 s2.heap ∧ (∀ b ∈ fp, FpOk X pins H' b) ∧ R J H'
def PI (X : Cx) (tg iter : Expr) (wi : TI) : Prop :=
  ∀ (pins : List (Addr × Obj)) (s : Shared) (σ : St) (H : Hp) (R : It → Hp → Prop), Inv X pins σ H s → wi σ H R →
    wpAny (model X.prog X.w) X.A (eval iter X.env) (fun v s1 => wpAny (model X.prog X.w) X.A (pyIter v) (PIE X pins σ tg R) X.xe s1) X.xe s

/-- the step ahead of the store is nothing for an iterator that keeps no tuple -/
theorem go_of {M : Model} {A : Around} {E : Value → Shared → Prop} {s : Shared} {tg : Expr} {it : Addr} {u : Value} {o : Obj} {n : String} {vs : Array Value} {Q : Unit → Shared → Prop} (ho : s.heap.get? it = some o) (hc : o.cls = .type n) (hd : o.data = .fields vs)
    (hn : ["enumerate", "zip", "dict_itemiterator", "dict_reverseitemiterator", "odict_iterator", "itertools.zip_longest", "itertools.pairwise"].contains n = false) (hQ : Q () s) : wpAny M A (letOwnedTupleGo tg (.ref it) u) Q E s := by
  unfold letOwnedTupleGo
  cases tg <;> first
    | exact wpAny_pure hQ
    | (cases u <;> first
        | exact wpAny_pure hQ
        | (refine wpAny_bind (wpAny_load ho ?_)
           rw [hc, hd]
           show wpAny M A (if (["enumerate", "zip", "dict_itemiterator", "dict_reverseitemiterator", "odict_iterator", "itertools.zip_longest", "itertools.pairwise"].contains n && vs[0]? == some (rawInt _)) = true then _ else _) Q E s
           rw [if_neg (by intro h; rw [hn, Bool.false_and] at h; cases h)]
           exact wpAny_pure hQ))

/-- the list at a, as it stands at each turn (a loop may append to it) -/
def Itl (K : PySem.W.Frag) (a : Addr) : It :=
  ⟨fun i H => ∃ xs x, SqL K H a xs ∧ xs[i]? = some x, fun i H x H' => H' = H ∧ ∀ xs, SqL K H a xs → xs[i]? = some x, fun i H => ∃ xs, SqL K H a xs ∧ xs.length ≤ i⟩
def Itt (K : PySem.W.Frag) (a : Addr) : It :=
  ⟨fun i H => ∃ xs x, SqT K H a xs ∧ xs[i]? = some x, fun i H x H' => H' = H ∧ ∀ xs, SqT K H a xs → xs[i]? = some x, fun i H => ∃ xs, SqT K H a xs ∧ xs.length ≤ i⟩
theorem turn_list {P : Program} {w : World} {K : PySem.W.Frag} {tg : Expr} (a it : Addr) : Turn P w K tg (Itl K a) [it] it (fun i h => h.IsListIter it a i) where
  mem := by simp
  obj := fun i h st b hb => by
    have e : b = it := by simpa using hb
    subst e
    obtain ⟨o, e, c, d⟩ := st
    exact ⟨o, e, fun v z => by rw [d] at z; cases z⟩
  keep := fun i h h' st k => st.at fun o e => k it (by simp) o e
  item := by
    intro X hP hw hK hc i pins s σ H E I hf st hg
    subst hP hw hK
    obtain ⟨xs, x, hq, hx⟩ := hg
    obtain ⟨its, rv, p, hz⟩ := I.list hq
    obtain ⟨u, hu, ru⟩ := rv.get hx
    obtain ⟨f0, f1, f2, f3, f4, f5⟩ := hf it (by simp)
    refine wpAny_pyNext_list_item st p.isList (x := u) (by simpa using hu) fun h' st' sb => ?_
    have I1 : Inv X pins σ H { s with heap := h' } := I.turned (t' := s.toks) (fun b o hb e => (sb.2 b hb).trans e) f0 f1 f3 f4 f5
    obtain ⟨o, e, c, d⟩ := id st'
    exact ⟨u, rfl, go_of (s := { s with heap := h' }) e c d (by decide) ⟨x, H, I1, ru, ⟨rfl, fun ys hy => by rw [I.list_inj hy hq]; exact hx⟩, st', fun b hb => (hf b hb).1⟩⟩
  done := by
    intro X hP hw hK hc i pins s σ H E I hf st hg
    subst hP hw hK
    obtain ⟨xs, hq, hx⟩ := hg
    obtain ⟨its, rv, p, hz⟩ := I.list hq
    obtain ⟨f0, f1, f2, f3, f4, f5⟩ := hf it (by simp)
    have hl := rv.length
    exact wpAny_pyNext_list_end (I.ok.hd hc) st p.isList (by simp; omega) fun h' eb => ⟨rfl, I.turned (t' := s.toks) (fun b o hb e => eb b o hb e) f0 f1 f3 f4 f5⟩
  self := fun _ _ _ _ _ st h => wpAny_pyIter_listiter st h
theorem turn_tuple {P : Program} {w : World} {K : PySem.W.Frag} {tg : Expr} (a it : Addr) : Turn P w K tg (Itt K a) [it] it (fun i h => h.IsTupleIter it a i) where
  mem := by simp
  obj := fun i h st b hb => by
    have e : b = it := by simpa using hb
    subst e
    obtain ⟨o, e, c, d⟩ := st
    exact ⟨o, e, fun v z => by rw [d] at z; cases z⟩
  keep := fun i h h' st k => st.at fun o e => k it (by simp) o e
  item := by
    intro X hP hw hK hc i pins s σ H E I hf st hg
    subst hP hw hK
    obtain ⟨xs, x, hq, hx⟩ := hg
    obtain ⟨its, rv, p, hz⟩ := I.tuple hq
    obtain ⟨u, hu, ru⟩ := rv.get hx
    obtain ⟨f0, f1, f2, f3, f4, f5⟩ := hf it (by simp)
    refine wpAny_pyNext_tuple_item st (show s.heap.IsTuple a its.toArray from p) (x := u) (by simpa using hu) fun h' st' sb => ?_
    have I1 : Inv X pins σ H { s with heap := h' } := I.turned (t' := s.toks) (fun b o hb e => (sb.2 b hb).trans e) f0 f1 f3 f4 f5
    obtain ⟨o, e, c, d⟩ := id st'
    exact ⟨u, rfl, go_of (s := { s with heap := h' }) e c d (by decide) ⟨x, H, I1, ru, ⟨rfl, fun ys hy => by rw [I.tuple_inj hy hq]; exact hx⟩, st', fun b hb => (hf b hb).1⟩⟩
  done := by
    intro X hP hw hK hc i pins s σ H E I hf st hg
    subst hP hw hK
    obtain ⟨xs, hq, hx⟩ := hg
    obtain ⟨its, rv, p, hz⟩ := I.tuple hq
    obtain ⟨f0, f1, f2, f3, f4, f5⟩ := hf it (by simp)
    have hl := rv.length
    exact wpAny_pyNext_tuple_end (I.ok.hd hc) st (show s.heap.IsTuple a its.toArray from p) (by simp; omega) fun h' eb => ⟨rfl, I.turned (t' := s.toks) (fun b o hb e => eb b o hb e) f0 f1 f3 f4 f5⟩
  self := fun _ _ _ _ _ st h => wpAny_pyIter_tupleiter st h
end L2

namespace L2
open PySem PySem.Spec PyProof.Rows
section
variable {X : Cx} {tg : Expr}

/-! ### for -/
/-- W: the invariant by the turn and a measure; N: what the body is to reach -/
def tFor (wi : TI) (g : TG) (tb : TS) : TS := fun D σ H => wi σ H fun J H1 => ∃ W : Nat → Nat → St → Hp → Prop, (∃ m, W 0 m σ H1) ∧ ∀ i m σ H, W i m σ H →
  (J.stop i H ∧ D.nx σ H) ∨ (J.go i H ∧ ∃ N : St → Hp → Prop, (∀ σ' H', N σ' H' → ∃ m', m' < m ∧ W (i + 1) m' σ' H') ∧ ∀ x H', J.yld i H x H' → g x σ H' fun σ2 H2 => tb { D with nx := N, ct := N, bk := D.nx } σ2 H2)
/-- the records at fp as they stand -/
def pinsAt (fp : List Addr) (h : Heap) : List (Addr × Obj) := fp.filterMap fun b => (h.get? b).map fun o => (b, o)
theorem mem_pinsAt {fp : List Addr} {h : Heap} {b : Addr} {o : Obj} (hb : b ∈ fp) (e : h.get? b = some o) : (b, o) ∈ pinsAt fp h := List.mem_filterMap.mpr ⟨b, hb, by rw [e]; rfl⟩
theorem of_pinsAt {fp : List Addr} {h : Heap} {p : Addr × Obj} (hp : p ∈ pinsAt fp h) : p.1 ∈ fp ∧ h.get? p.1 = some p.2 := by
  obtain ⟨b, hb, e⟩ := List.mem_filterMap.mp hp
  cases q : h.get? b with
  | none => rw [q] at e; cases e
  | some o =>
    rw [q] at e
    have e' : (b, o) = p := Option.some.inj e
    subst e'
    exact ⟨hb, q⟩
theorem Inv.pinned {pins : List (Addr × Obj)} {σ : St} {H : Hp} {s : Shared} {fp : List Addr} (I : Inv X pins σ H s) (hf : ∀ b ∈ fp, FpOk X pins H b) (ho : ∀ b ∈ fp, ∃ o, s.heap.get? b = some o ∧ ∀ v, o.data ≠ .cell v) : Inv X (pins ++ pinsAt fp s.heap) σ H s :=
  I.pins_of fun p hp => (List.mem_append.mp hp).elim (fun z => I.pin p (List.mem_append_right _ z)) fun z => by
    obtain ⟨hb, e⟩ := of_pinsAt z
    obtain ⟨f0, f1, f2, _⟩ := hf p.1 hb
    obtain ⟨o, e', d⟩ := ho p.1 hb
    rw [e] at e'; cases e'
    exact ⟨e, f0, f1, f2, d⟩
theorem Inv.unpinned {pins pl : List (Addr × Obj)} {σ : St} {H : Hp} {s : Shared} (I : Inv X (pins ++ pl) σ H s) : Inv X pins σ H s := I.pins_of fun p hp => I.pin p (List.mem_append_right _ (List.mem_append_left _ hp))
theorem ps_for {iter : Expr} {body : List Stmt} {wi : TI} {g : TG} {tb : TS} {pos : Pos} (hp : PassesOwn (model X.prog X.w) X.A X.env X.xe) (hc : X.calm = true) (hi : PI X tg iter wi) (hg : PG X tg g) (hb : PSs X body tb)
    (hs : ∀ x, foldedSetIterable iter X.env x = pure x := by intro _; rfl) : PS X (.For tg iter body [] pos) (tFor wi g tb) := by
  intro pins s σ H D I h
  refine wpAny_For (thn (hi pins s σ H _ I h) fun v s1 h1 => thn h1 fun itv s2 h2 => ?_) hs
  obtain ⟨it, fp, tn, J, H2, e, I2, T, st2, f2, W, ⟨m0, w0⟩, turn⟩ := h2
  subst e
  -- what stays true of the iterator's objects through the loop
  have stat : ∀ {H' : Hp}, (∀ b ∈ fp, H' b = none) → ∀ b ∈ fp, FpOk X pins H' b := fun hn b hb => ⟨hn b hb, (f2 b hb).2⟩
  refine codeAny_forLoop_any (fun n s' => ∃ i σ' H', Inv X pins σ' H' s' ∧ tn i s'.heap ∧ (∀ b ∈ fp, H' b = none) ∧ W i n σ' H') ?_ m0 ⟨0, σ, H2, I2, st2, fun b hb => (f2 b hb).1, w0⟩
  rintro n s3 ⟨i, σ3, H3, I3, st3, fr3, w3⟩
  rcases turn i n σ3 H3 w3 with ⟨stop, qn⟩ | ⟨go, N, hN, step⟩
  · refine wpAny_passesOwn hp (thn (T.done X rfl rfl rfl hc i pins s3 σ3 H3 X.xe I3 (stat fr3) st3 stop) fun r s4 hh => ?_)
    obtain ⟨hr, I4⟩ := hh
    subst hr
    exact wpAny_execs_nil ⟨σ3, H3, I4, qn⟩
  · refine wpAny_passesOwn hp (thn (T.item X rfl rfl rfl hc i pins s3 σ3 H3 X.xe I3 (stat fr3) st3 go) fun r s4 hh => ?_)
    obtain ⟨u, hr, h4⟩ := hh
    subst hr
    refine wpAny_passesOwn hp (thn h4 fun _ s5 hh => ?_)
    obtain ⟨x, H5, I5, r5, y5, st5, fr5⟩ := hh
    have I5' := I5.pinned (stat fr5) (T.obj _ _ st5)
    refine wpAny_passesOwn hp (thn (hg _ s5 σ3 H5 x u _ I5' r5 (step x H5 y5)) fun _ s6 hh => ?_)
    obtain ⟨σ6, H6, I6, q6⟩ := hh
    refine wpAny_passesOwn hp (thn (hb _ s6 σ6 H6 _ I6 q6) fun f s7 q7 => ?_)
    have again : ∀ {σ7 : St} {H7 : Hp}, Inv X (pins ++ pinsAt fp s5.heap) σ7 H7 s7 → N σ7 H7 → ∃ m, m < n ∧ ∃ i σ' H', Inv X pins σ' H' s7 ∧ tn i s7.heap ∧ (∀ b ∈ fp, H' b = none) ∧ W i m σ' H' := fun {σ7 H7} I7 n7 => by
      obtain ⟨m', hm, w7⟩ := hN σ7 H7 n7
      refine ⟨m', hm, i + 1, σ7, H7, I7.unpinned, T.keep _ _ _ st5 fun b hb o e => (I7.pin (b, o) (List.mem_append_right _ (List.mem_append_right _ (mem_pinsAt hb e)))).1, fun b hb => ?_, w7⟩
      obtain ⟨o, e, d⟩ := T.obj _ _ st5 b hb
      exact (I7.pin (b, o) (List.mem_append_right _ (List.mem_append_right _ (mem_pinsAt hb e)))).2.1
    cases f with
    | next => obtain ⟨σ7, H7, I7, n7⟩ := q7; exact again I7 n7
    | cont => obtain ⟨σ7, H7, I7, n7⟩ := q7; exact again I7 n7
    | brk => obtain ⟨σ7, H7, I7, q7⟩ := q7; exact ⟨σ7, H7, I7.unpinned, q7⟩
    | ret v => obtain ⟨x7, σ7, H7, I7, r7, q7⟩ := q7; exact ⟨x7, σ7, H7, I7.unpinned, r7, q7⟩
end

/-! ### the forms one uses -/
/-- over a list that the body leaves as it is -/
theorem for_list {K : PySem.W.Frag} {a : Addr} {xs : List V} {g : TG} {tb : TS} {D : Ends} {σ : St} {H : Hp} (Pv : Nat → St → Hp → Prop) (h0 : Pv 0 σ H) (hl : ∀ i σ H, i ≤ xs.length → Pv i σ H → SqL K H a xs)
    (hs : ∀ i x σ H, xs[i]? = some x → Pv i σ H → g x σ H fun σ2 H2 => tb { D with nx := Pv (i + 1), ct := Pv (i + 1), bk := D.nx } σ2 H2) (hd : ∀ σ H, Pv xs.length σ H → D.nx σ H) :
    ∃ W : Nat → Nat → St → Hp → Prop, (∃ m, W 0 m σ H) ∧ ∀ i m σ H, W i m σ H →
      ((Itl K a).stop i H ∧ D.nx σ H) ∨ ((Itl K a).go i H ∧ ∃ N : St → Hp → Prop, (∀ σ' H', N σ' H' → ∃ m', m' < m ∧ W (i + 1) m' σ' H') ∧ ∀ x H', (Itl K a).yld i H x H' → g x σ H' fun σ2 H2 => tb { D with nx := N, ct := N, bk := D.nx } σ2 H2) := by
  refine ⟨fun i m σ H => m = xs.length - i ∧ i ≤ xs.length ∧ Pv i σ H, ⟨xs.length, by simp, Nat.zero_le _, h0⟩, ?_⟩
  rintro i m σ H ⟨rfl, hi, p⟩
  have q := hl i σ H hi p
  by_cases hlt : i < xs.length
  · refine .inr ⟨⟨xs, xs[i], q, by simp [hlt]⟩, Pv (i + 1), fun σ' H' p' => ⟨xs.length - (i + 1), by omega, rfl, hlt, p'⟩, fun x H' y => ?_⟩
    obtain ⟨e, y⟩ := y
    subst e
    exact hs i x σ _ (y xs q) p
  · have e : i = xs.length := by omega
    subst e
    exact .inl ⟨⟨xs, q, Nat.le_refl _⟩, hd σ H p⟩
theorem for_tup {K : PySem.W.Frag} {a : Addr} {xs : List V} {g : TG} {tb : TS} {D : Ends} {σ : St} {H : Hp} (Pv : Nat → St → Hp → Prop) (h0 : Pv 0 σ H) (hl : ∀ i σ H, i ≤ xs.length → Pv i σ H → SqT K H a xs)
    (hs : ∀ i x σ H, xs[i]? = some x → Pv i σ H → g x σ H fun σ2 H2 => tb { D with nx := Pv (i + 1), ct := Pv (i + 1), bk := D.nx } σ2 H2) (hd : ∀ σ H, Pv xs.length σ H → D.nx σ H) :
    ∃ W : Nat → Nat → St → Hp → Prop, (∃ m, W 0 m σ H) ∧ ∀ i m σ H, W i m σ H →
      ((Itt K a).stop i H ∧ D.nx σ H) ∨ ((Itt K a).go i H ∧ ∃ N : St → Hp → Prop, (∀ σ' H', N σ' H' → ∃ m', m' < m ∧ W (i + 1) m' σ' H') ∧ ∀ x H', (Itt K a).yld i H x H' → g x σ H' fun σ2 H2 => tb { D with nx := N, ct := N, bk := D.nx } σ2 H2) := by
  refine ⟨fun i m σ H => m = xs.length - i ∧ i ≤ xs.length ∧ Pv i σ H, ⟨xs.length, by simp, Nat.zero_le _, h0⟩, ?_⟩
  rintro i m σ H ⟨rfl, hi, p⟩
  have q := hl i σ H hi p
  by_cases hlt : i < xs.length
  · refine .inr ⟨⟨xs, xs[i], q, by simp [hlt]⟩, Pv (i + 1), fun σ' H' p' => ⟨xs.length - (i + 1), by omega, rfl, hlt, p'⟩, fun x H' y => ?_⟩
    obtain ⟨e, y⟩ := y
    subst e
    exact hs i x σ _ (y xs q) p
  · have e : i = xs.length := by omega
    subst e
    exact .inl ⟨⟨xs, q, Nat.le_refl _⟩, hd σ H p⟩
end L2

namespace L2
open PySem PySem.Spec PyProof.Rows

abbrev R2 := V → V → Hp → VK → Prop
/-- a two-place operation on values: f is binaryOp op, inplaceOp op or compareOp op -/
def OpR (X : Cx) (f : Value → Value → Sem Value) (r : R2) : Prop :=
  ∀ (pins : List (Addr × Obj)) (s : Shared) (σ : St) (H : Hp) (x y : V) (v u : Value) (Q : VK), Inv X pins σ H s → RelV x v → RelV y u → r x y H Q →
    wpAny (model X.prog X.w) X.A (f v u) (EP X pins σ Q) X.xe s
/-- a one-place operation -/
def UnR (X : Cx) (f : Value → Sem Value) (r : V → Hp → VK → Prop) : Prop :=
  ∀ (pins : List (Addr × Obj)) (s : Shared) (σ : St) (H : Hp) (x : V) (v : Value) (Q : VK), Inv X pins σ H s → RelV x v → r x H Q →
    wpAny (model X.prog X.w) X.A (f v) (EP X pins σ Q) X.xe s
/-- a call of a value that is known (a builtin, a type) with values -/
def CallR (X : Cx) (f : Value) (r : List V → Hp → VK → Prop) : Prop :=
  ∀ (pins : List (Addr × Obj)) (s : Shared) (σ : St) (H : Hp) (xs : List V) (us : List Value) (Q : VK), Inv X pins σ H s → Vals xs us → r xs H Q →
    wpAny (model X.prog X.w) X.A (call f us) (EP X pins σ Q) X.xe s

def tOp (r : R2) (ta tb : TE) : TE := fun σ H Q => ta σ H fun x H1 => tb σ H1 fun y H2 => r x y H2 Q
def tUn (r : V → Hp → VK → Prop) (ta : TE) : TE := fun σ H Q => ta σ H fun x H1 => r x H1 Q
/-- ints in, under C, and a value out -/
def rI (C : Int → Int → Prop) (g : Int → Int → V) : R2 := fun x y H Q => ∃ i j, x = .int i ∧ y = .int j ∧ C i j ∧ Q (g i j) H
def rI0 (g : Int → Int → V) : R2 := fun x y H Q => ∃ i j, x = .int i ∧ y = .int j ∧ Q (g i j) H
def rU (g : Int → V) : V → Hp → VK → Prop := fun x H Q => ∃ i, x = .int i ∧ Q (g i) H

section
variable {X : Cx} {a b c : Expr} {ta tb tc : TE} {pos : Pos}

theorem binT (ha : PE X a ta) (hb : PE X b tb) {pins : List (Addr × Obj)} {s : Shared} {σ : St} {H : Hp} {R : V → V → Hp → Prop} (I : Inv X pins σ H s)
    (h : ta σ H fun x H1 => tb σ H1 fun y H2 => R x y H2) {Q : Value → Shared → Prop} {f : Value → Value → Sem Value}
    (hf : ∀ v u s2 x y H2, Inv X pins σ H2 s2 → RelV x v → RelV y u → R x y H2 → wpAny (model X.prog X.w) X.A (f v u) Q X.xe s2) :
    wpAny (model X.prog X.w) X.A (eval a X.env) (fun v s₁ => wpAny (model X.prog X.w) X.A (eval b X.env) (fun u s₂ => wpAny (model X.prog X.w) X.A (f v u) Q X.xe s₂) X.xe s₁) X.xe s := by
  refine thn (ha pins s σ H _ I h) fun v s1 hh => ?_
  obtain ⟨x, H1, I1, r1, q1⟩ := hh
  refine thn (hb pins s1 σ H1 _ I1 q1) fun u s2 hh => ?_
  obtain ⟨y, H2, I2, r2, q2⟩ := hh
  exact hf v u s2 x y H2 I2 r1 r2 q2

theorem pe_op {op : Operator} {r : R2} (ho : OpR X (binaryOp op) r) (ha : PE X a ta) (hb : PE X b tb) : PE X (.BinOp a op b pos) (tOp r ta tb) := by
  intro pins s σ H Q I h
  exact wpAny_BinOp (binT ha hb I h fun v u s2 x y H2 I2 rx ry q => ho pins s2 σ H2 x y v u Q I2 rx ry q)
theorem pe_un {op : UnaryOp} {r : V → Hp → VK → Prop} (ho : UnR X (unaryOp op) r) (ha : PE X a ta) : PE X (.UnaryOp op a pos) (tUn r ta) := by
  intro pins s σ H Q I h
  exact UnaryOp_ (thn (ha pins s σ H _ I h) fun v s1 ⟨x, H1, I1, r1, q1⟩ => ho pins s1 σ H1 x v Q I1 r1 q1)

/-! ### ints -/
theorem opI {f : Value → Value → Sem Value} {C : Int → Int → Prop} {g : Int → Int → Int}
    (rule : ∀ (i j : Int) (t u : Tok) (s : Shared) (Q : Value → Shared → Prop) (E : Value → Shared → Prop), C i j → Q (.int (g i j) s.toks) { s with toks := s.toks + 1 } → wpAny (model X.prog X.w) X.A (f (.int i t) (.int j u)) Q E s) :
    OpR X f (rI C fun i j => .int (g i j)) := by
  intro pins s σ H x y v u Q I rx ry h
  obtain ⟨i, j, rfl, rfl, hc, q⟩ := h
  obtain ⟨t, rfl⟩ := rx
  obtain ⟨t', rfl⟩ := ry
  exact rule i j t t' s _ _ hc ⟨.int (g i j), H, I.tok _, ⟨_, rfl⟩, q⟩
theorem opI0 {f : Value → Value → Sem Value} {g : Int → Int → Int}
    (rule : ∀ (i j : Int) (t u : Tok) (s : Shared) (Q : Value → Shared → Prop) (E : Value → Shared → Prop), Q (.int (g i j) s.toks) { s with toks := s.toks + 1 } → wpAny (model X.prog X.w) X.A (f (.int i t) (.int j u)) Q E s) :
    OpR X f (rI0 fun i j => .int (g i j)) := by
  intro pins s σ H x y v u Q I rx ry h
  obtain ⟨i, j, rfl, rfl, q⟩ := h
  obtain ⟨t, rfl⟩ := rx
  obtain ⟨t', rfl⟩ := ry
  exact rule i j t t' s _ _ ⟨.int (g i j), H, I.tok _, ⟨_, rfl⟩, q⟩
theorem opB0 {f : Value → Value → Sem Value} {g : Int → Int → Bool}
    (rule : ∀ (i j : Int) (t u : Tok) (s : Shared) (Q : Value → Shared → Prop) (E : Value → Shared → Prop), Q (.bool (g i j)) s → wpAny (model X.prog X.w) X.A (f (.int i t) (.int j u)) Q E s) :
    OpR X f (rI0 fun i j => .bl (g i j)) := by
  intro pins s σ H x y v u Q I rx ry h
  obtain ⟨i, j, rfl, rfl, q⟩ := h
  obtain ⟨t, rfl⟩ := rx
  obtain ⟨t', rfl⟩ := ry
  exact rule i j t t' s _ _ ⟨.bl (g i j), H, I, rfl, q⟩

def CPow (i j : Int) : Prop := 0 ≤ j ∧ j ≤ 1000000 ∧ i.natAbs < 2 ^ 64
def CMul (i j : Int) : Prop := (-(2 ^ 64) < i ∧ i < 2 ^ 64) ∨ (-(2 ^ 64) < j ∧ j < 2 ^ 64)
theorem CMul.ok {i j : Int} (h : CMul i j) : IntMulOk i j := by
  rcases h with ⟨h1, h2⟩ | ⟨h1, h2⟩
  · exact .of_left (intBits_le_64 h1 h2)
  · exact .of_right (intBits_le_64 h1 h2)

theorem op_add : OpR X (binaryOp .Add) (rI0 fun i j => .int (i + j)) := opI0 fun _ _ _ _ _ _ _ q => add_int q
theorem op_modN : OpR X (binaryOp .Mod) (rI (fun _ j => j ≠ 0) fun i j => .int (i.fmod j)) := opI fun _ _ _ _ _ _ _ hc q => mod_int' hc q
theorem op_pow : OpR X (binaryOp .Pow) (rI CPow fun i j => .int (i ^ j.toNat)) := opI fun _ _ _ _ _ _ _ hc q => pow_int_small hc.1 hc.2.1 hc.2.2 q


theorem unI {f : Value → Sem Value} {g : Int → Int}
    (rule : ∀ (i : Int) (t : Tok) (s : Shared) (Q : Value → Shared → Prop) (E : Value → Shared → Prop), Q (.int (g i) s.toks) { s with toks := s.toks + 1 } → wpAny (model X.prog X.w) X.A (f (.int i t)) Q E s) :
    UnR X f (rU fun i => .int (g i)) := by
  intro pins s σ H x v Q I rx h
  obtain ⟨i, rfl, q⟩ := h
  obtain ⟨t, rfl⟩ := rx
  exact rule i t s _ _ ⟨.int (g i), H, I.tok _, ⟨_, rfl⟩, q⟩
theorem un_neg : UnR X (unaryOp .USub) (rU fun i => .int (-i)) := unI fun _ _ _ _ _ q => neg_int q

/-! ### bools among ints: n += (a < b) -/
end

/-! ### comparisons -/
/-- the scalars that == tells apart as data does -/
def scal : V → V → Bool
  | .non, .non => true | .non, .int _ => true | .int _, .non => true | .non, .bl _ => true | .bl _, .non => true | .non, .str _ => true | .str _, .non => true
  | .int _, .int _ => true | .bl _, .bl _ => true | .str _, .str _ => true | .byt _, .byt _ => true
  | .int _, .str _ => true | .str _, .int _ => true | .bl _, .str _ => true | .str _, .bl _ => true
  | _, _ => false
def rEq : R2 := fun x y H Q => scal x y = true ∧ Q (.bl (decide (x = y))) H
def rNe : R2 := fun x y H Q => scal x y = true ∧ Q (.bl (!decide (x = y))) H

theorem dec_int {i j : Int} : decide (V.int i = V.int j) = (i == j) := by
  rw [Bool.eq_iff_iff]
  simp
theorem dec_bl {i j : Bool} : decide (V.bl i = V.bl j) = (i == j) := by
  rw [Bool.eq_iff_iff]
  simp
theorem dec_str {i j : Str} : decide (V.str i = V.str j) = (i == j) := by
  rw [Bool.eq_iff_iff]
  simp
theorem dec_byt {i j : Array UInt8} : decide (V.byt i = V.byt j) = (i.toList == j.toList) := by
  rw [Bool.eq_iff_iff]
  cases i
  cases j
  simp

section
variable {X : Cx} {a b c : Expr} {ta tb tc : TE} {pos : Pos}
theorem fin_bl {pins : List (Addr × Obj)} {σ : St} {H : Hp} {s : Shared} {Q : VK} {k k' : Bool} (I : Inv X pins σ H s) (q : Q (.bl k) H) (e : k = k') : EP X pins σ Q (.bool k') s := by
  subst e
  exact ⟨.bl k, H, I, rfl, q⟩
theorem op_eq : OpR X (compareOp .Eq) rEq := by
  intro pins s σ H x y v u Q I rx ry h
  obtain ⟨hs, q⟩ := h
  cases x with
  | non =>
    cases rx
    cases y with
    | non => cases ry; exact PySem.EqNone.eq_none_none (fin_bl I q (by simp))
    | bl j => cases ry; exact PySem.EqNone.eq_none_bool (fin_bl I q (by simp))
    | int j => obtain ⟨t', rfl⟩ := ry; exact PySem.EqNone.eq_none_int (fin_bl I q (by simp))
    | str j => obtain ⟨t', rfl⟩ := ry; exact PySem.EqNone.eq_none_str (fin_bl I q (by simp))
    | _ => exact absurd (show false = true from hs) Bool.false_ne_true
  | bl i =>
    cases rx
    cases y with
    | non => cases ry; exact PySem.EqNone.eq_bool_none (fin_bl I q (by simp))
    | bl j => cases ry; exact eq_bool (fin_bl I q dec_bl)
    | str j => obtain ⟨t', rfl⟩ := ry; exact PySem.EqMixed.eq_bool_str (fin_bl I q (by simp))
    | _ => exact absurd (show false = true from hs) Bool.false_ne_true
  | int i =>
    obtain ⟨t, rfl⟩ := rx
    cases y with
    | non => cases ry; exact PySem.EqNone.eq_int_none (fin_bl I q (by simp))
    | int j => obtain ⟨t', rfl⟩ := ry; exact eq_int (fin_bl I q dec_int)
    | str j => obtain ⟨t', rfl⟩ := ry; exact PySem.EqMixed.eq_int_str (fin_bl I q (by simp))
    | _ => exact absurd (show false = true from hs) Bool.false_ne_true
  | str i =>
    obtain ⟨t, rfl⟩ := rx
    cases y with
    | non => cases ry; exact PySem.EqNone.eq_str_none (fin_bl I q (by simp))
    | bl j => cases ry; exact PySem.EqMixed.eq_str_bool (fin_bl I q (by simp))
    | int j => obtain ⟨t', rfl⟩ := ry; exact PySem.EqMixed.eq_str_int (fin_bl I q (by simp))
    | str j => obtain ⟨t', rfl⟩ := ry; exact eq_str (fin_bl I q dec_str)
    | _ => exact absurd (show false = true from hs) Bool.false_ne_true
  | byt i =>
    obtain ⟨t, rfl⟩ := rx
    cases y with
    | byt j => obtain ⟨t', rfl⟩ := ry; exact PySem.W.eq_bytes (fin_bl I q dec_byt)
    | _ => exact absurd (show false = true from hs) Bool.false_ne_true
  | _ => cases y <;> exact absurd (show false = true from hs) Bool.false_ne_true
theorem op_ne : OpR X (compareOp .NotEq) rNe := by
  intro pins s σ H x y v u Q I rx ry h
  obtain ⟨hs, q⟩ := h
  cases x with
  | non =>
    cases rx
    cases y with
    | non => cases ry; exact PySem.EqNone.ne_none_none (fin_bl I q (by simp))
    | bl j => cases ry; exact PySem.EqNone.ne_none_bool (fin_bl I q (by simp))
    | int j => obtain ⟨t', rfl⟩ := ry; exact PySem.EqNone.ne_none_int (fin_bl I q (by simp))
    | str j => obtain ⟨t', rfl⟩ := ry; exact PySem.EqNone.ne_none_str (fin_bl I q (by simp))
    | _ => exact absurd (show false = true from hs) Bool.false_ne_true
  | bl i =>
    cases rx
    cases y with
    | non => cases ry; exact PySem.EqNone.ne_bool_none (fin_bl I q (by simp))
    | bl j => cases ry; exact ne_bool (fin_bl I q (congrArg not dec_bl))
    | str j => obtain ⟨t', rfl⟩ := ry; exact PySem.EqMixed.ne_bool_str (fin_bl I q (by simp))
    | _ => exact absurd (show false = true from hs) Bool.false_ne_true
  | int i =>
    obtain ⟨t, rfl⟩ := rx
    cases y with
    | non => cases ry; exact PySem.EqNone.ne_int_none (fin_bl I q (by simp))
    | int j => obtain ⟨t', rfl⟩ := ry; exact ne_int (fin_bl I q (congrArg not dec_int))
    | str j => obtain ⟨t', rfl⟩ := ry; exact PySem.EqMixed.ne_int_str (fin_bl I q (by simp))
    | _ => exact absurd (show false = true from hs) Bool.false_ne_true
  | str i =>
    obtain ⟨t, rfl⟩ := rx
    cases y with
    | non => cases ry; exact PySem.EqNone.ne_str_none (fin_bl I q (by simp))
    | bl j => cases ry; exact PySem.EqMixed.ne_str_bool (fin_bl I q (by simp))
    | int j => obtain ⟨t', rfl⟩ := ry; exact PySem.EqMixed.ne_str_int (fin_bl I q (by simp))
    | str j => obtain ⟨t', rfl⟩ := ry; exact ne_str (fin_bl I q (congrArg not dec_str))
    | _ => exact absurd (show false = true from hs) Bool.false_ne_true
  | byt i =>
    obtain ⟨t, rfl⟩ := rx
    cases y with
    | byt j => obtain ⟨t', rfl⟩ := ry; exact PySem.W.ne_bytes (fin_bl I q (congrArg not dec_byt))
    | _ => exact absurd (show false = true from hs) Bool.false_ne_true
  | _ => cases y <;> exact absurd (show false = true from hs) Bool.false_ne_true

theorem op_lt : OpR X (compareOp .Lt) (rI0 fun i j => .bl (decide (i < j))) := opB0 fun _ _ _ _ _ _ _ q => lt_int q
theorem op_gt : OpR X (compareOp .Gt) (rI0 fun i j => .bl (decide (j < i))) := opB0 fun _ _ _ _ _ _ _ q => gt_int q

/-- is None, is not None: the right side a value none -/
theorem op_isN : OpR X (compareOp .Is) (fun x y H Q => y = .non ∧ Q (.bl (decide (x = .non))) H) := by
  intro pins s σ H x y v u Q I rx ry h
  obtain ⟨rfl, q⟩ := h
  cases ry
  refine is_none_gen (fin_bl I q ?_)
  cases x <;> first
    | (cases rx; rfl)
    | (obtain ⟨t, rfl⟩ := rx; rfl)

theorem op_notin_str : OpR X (compareOp .NotIn) (fun x y H Q => ∃ i j, x = .str i ∧ y = .str j ∧ Q (.bl (!(!(Builtin.Str.occurrences j i 0 j.length 1).isEmpty))) H) := by
  intro pins s σ H x y v u Q I rx ry h
  obtain ⟨i, j, rfl, rfl, q⟩ := h
  obtain ⟨t, rfl⟩ := rx
  obtain ⟨t', rfl⟩ := ry
  exact notIn_str (fin_bl I q rfl)

/-- two rules for one operation: by cases -/
theorem OpR.or {f : Value → Value → Sem Value} {r r' : R2} (h : OpR X f r) (h' : OpR X f r') : OpR X f (fun x y H Q => r x y H Q ∨ r' x y H Q) := by
  intro pins s σ H x y v u Q I rx ry q
  rcases q with q | q
  · exact h pins s σ H x y v u Q I rx ry q
  · exact h' pins s σ H x y v u Q I rx ry q

theorem nomark (b : Expr) {op : CmpOp} (h : op ≠ .In := by decide) (h2 : op ≠ .NotIn := by decide) : behindInMarks op b = false := by
  have e1 : (op == CmpOp.In) = false := by cases op <;> first | rfl | exact absurd rfl h
  have e2 : (op == CmpOp.NotIn) = false := by cases op <;> first | rfl | exact absurd rfl h2
  cases b <;> simp [behindInMarks, e1, e2]
/-- a comparison as a value; hm: nomark b, or (for in, not in) by with_unfolding_all rfl -/
theorem pe_cmpR {op : CmpOp} {r : R2} (ho : OpR X (compareOp op) r) (ha : PE X a ta) (hb : PE X b tb) (hm : behindInMarks op b = false) : PE X (.Compare a [op] [b] pos) (tOp r ta tb) := by
  intro pins s σ H Q I h
  exact wpAny_Compare1 (binT ha hb I h fun v u s2 x y H2 I2 rx ry q => ho pins s2 σ H2 x y v u Q I2 rx ry q) hm
/-- a reading of a value as a test -/
def tTest (t : TE) : TT := fun σ H Q => t σ H fun x H' => ∃ k, x = .bl k ∧ Q k H'
theorem pt_cmpR {op : CmpOp} {r : R2} (ho : OpR X (compareOp op) r) (ha : PE X a ta) (hb : PE X b tb) (hm : behindInMarks op b = false) : PT X (.Compare a [op] [b] pos) (tTest (tOp r ta tb)) := by
  intro pins s σ H Q I h
  refine wpAny_isTrue_Compare1 (thn (ha pins s σ H _ I h) fun v s1 ⟨x, H1, I1, r1, q1⟩ => thn (hb pins s1 σ H1 _ I1 q1) fun u s2 ⟨y, H2, I2, r2, q2⟩ =>
    thn (ho pins s2 σ H2 x y v u _ I2 r1 r2 q2) fun c s3 ⟨z, H3, I3, r3, k, e, q3⟩ => ?_) hm
  subst e
  cases r3
  exact wpAny_truthy_bool ⟨H3, I3, q3⟩

/-! ### truth -/
theorem line63 : (sizeLine : Nat) < 2 ^ 63 := by rw [sizeLine_eq]; decide

/-! ### strs and bytes -/
theorem op_add_str : OpR X (binaryOp .Add) (fun x y H Q => ∃ i j, x = .str i ∧ y = .str j ∧ i.length + j.length ≤ sizeLine ∧ Q (.str (i ++ j)) H) := by
  intro pins s σ H x y v u Q I rx ry h
  obtain ⟨i, j, rfl, rfl, hz, q⟩ := h
  obtain ⟨t, rfl⟩ := rx
  obtain ⟨t', rfl⟩ := ry
  exact add_str (fun t' tk => ⟨.str (i ++ j), H, I.tok _, ⟨_, rfl⟩, q⟩) hz


/-! ### scalar builtins, by CallR -/
theorem vals1 {x : V} {us : List Value} (r : Vals [x] us) : ∃ u, us = [u] ∧ RelV x u := by
  cases r with
  | cons r1 r2 => cases r2; exact ⟨_, rfl, r1⟩
theorem vals2 {x y : V} {us : List Value} (r : Vals [x, y] us) : ∃ u w', us = [u, w'] ∧ RelV x u ∧ RelV y w' := by
  cases r with
  | cons r1 r2 =>
    cases r2 with
    | cons r3 r4 => cases r4; exact ⟨_, _, rfl, r1, r3⟩
theorem call_abs : CallR X (.builtin "abs") (fun xs H Q => ∃ i, xs = [.int i] ∧ Q (.int (if i < 0 then -i else i)) H) := by
  intro pins s σ H xs us Q I r h
  obtain ⟨i, rfl, q⟩ := h
  obtain ⟨u, rfl, t, rfl⟩ := vals1 r
  exact call_abs_int fun u tk => ⟨.int (if i < 0 then -i else i), H, I.tok _, ⟨_, rfl⟩, q⟩
theorem call_int1 : CallR X (.type "int") (fun xs H Q => (∃ i, xs = [.int i] ∧ Q (.int i) H) ∨ ∃ k, xs = [.bl k] ∧ Q (.int (if k then 1 else 0)) H) := by
  intro pins s σ H xs us Q I r h
  rcases h with ⟨i, rfl, q⟩ | ⟨k, rfl, q⟩
  · obtain ⟨u, rfl, t, rfl⟩ := vals1 r
    exact call_int_int ⟨.int i, H, I, ⟨_, rfl⟩, q⟩
  · obtain ⟨u, rfl, r1⟩ := vals1 r
    cases r1
    exact call_int_bool ⟨.int (if k then 1 else 0), H, I.tok _, ⟨_, rfl⟩, q⟩
theorem call_str_int : CallR X (.type "str") (fun xs H Q => ∃ i, xs = [.int i] ∧ i.natAbs.log2 < 1920 ∧ Q (.str (toString i)) H) := by
  intro pins s σ H xs us Q I r h
  obtain ⟨i, rfl, hz, q⟩ := h
  obtain ⟨u, rfl, t, rfl⟩ := vals1 r
  exact PySem.P.str_of_int hz ⟨.str _, H, I.tok _, ⟨_, rfl⟩, q⟩
end
end L2

namespace L2
open PySem PySem.Spec PyProof.Rows

/-! ### an instance, its attributes a map -/
structure ObjM (h : Heap) (x dx C : Addr) (mA : Str → Option Value) : Prop where
  obj : h.get? x = some (PySem.W.instObj C dx)
  ns : h.Ns1 dx mA
  ne : dx ≠ x

theorem lookIn_ns {h : Heap} {dx : Addr} {mA : Str → Option Value} (n : h.Ns1 dx mA) : ∃ od, h.get? dx = some od ∧ ∀ name, PySem.W.lookIn name od = some (mA name) := by
  obtain ⟨o, es, ep, ho, hd, hk, _, hm⟩ := n
  refine ⟨o, ho, fun name => ?_⟩
  have e := hm name
  unfold nsFind findBy at e
  rw [← Array.find?_toList] at e
  unfold PySem.W.lookIn
  rw [hd]
  dsimp only
  split
  · rename_i y q
    rw [q] at e
    exact congrArg some e
  · rename_i q
    rw [q] at e
    have a : es.toList.any (·.refKey) = false := by
      rw [List.any_eq_false]
      intro y hy
      obtain ⟨z, t, hkey⟩ := hk y (Array.mem_toList_iff.mp hy)
      simp [DictEntry.refKey, hkey]
    have a' : ¬ es.toList.any (·.refKey) = true := by rw [a]; exact Bool.false_ne_true
    rw [if_neg a']
    exact congrArg some e

theorem ObjM.look {h : Heap} {x dx C : Addr} {mA : Str → Option Value} (I : ObjM h x dx C mA) : ∃ od, PySem.W.InstAt h x (PySem.W.instObj C dx) C (some od) ∧ ∀ name, PySem.W.lookIn name od = some (mA name) :=
  let ⟨od, ho, hl⟩ := lookIn_ns I.ns
  ⟨od, ⟨I.obj, rfl, rfl, ho⟩, hl⟩

section
variable {prog : Program} {w : World} {A : Around} {E : Value → Shared → Prop} {s : Shared} {K : PySem.W.Frag} {x dx C f : Addr} {mA : Str → Option Value} {name : Str} {v : Value}





end

/-! ### the attributes as a list of pairs -/


section
variable {P : Program} {w : World} {H H' : Hp} {h h' : Heap} {a C dx : Addr} {fs fs' : List (Str × V)}
theorem ins_get (hok : HOk P w H h) (e : H a = some (.ins C dx fs)) : ∃ mA, ObjM h a dx C mA ∧ (∀ f, RelO (fs.lookup f) (mA f)) ∧ PySem.Within mA (fs.map (·.1)) ∧ fs.length ≤ 1000 ∧ H dx = some (.own a) := by
  obtain ⟨d, z, ne, ob, mA, n, r, q⟩ := (show ObjOk P w H h a (.ins C dx fs) from hok a _ e)
  exact ⟨mA, ⟨ob, n, ne⟩, r, q, z, d⟩
end

/-! ### what of the text a class must have -/
structure Cls (K : PySem.W.Frag) (C : Addr) : Prop where
  pg : PySem.W.plainGet K C Str.empty = true
  hd : PySem.W.hasDictIn K C = true
  po : PySem.W.plainOver K C = true
  sa : PySem.W.findIn K (.ref C) "__setattr__" = some (some (.builtin "object.__setattr__"))
theorem Cls.get {K : PySem.W.Frag} {C : Addr} (c : Cls K C) (f : Str) : PySem.W.plainGet K C f = true := c.pg

section
variable {X : Cx} {pins : List (Addr × Obj)} {σ : St} {H : Hp} {s : Shared} {a C dx : Addr} {fs : List (Str × V)} {f : Str} {v : V} {A : Around} {E : Value → Shared → Prop}





/-- a new instance, tracked, without attributes -/
theorem Inv.made (I : Inv X pins σ H s) : Inv X pins σ (upd (upd H s.heap.objs.size (.own (s.heap.objs.size + 1))) (s.heap.objs.size + 1) (.ins C s.heap.objs.size []))
    { s with heap := (s.heap.push PySem.W.emptyDict).push (PySem.W.instObj C s.heap.objs.size) } := by
  have e1 : (s.heap.push PySem.W.emptyDict).get? s.heap.objs.size = some PySem.W.emptyDict := Heap.get?_push_size s.heap rfl
  have e2 : ((s.heap.push PySem.W.emptyDict).push (PySem.W.instObj C s.heap.objs.size)).get? (s.heap.objs.size + 1) = some (PySem.W.instObj C s.heap.objs.size) := by
    have := Heap.get?_push_size (s.heap.push PySem.W.emptyDict) (o := PySem.W.instObj C s.heap.objs.size) rfl
    rwa [Heap.size_push] at this
  have e3 : (s.heap.push PySem.W.emptyDict).Ns s.heap.objs.size (fun _ => none) := ⟨PySem.W.emptyDict, #[], _, e1, rfl, (fun e he => absurd he (by simp)), fun _ => rfl⟩
  have I1 := I.laid (a := s.heap.objs.size) (o := .own (s.heap.objs.size + 1)) (h' := s.heap.push PySem.W.emptyDict) (t' := s.toks) (fun b u q => Heap.get?_push_of_some _ q) (Nat.le_refl _) ⟨_, e1⟩
  refine I1.laid (a := s.heap.objs.size + 1) (o := .ins C s.heap.objs.size []) (t' := s.toks) (fun b u q => Heap.get?_push_of_some _ q) (Nat.le_of_eq (Heap.size_push _ _)) ?_
  have ne : s.heap.objs.size ≠ s.heap.objs.size + 1 := Nat.ne_of_lt (Nat.lt_succ_self _)
  refine ⟨by rw [upd_ne ne, upd_same], Nat.zero_le _, ne, e2, fun _ => none, (Heap.Ns1.of_empty e3).at fun o q => Heap.get?_push_of_some _ q, fun _ => True.intro, fun y hy => absurd rfl hy⟩

end

/-! ### readings and rules -/

section
variable {X : Cx} {o e value : Expr} {f : Str} {pos pos' tpos : Pos} {ta tv : TE}

end

/-! ### isinstance -/
section
variable {X : Cx} {pins : List (Addr × Obj)} {σ : St} {H : Hp} {s : Shared} {A : Around} {E : Value → Shared → Prop} {Q : Value → Shared → Prop} {c : Value} {b : Bool}
/-- the type of a value, as the fragment's deciders take it; for an instance its class -/
inductive TyOf (K : PySem.W.Frag) (H : Hp) : V → Value → Prop where
  | non : TyOf K H .non (.type "NoneType")
  | bl (x : Bool) : TyOf K H (.bl x) (.type "bool")
  | int (i : Int) : TyOf K H (.int i) (.type "int")
  | str (x : Str) : TyOf K H (.str x) (.type "str")
  | flt (x : UInt64) : TyOf K H (.flt x) (.type "float")
  | lst {a : Addr} {xs : List V} (e : H a = some (.lst xs)) : TyOf K H (.ref a) (.type "list")
  | frz {a : Addr} {o : Obj} {xs : List V} (e : H a = some (.frz o (.lst xs))) : TyOf K H (.ref a) (.type "list")
  | tup {a : Addr} {xs : List V} (e : H a = some (.tup xs)) : TyOf K H (.ref a) (.type "tuple")
  | dK {a : Addr} {kvs : List (Key × V)} (e : H a = some (.dK kvs)) : TyOf K H (.ref a) (.type "dict")
  | dT {a : Addr} {kvs : List (List Key × V)} (e : H a = some (.dT kvs)) : TyOf K H (.ref a) (.type "dict")
  | ins {a C dx : Addr} {fs : List (Str × V)} (e : H a = some (.ins C dx fs)) (cl : Cls K C) (ha : PySem.W.findIn K (.ref C) "__class__" = some (some (.builtin "object.__class__")))
      (hn : PySem.W.specialIn K (.builtin "object.__class__") "__get__" = some (some (.builtin "getset_descriptor.__get__"))) (htk : PySem.W.takesIn K (.builtin "object.__class__") = some true)
      (hm : PySem.W.mroIn K C (.type "object") = some true) : TyOf K H (.ref a) (.ref C)
/-- isinstance(x, c) for one class c, a built-in or an own one: kitOne's answer -/
theorem isinst_ok {x : V} {u t : Value} (I : Inv X pins σ H s) (rx : RelV x u) (ty : TyOf X.K H x t) (e : PySem.W.kitOne X.K t c = some b) (h : ∀ tk, Q (.bool b) { s with toks := tk }) :
    wpAny (model X.prog X.w) A (call (.builtin "isinstance") [u, c]) Q E s := by
  cases ty with
  | non => cases (show u = Value.none from rx); exact PySem.W.kia_one PySem.W.kitx_none I.kIn True.intro e (fun z => nomatch z) h
  | bl y => cases (show u = Value.bool y from rx); exact PySem.W.kia_one PySem.W.kitx_bool I.kIn True.intro e (fun z => nomatch z) h
  | int i => obtain ⟨t, q⟩ := (show ∃ t, u = Value.int i t from rx); cases q; exact PySem.W.kia_one PySem.W.kitx_int I.kIn True.intro e (fun z => nomatch z) h
  | str y => obtain ⟨t, q⟩ := (show ∃ t, u = Value.str y t from rx); cases q; exact PySem.W.kia_one PySem.W.kitx_str I.kIn True.intro e (fun z => nomatch z) h
  | flt y => obtain ⟨t, q⟩ := (show ∃ t, u = Value.float y t from rx); cases q; exact PySem.W.kia_one PySem.W.kitx_float I.kIn True.intro e (fun z => nomatch z) h
  | @lst a xs ea =>
    cases (show u = Value.ref a from rx)
    obtain ⟨_, _, n, _, h1⟩ := (show ObjOk X.prog X.w H s.heap a (.lst xs) from I.hok a _ ea)
    exact PySem.W.kia_one PySem.W.kitx_list I.kIn ⟨_, h1, rfl⟩ e (fun z => nomatch z) h
  | @frz a ob xs ea =>
    cases (show u = Value.ref a from rx)
    obtain ⟨_, _, _, n, _, h1⟩ := (show ObjOk X.prog X.w H s.heap a (.frz ob (.lst xs)) from I.hok a _ ea)
    exact PySem.W.kia_one PySem.W.kitx_list I.kIn ⟨_, h1, rfl⟩ e (fun z => nomatch z) h
  | @tup a xs ea =>
    cases (show u = Value.ref a from rx)
    obtain ⟨_, _, _, p⟩ := (show ObjOk X.prog X.w H s.heap a (.tup xs) from I.hok a _ ea)
    obtain ⟨o, h1, h2, _⟩ := p
    exact PySem.W.kia_one PySem.W.kitx_tuple I.kIn ⟨o, h1, h2⟩ e (fun z => nomatch z) h
  | @dK a kvs ea =>
    cases (show u = Value.ref a from rx)
    obtain ⟨_, _, vs, _, p⟩ := (show ObjOk X.prog X.w H s.heap a (.dK kvs) from I.hok a _ ea)
    obtain ⟨o, es, ep, h1, h2, _⟩ := p
    exact PySem.W.kia_one PySem.W.kitx_dict I.kIn ⟨o, h1, h2.1⟩ e (fun z => nomatch z) h
  | @dT a kvs ea =>
    cases (show u = Value.ref a from rx)
    obtain ⟨_, _, xs, _, o, es, ep, h1, h2, _⟩ := (show ObjOk X.prog X.w H s.heap a (.dT kvs) from I.hok a _ ea)
    exact PySem.W.kia_one PySem.W.kitx_dict I.kIn ⟨o, h1, h2.1⟩ e (fun z => nomatch z) h
  | @ins a C dx fs ea cl ha hn htk hm =>
    cases (show u = Value.ref a from rx)
    obtain ⟨mA, O, _⟩ := ins_get I.hok ea
    obtain ⟨od, J, _⟩ := O.look
    exact PySem.W.kia_one (PySem.W.kitx_own (cl.get _) cl.hd ha hn htk hm) I.kIn J e (fun z => nomatch z) h
end
end L2

namespace L2
open PySem PySem.Spec PyProof.Rows

/-! ### room -/
structure Room (k : Nat) (A : Around) : Prop where
  hd : A.handled = none
  dp : A.depth + 3 * k + 5 < recursionLimit
  un : A.units + 16 * k + 200 < cLine
theorem Room.mono {j k : Nat} {A : Around} (r : Room k A) (h : j ≤ k) : Room j A := ⟨r.hd, by have := r.dp; omega, by have := r.un; omega⟩
theorem Room.deeper {k : Nat} {A : Around} (r : Room (k + 1) A) (env : Env) : Room k (A.deeper env) :=
  ⟨r.hd, by have := r.dp; show A.depth + 1 + 3 * k + 5 < _; omega, by have := r.un; show A.units + 3 + 16 * k + 200 < _; omega⟩
theorem Room.in1 {k : Nat} {A : Around} (r : Room (k + 1) A) : Room k A.in1 :=
  ⟨r.hd, by have := r.dp; show A.depth + 3 * k + 5 < _; omega, by have := r.un; show A.units + 1 + 16 * k + 200 < _; omega⟩
theorem Room.depth {k : Nat} {A : Around} (r : Room k A) : A.depth < recursionLimit := by have := r.dp; omega
theorem Room.units {k : Nat} {A : Around} (r : Room k A) : A.units + 64 < cLine := by have := r.un; omega

/-! ### argument lists and displays -/
def tNil : TA := fun _ H Q => Q [] H
def tCons (ta : TE) (tr : TA) : TA := fun σ H Q => ta σ H fun x H1 => tr σ H1 fun xs H2 => Q (x :: xs) H2
section
variable {X : Cx} {e : Expr} {es : List Expr} {te : TE} {t : TA} {pos : Pos}
theorem pa_nil : PA X [] tNil := fun _ _ _ _ H Q I h => Calls.spliced_nil ⟨[], H, I, .nil, h⟩
theorem pa_cons (ha : PE X e te) (hr : PA X es t) (hs : starEach (e :: es) X.env = (false, eval e X.env) :: starEach es X.env := by rfl) : PA X (e :: es) (tCons te t) := by
  intro pos pins s σ H Q I h
  rw [hs]
  show wpAny _ _ (spliced ((false, eval e X.env) :: backTo pos (starEach es X.env))) _ _ s
  refine Calls.spliced_cons (thn (ha pins s σ H _ I h) fun u s1 hh => ?_)
  obtain ⟨x, H1, I1, r1, q1⟩ := hh
  exact thn (hr pos pins s1 σ H1 _ I1 q1) fun us s2 ⟨xs, H2, I2, r2, q2⟩ => ⟨x :: xs, H2, I2, .cons r1 r2, q2⟩

/-- a tuple, a list of written items -/
def tTup (t : TA) : TE := fun σ H Q => t σ H fun xs H1 => xs.length ≤ sizeLine ∧ ∀ p, H1 p = none → Q (.ref p) (upd H1 p (.tup xs))
theorem pe_tup {x1} (h : PA X es t) : PE X (.Tuple es x1 pos) (tTup t) := by
  intro pins s σ H Q I hq
  refine wpAny_Tuple_spliced (thn (h pos pins s σ H _ I hq) fun us s1 ⟨xs, H1, I1, r, z, q⟩ => ⟨by rw [← r.length]; exact z, ?_⟩)
  have hf : H1 s1.heap.objs.size = none := I1.hok.fresh (Nat.le_refl _)
  refine ⟨.ref s1.heap.objs.size, upd H1 s1.heap.objs.size (.tup xs), I1.laid (t' := s1.toks) (fun b u e => Heap.get?_push_of_some _ e) (Nat.le_refl _) ?_, rfl, q _ hf⟩
  exact ⟨z, us, r, ⟨_, Heap.get?_push_size _ rfl, rfl, _, rfl⟩⟩
end

/-! ### what a def promises -/
/-- a def's promise: the bound arguments in the parameters' order, the heap, the wanted end, the wanted exception -/
abbrev Sp := List V → Hp → VK → XK → Prop
/-- how an exception lies behind a call (file 08 gives it): the callers' frames, abstract heap and state ahead of the call, the wish, the exception, the state -/
abbrev CXT := List Env → Hp → Shared → XK → Value → Shared → Prop

/-- the state at a call -/
structure Env0 (P : Program) (w : World) (K : PySem.W.Frag) (mg : Str → Option Value) (base : Heap) (A : Around) (outer : List Env) (s : Shared) (H : Hp) : Prop where
  frames : A.frames = some outer
  mod : Mod K mg base
  bs : ∀ b o, base.get? b = some o → s.heap.get? b = some o ∧ H b = none
  bsz : base.objs.size ≤ s.heap.objs.size
  funs : s.heap.FunFrames base outer
  frf : ∀ b ∈ frs outer, H b = none
  hok : HOk P w H s.heap
  bare : AllBare s.gens
  tb : TB P K mg base H
/-- a call's end -/
def CE (outer : List Env) (P : Program) (w : World) (H : Hp) (s : Shared) (Q : VK) (u : Value) (s' : Shared) : Prop :=
  ∃ v H', s'.os = s.os ∧ AllBare s'.gens ∧ Un (frs outer) [] H H' s.heap s'.heap ∧ HOk P w H' s'.heap ∧ RelV v u ∧ Q v H'
def CR (CX : CXT) (outer : List Env) (P : Program) (w : World) (H : Hp) (s : Shared) (Q : VK) (E : XK) (r : Result) (s' : Shared) : Prop :=
  match r with
  | .ok (.ret u) => CE outer P w H s Q u s'
  | .ok _ => False
  | .error e => CX outer H s E e s'
structure FnOk (P : Program) (w : World) (K : PySem.W.Frag) (mg : Str → Option Value) (base : Heap) (CX : CXT) (k : Nat) (f : Addr) (fd : FuncData) (ps : List Str) (sp : Sp) : Prop where
  len : ∀ vs H Q E, sp vs H Q E → vs.length = ps.length
  run : ∀ (A : Around) (outer : List Env) (s : Shared) (H : Hp) (args : Args) (us : List Value) (vs : List V) (Q : VK) (E : XK), Room k A → Env0 P w K mg base A outer s H → BindsTo s fd args (ps.zip us) → Vals vs us → sp vs H Q E →
    codeAny (model P w) A (.call (.ref f) args) (CR CX outer P w H s Q E) s
theorem FnOk.mono {P : Program} {w : World} {K : PySem.W.Frag} {mg : Str → Option Value} {base : Heap} {CX : CXT} {j k : Nat} {f : Addr} {fd : FuncData} {ps : List Str} {sp : Sp} (F : FnOk P w K mg base CX j f fd ps sp) (h : j ≤ k) :
    FnOk P w K mg base CX k f fd ps sp := ⟨F.len, fun A outer s H args us vs Q E hr => F.run A outer s H args us vs Q E (hr.mono h)⟩
/-- a weaker promise -/
theorem FnOk.imp {P : Program} {w : World} {K : PySem.W.Frag} {mg : Str → Option Value} {base : Heap} {CX : CXT} {k : Nat} {f : Addr} {fd : FuncData} {ps : List Str} {sp sp' : Sp} (F : FnOk P w K mg base CX k f fd ps sp)
    (h : ∀ vs H Q E, sp' vs H Q E → sp vs H Q E) : FnOk P w K mg base CX k f fd ps sp' :=
  ⟨fun vs H Q E q => F.len vs H Q E (h _ _ _ _ q), fun A outer s H args us vs Q E hr he hb hv hs => F.run A outer s H args us vs Q E hr he hb hv (h _ _ _ _ hs)⟩

theorem Env0.in1 {P : Program} {w : World} {K : PySem.W.Frag} {mg : Str → Option Value} {base : Heap} {A : Around} {outer : List Env} {s : Shared} {H : Hp} (e : Env0 P w K mg base A outer s H) :
    Env0 P w K mg base A.in1 outer s H := ⟨e.frames, e.mod, e.bs, e.bsz, e.funs, e.frf, e.hok, e.bare, e.tb⟩

section
variable {X : Cx} {pins : List (Addr × Obj)} {σ : St} {H : Hp} {s s' : Shared}
/-- from a body: what a callee wants -/
theorem Inv.env0 (I : Inv X pins σ H s) : Env0 X.prog X.w X.K X.mg X.base X.A X.stack s H :=
  ⟨I.ok.frames, I.ok.mod, I.bs, Nat.le_trans I.ok.bsz I.sz, I.stack, I.stkFree, I.hok, I.bare, I.tb⟩
/-- behind a call -/
theorem Inv.after {Q : VK} {u : Value} (I : Inv X pins σ H s) (h : CE X.stack X.prog X.w H s Q u s') : EP X pins σ Q u s' := by
  obtain ⟨v, H', os, bare, un, hok, r, q⟩ := h
  obtain ⟨hh, g, d, t, os'⟩ := s'
  obtain rfl : os' = s.os := os
  exact ⟨v, H', I.call (h' := hh) (g' := g) (d' := d) (t' := t) (ch := []) un hok bare (fun b z => absurd z (by simp)), r, q⟩
end

/-! ### calls -/
/-- f(..): the written arguments, then the defaults dvs; E: what is wanted of an exception -/
def tCall (sp : Sp) (dvs : List V) (E : XK) (t : TA) : TE := fun σ H Q => t σ H fun vs H1 => sp (vs ++ dvs) H1 Q E

/-- how the parameters are bound: us the positional arguments, kw the keywords' values by name, ds the defaults that fill up -/
def Binds (K : PySem.W.Frag) (fd : FuncData) (ps : List Str) (ds : List Value) : Prop :=
  ∀ (s : Shared) (us : List Value), K.In s.heap → (us ++ ds).length = ps.length → BindsTo s fd ⟨us, []⟩ (ps.zip (us ++ ds))
/-- every parameter is given -/
theorem Binds.all {K : PySem.W.Frag} {fd : FuncData} {ps : List Str} (h : ∀ us : List Value, us.length = ps.length → bindArgs fd ⟨us, []⟩ = pure (ps.zip us)) : Binds K fd ps [] := fun s us _ hl => by
  rw [List.append_nil] at hl ⊢
  exact .of_eq (h us hl)

/-- an exception of a callee reaches what this body wants of exceptions -/
def Passes (CX : CXT) (X : Cx) (E : XK) : Prop := ∀ (pins : List (Addr × Obj)) (σ : St) (H : Hp) (s : Shared) (e : Value) (s' : Shared), Inv X pins σ H s → CX X.stack H s E e s' → X.xe e s'

section
variable {X : Cx} {CX : CXT} {k : Nat} {f C : Addr} {fd : FuncData} {ps : List Str} {sp : Sp} {dvs : List V} {ds : List Value} {E : XK} {x m : Str} {p pos apos : Pos} {e o : Expr} {es : List Expr} {ta : TE} {t : TA}

/-- the callee runs -/
theorem run_fn {pins : List (Addr × Obj)} {σ : St} {H : Hp} {s : Shared} {Q : VK} {us : List Value} {vs : List V} (F : FnOk X.prog X.w X.K X.mg X.base CX k f fd ps sp) (hr : Room k X.A) (hb : Binds X.K fd ps ds) (hd : Vals dvs ds) (hx : Passes CX X E)
    (I : Inv X pins σ H s) (r : Vals vs us) (h : sp (vs ++ dvs) H Q E) : wpAny (model X.prog X.w) X.A (call (.ref f) us) (EP X pins σ Q) X.xe s := by
  have r2 : Vals (vs ++ dvs) (us ++ ds) := r.append hd
  have hl : (us ++ ds).length = ps.length := by rw [← r2.length]; exact F.len _ _ _ _ h
  refine wpAny_call (codeAny_mono (F.run X.A X.stack s H ⟨us, []⟩ (us ++ ds) (vs ++ dvs) Q E hr I.env0 (hb s us I.kIn hl) r2 h) fun r s' hq => ?_)
  cases r with
  | error e => exact hx pins σ H s e s' I hq
  | ok fl =>
    cases fl with
    | ret u => exact I.after hq
    | next => exact False.elim hq
    | brk => exact False.elim hq
    | cont => exact False.elim hq

theorem pe_call (F : FnOk X.prog X.w X.K X.mg X.base CX k f fd ps sp) (hr : Room k X.A) (hg : Gl X x) (hm : X.mg x = some (.ref f)) (hk : PySem.W.keepIn X.K (.ref f) = true) (hb : Binds X.K fd ps ds) (hd : Vals dvs ds) (hx : Passes CX X E)
    (ha : PA X (e :: es) t) (hdb : (x == ("__debug__" : Str)) = false := by decide) (he : starEach (e :: es) X.env = (false, eval e X.env) :: starEach es X.env := by rfl) (hpl : (backTo pos (starEach es X.env)).any (·.1) = false := by rfl) :
    PE X (.Call (.Name x p) (e :: es) [] pos) (tCall sp dvs E t) := by
  intro pins s σ H Q I h
  refine wpAny_Call_Name_kw (ld_glob I hg hm ?_ hdb)
  refine PySem.W.callWith_K (h₀ := X.base) I.ok.mod.kin hk (thn (ha pos pins s σ H _ I h) fun us s1 ⟨vs, H1, I1, r, q⟩ => ⟨I1.kIn, ?_⟩) he hpl
  exact run_fn F hr hb hd hx I1 r q



end

/-! ### keywords -/
section
variable {X : Cx} {CX : CXT} {k : Nat} {f C : Addr} {fd : FuncData} {ps ks : List Str} {sp : Sp} {E : XK} {x m : Str} {p pos apos kpos : Pos} {e o : Expr} {es : List Expr} {kws : List Keyword} {te ta : TE} {t tk : TA} {nm : Option Str}

variable {g : List Value → List Value → List Value} {gV : List V → List V → List V}
end

/-! ### a def's body keeps its promise -/
/-- names: the parameters first -/
structure FnScope (N P : List Str) (sc : Scope) : Prop where
  kind : sc.kind = .function
  co : sc.isCoroutine = false
  gen : sc.isGenerator = false
  nd : N.Nodup
  pre : N.take P.length = P
  par : ∀ x ∈ P, sc.names.lookup x = some .local ∨ sc.names.lookup x = some .cell
  nofree : ∀ y ∈ sc.names, y.2 ≠ .free

theorem bindL_out {kindOf : Str → Option NameKind} {x : Str} : ∀ {binds : List (Str × Value)} {m : Str → Option Value}, (∀ v, (x, v) ∉ binds) → bindL kindOf binds m x = m x
  | [], _, _ => rfl
  | (n, v) :: r, m, h => by
    unfold bindL
    rw [bindL_out fun w hw => h w (List.mem_cons_of_mem _ hw)]
    split
    · have : x ≠ n := by rintro rfl; exact h v List.mem_cons_self
      simp [this]
    · rfl
theorem bindC_out {kindOf : Str → Option NameKind} {x : Str} : ∀ {binds : List (Str × Value)} {m : Str → Option Value}, (∀ v, (x, v) ∉ binds) → bindC kindOf binds m x = m x
  | [], _, _ => rfl
  | (n, v) :: r, m, h => by
    unfold bindC
    rw [bindC_out fun w hw => h w (List.mem_cons_of_mem _ hw)]
    split
    · rfl
    · have : x ≠ n := by rintro rfl; exact h v List.mem_cons_self
      simp [this]
theorem bindL_get {kindOf : Str → Option NameKind} {x : Str} {v : Value} : ∀ {P : List Str} {vs : List Value} {i : Nat} {m : Str → Option Value}, P.Nodup → P[i]? = some x → vs[i]? = some v → kindOf x = some .local →
    bindL kindOf (P.zip vs) m x = some v
  | [], _, _, _, _, h, _, _ => by simp at h
  | _ :: _, [], _, _, _, _, h, _ => by simp at h
  | p :: P, w :: vs, 0, m, nd, h1, h2, hk => by
    simp at h1 h2; subst h1; subst h2
    show bindL kindOf ((p, w) :: P.zip vs) m p = _
    unfold bindL
    rw [bindL_out fun v hv => (List.nodup_cons.mp nd).1 (List.of_mem_zip hv).1, if_pos hk]
    simp
  | p :: P, w :: vs, i + 1, m, nd, h1, h2, hk => by
    show bindL kindOf ((p, w) :: P.zip vs) m x = _
    unfold bindL
    exact bindL_get (i := i) (List.nodup_cons.mp nd).2 (by simpa using h1) (by simpa using h2) hk
theorem bindC_get {kindOf : Str → Option NameKind} {x : Str} {v : Value} : ∀ {P : List Str} {vs : List Value} {i : Nat} {m : Str → Option Value}, P.Nodup → P[i]? = some x → vs[i]? = some v → kindOf x ≠ some .local →
    bindC kindOf (P.zip vs) m x = some v
  | [], _, _, _, _, h, _, _ => by simp at h
  | _ :: _, [], _, _, _, _, h, _ => by simp at h
  | p :: P, w :: vs, 0, m, nd, h1, h2, hk => by
    simp at h1 h2; subst h1; subst h2
    show bindC kindOf ((p, w) :: P.zip vs) m p = _
    unfold bindC
    rw [bindC_out fun v hv => (List.nodup_cons.mp nd).1 (List.of_mem_zip hv).1, if_neg hk]
    simp
  | p :: P, w :: vs, i + 1, m, nd, h1, h2, hk => by
    show bindC kindOf ((p, w) :: P.zip vs) m x = _
    unfold bindC
    exact bindC_get (i := i) (List.nodup_cons.mp nd).2 (by simpa using h1) (by simpa using h2) hk

/-- the names' values at the entry -/
def start (N : List Str) (vs : List V) : St := vs.map some ++ List.replicate (N.length - vs.length) none

/-- the context of a def's body, at its entry; an exception leaves the frame, then lies as CX says -/
def cxOf (CX : CXT) (P : Program) (w : World) (K : PySem.W.Frag) (mg : Str → Option Value) (base : Heap) (N : List Str) (qual : Str) (scope : Scope) (f : Addr) (cd : Value) (A : Around) (outer : List Env) (s : Shared) (H : Hp) (E : XK) : Cx where
  prog := P
  w := w
  K := K
  mg := mg
  base := base
  A := A.deeper (envOfC qual scope s.heap.objs.size f cd)
  N := N
  s₀ := s
  H₀ := H
  env := envOfC qual scope s.heap.objs.size f cd
  outer := outer
  stack := envOfC qual scope s.heap.objs.size f cd :: outer
  ex := []
  calm := true
  fn := fun _ => true
  pn := []
  xe := fun e s' => wpAny (model P w) (A.deeper (envOfC qual scope s.heap.objs.size f cd)) (leaving (envOfC qual scope s.heap.objs.size f cd) e) (fun _ s'' => CX outer H s E e s'') (fun e' s'' => CX outer H s E e' s'') s'

theorem cell_has {sc : Scope} {n : Nat} {x : Str} (h : sc.names.lookup x = some .cell) : ∃ c, (cellsFrom n sc.names []).lookup x = some c := by
  have q := PySem.W.cellsFrom_some sc.names n [] (.inl h)
  exact Option.isSome_iff_exists.mp q

theorem inv_start {CX : CXT} {P : Program} {w : World} {K : PySem.W.Frag} {mg : Str → Option Value} {base : Heap} {N ps : List Str} {qual : Str} {scope : Scope} {f : Addr} {cd : Value} {A : Around} {outer : List Env} {s s1 : Shared} {H : Hp} {E : XK} {us : List Value} {vs : List V}
    (S : FnScope N ps scope) (hd : A.handled = none) (e0 : Env0 P w K mg base A outer s H) (hl : vs.length = ps.length) (r : Vals vs us)
    (x : InCallC s s.heap.objs.size (bindL (envOfC qual scope s.heap.objs.size f cd).kindOf (ps.zip us) fun _ => none) (cellsFrom (s.heap.objs.size + 1) scope.names []) (bindC (envOfC qual scope s.heap.objs.size f cd).kindOf (ps.zip us) fun _ => none) s1) :
    Inv (cxOf CX P w K mg base N qual scope f cd A outer s H E) [] (start N vs) H s1 := by
  have hpl : ps.length ≤ N.length := by have := congrArg List.length S.pre; rw [List.length_take] at this; omega
  obtain ⟨h1, tk, rfl, hk⟩ := x.done
  have noA : ∀ b : Addr, b ∉ (cxOf CX P w K mg base N qual scope f cd A outer s H E).ex := fun b z => absurd (show b ∈ ([] : List Addr) from z) (by simp)
  refine ⟨⟨e0.mod, S.kind, rfl, rfl, Nat.le_refl _, fun y z c h1 h2 => ?_, fun y hy => ?_, fun y c _ h => ?_, fun _ => hd, Around.frames_deeper e0.frames, .inr ⟨rfl, rfl⟩, fun b z => absurd z (noA b), e0.bs, e0.bsz, fun b _ _ => noA b, fun b z => absurd z (noA b), e0.funs, e0.frf, e0.tb⟩,
    rfl, e0.bare, Un.kept hk, ⟨_, x.toInCall.ns, fun i y v h1 h2 h3 => ?_⟩, fun y c h => ⟨_, x.cell y c h⟩, e0.hok.fresh (Nat.le_refl _), fun y c h => ?_, fun p hp => absurd (show p ∈ ([] : List (Addr × Obj)) from hp) (by simp), e0.hok.kept hk, ?_⟩
  · exact name_of_addr x.apart (PySem.mem_of_lookup h1) (PySem.mem_of_lookup h2)
  · have hy : scope.names.lookup y = some .cell ∨ scope.names.lookup y = some .free := hy
    rcases hy with hy | hy
    · exact cell_has hy
    · exact absurd rfl (S.nofree _ (PySem.mem_of_lookup hy))
  · exact Nat.le_of_lt (x.above y c (PySem.mem_of_lookup h))
  · have hi : i < vs.length := by
      unfold start at h2
      by_cases hi : i < vs.length
      · exact hi
      · rw [List.getElem?_append_right (by simpa using hi)] at h2
        rw [List.getElem?_replicate] at h2
        split at h2 <;> cases h2
    have ha : vs[i]? = some v := by
      unfold start at h2
      rw [List.getElem?_append_left (by simpa using hi), List.getElem?_map] at h2
      cases e : vs[i]? with
      | none => rw [e] at h2; cases h2
      | some a => rw [e] at h2; cases h2; rfl
    obtain ⟨u, hu, rv⟩ := r.get ha
    have hp : ps[i]? = some y := by
      rw [← S.pre, List.getElem?_take_of_lt (by omega)]; exact h1
    have ndP : ps.Nodup := by rw [← S.pre]; exact S.nd.sublist (List.take_sublist _ _)
    refine ⟨u, rv, ?_⟩
    rcases S.par y (List.mem_of_getElem? hp) with k | k
    · exact .inl ⟨k, bindL_get ndP hp hu k⟩
    · obtain ⟨c, e⟩ := cell_has (n := s.heap.objs.size + 1) k
      refine .inr ⟨.inl k, c, e, ?_⟩
      have q := x.cell y c e
      rw [bindC_get ndP hp hu (by show scope.names.lookup y ≠ _; rw [k]; decide)] at q
      exact q
  · exact e0.hok.fresh (Nat.le_of_lt (x.above y c (PySem.mem_of_lookup h)))
  · unfold start
    show _ = N.length
    rw [List.length_append, List.length_map, List.length_replicate]
    omega

/-- THE RULE: a def (or a method) of the text, by its body. The body's reading t is chosen for each entry; it is run at the parameters' values -/
theorem fn_of {CX : CXT} {P : Program} {w : World} {K : PySem.W.Frag} {mg : Str → Option Value} {base : Heap} {k : Nat} {f : Addr} {name qual : Str} {params : Arguments} {body : List Stmt} {scope : Scope} {dV kV doc pm cdv ct oc : Value} {an od : Option Addr}
    {osl : Array (Option Value)} {N ps : List Str} {sp : Sp} (lk : K.lookup f = some ⟨oc, od, .func (PySem.W.fnOf name qual params body scope dV kV doc pm an cdv ct), osl⟩) (hcd : PySem.W.codeIn K cdv qual = true) (S : FnScope N ps scope)
    (len : ∀ vs H Q E, sp vs H Q E → vs.length = ps.length)
    (hbody : ∀ (A : Around) (outer : List Env) (s : Shared) (H : Hp) (vs : List V) (Q : VK) (E : XK), Room k (A.deeper (envOfC qual scope s.heap.objs.size f cdv)) → sp vs H Q E →
      ∃ t, PSs (cxOf CX P w K mg base N qual scope f cdv A outer s H E) body t ∧ t { nx := fun _ H' => Q .non H', rt := Q } (start N vs) H) :
    FnOk P w K mg base CX (k + 1) f (PySem.W.fnOf name qual params body scope dV kV doc pm an cdv ct) ps sp := by
  refine ⟨len, fun A outer s H args us vs Q E hr e0 hb r hsp => ?_⟩
  have hl := len _ _ _ _ hsp
  have KX : K.In s.heap := e0.mod.kin.keeps fun b o e => (e0.bs b o e).1
  have lim : s.heap.NoLimit := e0.mod.nolimit.keeps fun b o e => (e0.bs b o e).1
  have hkind : ∀ y ∈ ps.zip us, scope.names.lookup y.1 = some .local ∨ (scope.names.lookup y.1 = some .cell ∧ ((cellsFrom (s.heap.objs.size + 1) scope.names []).lookup y.1).isSome = true) := fun ⟨n, v⟩ hy => by
    rcases S.par n (List.of_mem_zip hy).1 with q | q
    · exact .inl q
    · exact .inr ⟨q, PySem.W.cellsFrom_some _ _ _ (.inl q)⟩
  refine codeAny_call_function hr.depth (KX _ _ lk) rfl S.co S.gen rfl (PySem.W.codeRec_of KX hcd) (hb _ _ _ _ ?_)
  refine wpAny_newFunctionEnv_cells S.kind hkind fun env he s1 x => ?_
  subst he
  refine ⟨lim.keeps x.toInCall.keep, codeAny_func ?_⟩
  obtain ⟨t, ht, hq⟩ := hbody A outer s H vs Q E (hr.deeper _) hsp
  have I : Inv (cxOf CX P w K mg base N qual scope f cdv A outer s H E) [] (start N vs) H s1 := inv_start S hr.hd e0 hl r x
  refine wpAny_mono (ht [] s1 (start N vs) H _ I hq) (fun fl s' hs => ?_) fun e s' hs => hs
  have fin : ∀ {σ' : St} {H' : Hp} {v : V} {u : Value}, Inv (cxOf CX P w K mg base N qual scope f cdv A outer s H E) [] σ' H' s' → RelV v u → Q v H' → CE outer P w H s Q u s' :=
    fun {σ' H' v u} J rv q => ⟨v, H', J.os, J.bare, J.base, J.hok, rv, q⟩
  cases fl with
  | ret u =>
    obtain ⟨v, σ', H', J, rv, q⟩ := hs
    exact fin J rv q
  | next =>
    obtain ⟨σ', H', J, q⟩ := hs
    exact fin (v := V.non) (u := Value.none) J rfl q
  | brk =>
    obtain ⟨_, _, _, q⟩ := hs
    exact False.elim q
  | cont =>
    obtain ⟨_, _, _, q⟩ := hs
    exact False.elim q
end L2

namespace L2
open PySem PySem.Spec PyProof.Rows
section
variable {X : Cx} {x : Str} {p pos : Pos} {e : Expr} {es : List Expr} {t : TA} {id T : String} {r : List V → Hp → VK → Prop}

def tCB (r : List V → Hp → VK → Prop) (t : TA) : TE := fun σ H Q => t σ H fun vs H1 => r vs H1 Q
/-- f(e, ..), f a built-in function -/
theorem pe_callB (hc : CallR X (.builtin id) r) (hg : Gl X x) (hm : X.mg x = none) (hv : bootBuiltins x = some (.builtin id)) (ha : PA X (e :: es) t) (hn : x ≠ "__name__" := by decide) (hdb : (x == ("__debug__" : Str)) = false := by decide)
    (he : starEach (e :: es) X.env = (false, eval e X.env) :: starEach es X.env := by rfl) (hpl : (backTo pos (starEach es X.env)).any (·.1) = false := by rfl) : PE X (.Call (.Name x p) (e :: es) [] pos) (tCB r t) := by
  intro pins s σ H Q I h
  refine wpAny_Call_Name_kw (ld_blt I hg hm hv ?_ hn hdb)
  exact PyProof.Rows.callWith_builtin1 (thn (ha pos pins s σ H _ I h) fun us s1 ⟨vs, H1, I1, r1, q1⟩ => hc pins s1 σ H1 vs us Q I1 r1 q1) he hpl
/-- T(e, ..), T a built-in type -/
theorem pe_callTy (hc : CallR X (.type T) r) (hg : Gl X x) (hm : X.mg x = none) (hv : bootBuiltins x = some (.type T)) (ha : PA X (e :: es) t) (hn : x ≠ "__name__" := by decide) (hdb : (x == ("__debug__" : Str)) = false := by decide)
    (he : starEach (e :: es) X.env = (false, eval e X.env) :: starEach es X.env := by rfl) (hpl : (backTo pos (starEach es X.env)).any (·.1) = false := by rfl) : PE X (.Call (.Name x p) (e :: es) [] pos) (tCB r t) := by
  intro pins s σ H Q I h
  refine wpAny_Call_Name_kw (ld_blt I hg hm hv ?_ hn hdb)
  exact PyProof.Rows.callWith_type1 (thn (ha pos pins s σ H _ I h) fun us s1 ⟨vs, H1, I1, r1, q1⟩ => hc pins s1 σ H1 vs us Q I1 r1 q1) he hpl
end
end L2

namespace HT
open PySem PyProof.Rows



section
open PySem.SeqAt
open PySem.AutoSeq1 (wpAny_loadPart')
open PySem.MeetsSeq PySem.MeetsSeq2 PySem.MeetsSeq3

end

section
variable {prog : Program} {w : World} {A : Around} {E : Value → Shared → Prop} {s : Shared}



/-! ### t[a:b], not the whole -/

end
end HT

namespace L2
open PySem PySem.Spec PyProof.Rows

/-! ### the parts of a slice -/
abbrev TO := St → Hp → (Option Int → Hp → Prop) → Prop
/-- a slice's part (left out, or an int) -/
def PO (X : Cx) (e : Option Expr) (t : TO) : Prop :=
  ∀ (pins : List (Addr × Obj)) (s : Shared) (σ : St) (H : Hp) (Q : Option Int → Hp → Prop), Inv X pins σ H s → t σ H Q →
    wpAny (model X.prog X.w) X.A (evalPart e X.env) (fun u s' => ∃ o H', Inv X pins σ H' s' ∧ IsPart u o ∧ Q o H') X.xe s
def tNoPart : TO := fun _ H Q => Q none H
def tPart (t : TE) : TO := fun σ H Q => t σ H fun x H1 => ∃ i, x = .int i ∧ Q (some i) H1


section
variable {X : Cx} {e : Expr} {te : TE} {lo hi : Option Expr} {tl th : TO} {pos p2 : Pos}

theorem po_none : PO X none tNoPart := by
  intro pins s σ H Q I h
  rw [evalPart_none]
  exact wpAny_pure ⟨none, H, I, .none, h⟩
theorem po_some (h : PE X e te) : PO X (some e) (tPart te) := by
  intro pins s σ H Q I hw
  rw [evalPart_some]
  refine thn (h pins s σ H _ I hw) fun u s1 hh => ?_
  obtain ⟨x, H1, I1, r1, q1⟩ := hh
  obtain ⟨i, rfl, q⟩ := q1
  obtain ⟨t, rfl⟩ := r1
  exact ⟨some i, H1, I1, .int i t, q⟩

/-- what a slice of a value is, by values: the slice object stands at sl -/
def SlR (X : Cx) (r : V → Option Int → Option Int → Hp → VK → Prop) : Prop :=
  ∀ (pins : List (Addr × Obj)) (s : Shared) (σ : St) (H : Hp) (x : V) (v vl vu : Value) (lo hi : Option Int) (sl : Addr) (Q : VK), Inv X pins σ H s → RelV x v → s.heap.IsSliceOf sl vl vu .none → IsPart vl lo → IsPart vu hi → r x lo hi H Q →
    ∃ T id, typeLookup (.type T) "__getitem__" = pure (some (.builtin id)) ∧ s.TypeIs v T ∧ wpAny (model X.prog X.w) X.A (getItem v (.ref sl)) (EP X pins σ Q) X.xe s
theorem SlR.or {r r' : V → Option Int → Option Int → Hp → VK → Prop} (h : SlR X r) (h' : SlR X r') : SlR X (fun x lo hi H Q => r x lo hi H Q ∨ r' x lo hi H Q) := by
  intro pins s σ H x v vl vu lo hi sl Q I rx hs pl pu q
  rcases q with q | q
  · exact h pins s σ H x v vl vu lo hi sl Q I rx hs pl pu q
  · exact h' pins s σ H x v vl vu lo hi sl Q I rx hs pl pu q
def tSl (r : V → Option Int → Option Int → Hp → VK → Prop) (te : TE) (tl th : TO) : TE := fun σ H Q => te σ H fun x H1 => tl σ H1 fun l H2 => th σ H2 fun u H3 => r x l u H3 Q
/-- a[lo:hi], any a -/
theorem pe_slice {r : V → Option Int → Option Int → Hp → VK → Prop} (hr : SlR X r) (he : PE X e te) (hl : PO X lo tl) (hu : PO X hi th) : PE X (.Subscript e (.Slice lo hi none p2) pos) (tSl r te tl th) := by
  intro pins s σ H Q I h
  refine Subscript_ (thn (he pins s σ H _ I h) fun v s1 hh => ?_)
  obtain ⟨x, H1, I1, r1, q1⟩ := hh
  refine wpAny_Slice (thn (hl pins s1 σ H1 _ I1 q1) fun vl s2 ⟨l, H2, I2, pl, q2⟩ => thn (hu pins s2 σ H2 _ I2 q2) fun vu s3 hh => ?_)
  obtain ⟨u, H3, I3, pu, q3⟩ := hh
  rw [evalPart_none]
  refine wpAny_pure ?_
  have I4 : Inv X pins σ H3 { s3 with heap := s3.heap.push { cls := .type "slice", data := .fields #[vl, vu, .none] } } := I3.kept (t' := s3.toks) fun b ob q => Heap.get?_push_of_some _ q
  obtain ⟨T, id, hT, ht, hg⟩ := hr pins { s3 with heap := s3.heap.push { cls := .type "slice", data := .fields #[vl, vu, .none] } } σ H3 x v vl vu l u s3.heap.objs.size Q I4 r1 (Heap.IsSliceOf.new ..) pl pu q3
  show wpAny (model X.prog X.w) X.A (subscriptTail e (.Slice lo hi none p2) v (.ref s3.heap.objs.size)) (EP X pins σ Q) X.xe { s3 with heap := s3.heap.push { cls := .type "slice", data := .fields #[vl, vu, .none] } }
  exact tail_any (ops := [.ref s3.heap.objs.size, v]) ht hT hg (by with_unfolding_all rfl)


/-! ### t < u, t + u -/
end
end L2

namespace L2
open PySem PySem.Spec PyProof.Rows

/-! ### places -/
/-- the place that an index of any sign means -/
def ixN (n : Nat) (i : Int) : Option Nat := if 0 ≤ i then (if i < n then some i.toNat else none) else if -(n : Int) ≤ i then some (i + n).toNat else none
def atI {α : Type} (xs : List α) (i : Int) : Option α := (ixN xs.length i).bind fun j => xs[j]?
theorem ixN_seq {n : Nat} {i : Int} {j : Nat} (h : ixN n i = some j) : seqIndex? i n = some j ∧ j < n ∧ -(n : Int) ≤ i ∧ i < n := by
  unfold ixN at h
  by_cases h0 : 0 ≤ i
  · rw [if_pos h0] at h
    by_cases h1 : i < n
    · rw [if_pos h1] at h
      have e : i.toNat = j := Option.some.inj h
      exact ⟨by rw [seqIndex_of h0 h1, e], by omega, by omega, h1⟩
    · rw [if_neg h1] at h; cases h
  · rw [if_neg h0] at h
    by_cases h1 : -(n : Int) ≤ i
    · rw [if_pos h1] at h
      have e : (i + n).toNat = j := Option.some.inj h
      exact ⟨by rw [seqIndex_neg (by omega) h1, e], by omega, h1, by omega⟩
    · rw [if_neg h1] at h; cases h
theorem atI_get {α : Type} {xs : List α} {i : Int} {v : α} (h : atI xs i = some v) : ∃ j, seqIndex? i xs.length = some j ∧ xs[j]? = some v ∧ j < xs.length ∧ -(xs.length : Int) ≤ i ∧ i < xs.length := by
  unfold atI at h
  cases e : ixN xs.length i with
  | none => rw [e] at h; cases h
  | some j =>
    rw [e] at h
    obtain ⟨h1, h2, h3, h4⟩ := ixN_seq e
    exact ⟨j, h1, h, h2, h3, h4⟩
theorem atI_nat {α : Type} {xs : List α} {j : Nat} {v : α} (h : xs[j]? = some v) : atI xs (j : Int) = some v := by
  have hj : j < xs.length := (List.getElem?_eq_some_iff.mp h).1
  have e : ixN xs.length (j : Int) = some j := by
    unfold ixN
    rw [if_pos (by omega), if_pos (by omega)]; simp
  unfold atI; rw [e]; exact h

/-! ### what may be subscripted -/
/-- what stands as an index of a plain subscript -/
def PlainIx (b : Expr) : Prop := ∀ o i, subscripted b false o i = operate [o, i] (getItem o i)
/-- a subscript by values -/
def IxR (X : Cx) (r : R2) : Prop :=
  ∀ (value slice : Expr) (pins : List (Addr × Obj)) (s : Shared) (σ : St) (H : Hp) (x y : V) (v u : Value) (Q : VK), Inv X pins σ H s → RelV x v → RelV y u → r x y H Q →
    subscripted slice false v u = operate [v, u] (getItem v u) → wpAny (model X.prog X.w) X.A (subscriptTail value slice v u) (EP X pins σ Q) X.xe s
/-- a call of a builtin's method by values: the receiver, the arguments -/
def MtR (X : Cx) (id : String) (r : V → List V → Hp → VK → Prop) : Prop :=
  ∀ (pins : List (Addr × Obj)) (s : Shared) (σ : St) (H : Hp) (x : V) (xs : List V) (v : Value) (us : List Value) (Q : VK), Inv X pins σ H s → RelV x v → Vals xs us → r x xs H Q →
    wpAny (model X.prog X.w) X.A (call (.builtin id) (v :: us)) (EP X pins σ Q) X.xe s
section
variable {X : Cx} {a b : Expr} {ta tb : TE} {pos : Pos}
theorem IxR.or {r r' : R2} (h : IxR X r) (h' : IxR X r') : IxR X (fun x y H Q => r x y H Q ∨ r' x y H Q) := by
  intro value slice pins s σ H x y v u Q I rx ry q hs
  rcases q with q | q
  · exact h value slice pins s σ H x y v u Q I rx ry q hs
  · exact h' value slice pins s σ H x y v u Q I rx ry q hs
theorem MtR.or {id : String} {r r' : V → List V → Hp → VK → Prop} (h : MtR X id r) (h' : MtR X id r') : MtR X id (fun x xs H Q => r x xs H Q ∨ r' x xs H Q) := by
  intro pins s σ H x xs v us Q I rx rs q
  rcases q with q | q
  · exact h pins s σ H x xs v us Q I rx rs q
  · exact h' pins s σ H x xs v us Q I rx rs q
/-- a[b] -/
theorem pe_ix {r : R2} (hr : IxR X r) (ha : PE X a ta) (hb : PE X b tb) (hs : PlainIx b) : PE X (.Subscript a b pos) (tOp r ta tb) := by
  intro pins s σ H Q I h
  exact Subscript_ (binT ha hb I h fun v u s2 x y H2 I2 rx ry q => hr a b pins s2 σ H2 x y v u Q I2 rx ry q (hs _ _))

def rIxL (K : PySem.W.Frag) : R2 := fun x y H Q => ∃ p xs i v, x = .ref p ∧ y = .int i ∧ SqL K H p xs ∧ atI xs i = some v ∧ Q v H
def rIxT (K : PySem.W.Frag) : R2 := fun x y H Q => ∃ p xs i v, x = .ref p ∧ y = .int i ∧ SqT K H p xs ∧ atI xs i = some v ∧ Q v H
def rIxS : R2 := fun x y H Q => ∃ z i c, x = .str z ∧ y = .int i ∧ z.length ≤ sizeLine ∧ atI z.cps.toList i = some c ∧ Q (.str ⟨#[c]⟩) H
theorem ix_list : IxR X (rIxL X.K) := by
  intro value slice pins s σ H x y v u Q I rx ry h hs
  obtain ⟨p, xs, i, z, rfl, rfl, hq, he, q⟩ := h
  cases rx
  obtain ⟨t, rfl⟩ := ry
  obtain ⟨its, r, pl, hz⟩ := I.list hq
  obtain ⟨j, h1, h2, h3, h4, h5⟩ := atI_get he
  obtain ⟨w, ew, rw'⟩ := r.get h2
  have hl := r.length
  have hn := line63
  have fin : EP X pins σ Q w s := ⟨z, H, I, rw', q⟩
  by_cases h0 : 0 ≤ i
  · have hj : i.toNat = j := by
      rw [seqIndex_of h0 h5] at h1
      exact Option.some.inj h1
    exact item_listR pl.isList h0 (by omega) (by rw [hj]; simpa using ew) fin hs
  · have hj : (i + (its.toArray.size : Int)).toNat = j := by
      rw [seqIndex_neg (by omega) h4] at h1
      rw [List.size_toArray, ← hl]
      exact Option.some.inj h1
    exact subscriptTail_builtinR (x := w) pl.isList.typeIs slot_list_getitem.lookup
      (wpAny_getItem_list_neg (Q := fun r s' => r = w ∧ EP X pins σ Q r s') pl.isList (by omega) (by rw [List.size_toArray] <;> omega) (by omega) (by rw [hj]; simpa using ew) ⟨rfl, fin⟩) hs
theorem ix_tup : IxR X (rIxT X.K) := by
  intro value slice pins s σ H x y v u Q I rx ry h hs
  obtain ⟨p, xs, i, z, rfl, rfl, hq, he, q⟩ := h
  cases rx
  obtain ⟨t, rfl⟩ := ry
  obtain ⟨its, r, pl, hz⟩ := I.tuple hq
  obtain ⟨j, h1, h2, h3, h4, h5⟩ := atI_get he
  obtain ⟨w, ew, rw'⟩ := r.get h2
  have hl := r.length
  have hn := line63
  have fin : EP X pins σ Q w s := ⟨z, H, I, rw', q⟩
  exact subscriptTail_builtinR (x := w) pl.typeIs slot_tuple_getitem.lookup
    (getItem_tuple (j := j) (Q := fun r s' => r = w ∧ EP X pins σ Q r s') pl (by omega) (by omega) (by rw [List.size_toArray, ← hl]; exact h1) (by simpa using ew) ⟨rfl, fin⟩) hs
theorem ix_str : IxR X rIxS := by
  intro value slice pins s σ H x y v u Q I rx ry h hs
  obtain ⟨z, i, c, rfl, rfl, hz, he, q⟩ := h
  obtain ⟨t, rfl⟩ := rx
  obtain ⟨t', rfl⟩ := ry
  obtain ⟨j, h1, h2, h3, h4, h5⟩ := atI_get he
  have hl : z.cps.toList.length = z.length := by simp [Str.length]
  rw [hl] at h1 h4 h5
  have hn := line63
  exact tail_any (typeIs_str s z t) slot_str_getitem.lookup (getItem_str (c := c) (by
    have e1 : decide (i < -(2 ^ 63 : Int)) = false := decide_eq_false (by omega)
    have e2 : decide (i ≥ 2 ^ 63) = false := decide_eq_false (by omega)
    rw [e1, e2, Bool.or_false]) (by rw [h1]; simpa using h2) ⟨.str ⟨#[c]⟩, H, I.tok _, ⟨_, rfl⟩, q⟩) hs

/-! ### xs[i] = v, any sign -/
theorem Inv.lst {pins : List (Addr × Obj)} {σ : St} {H : Hp} {s : Shared} {p : Addr} {xs : List V} (I : Inv X pins σ H s) (h : H p = some (.lst xs)) :
    ∃ (its : List Value) (n : Nat), Vals xs its ∧ s.heap.get? p = some { cls := .type "list", data := .seq its.toArray n } ∧ xs.length ≤ sizeLine := by
  obtain ⟨z, its, n, r, e⟩ := I.hok p _ h
  exact ⟨its, n, r, e, z⟩

/-! ### slices -/

/-! ### in, not in: flat items -/
def flatV : V → Bool
  | .non => true
  | .bl _ => true
  | .int _ => true
  | .str _ => true
  | _ => false
/-- == of flat values -/
def eqV : V → V → Bool
  | .non, .non => true
  | .bl a, .bl b => a == b
  | .bl a, .int b => (if a then 1 else 0) == b
  | .int a, .bl b => a == (if b then 1 else 0)
  | .int a, .int b => a == b
  | .str a, .str b => a == b
  | _, _ => false
theorem eqAt_V {A : Around} {s : Shared} {y x : V} {u v : Value} (ry : RelV y u) (rx : RelV x v) (fy : flatV y = true) (fx : flatV x = true) : SeqAt.EqAt A s u v (eqV y x) := by
  cases y with
  | non =>
    cases ry
    cases x with
    | non => cases rx; exact SeqAt.EqAt.same _
    | bl b => cases rx; exact SeqAt.EqAt.none_bool b
    | int b => obtain ⟨t, rfl⟩ := rx; exact SeqAt.EqAt.none_int b t
    | str b => obtain ⟨t, rfl⟩ := rx; exact SeqAt.EqAt.none_str b t
    | _ => exact absurd (show false = true from fx) Bool.false_ne_true
  | bl a =>
    cases ry
    cases x with
    | non => cases rx; exact SeqAt.EqAt.bool_none a
    | bl b => cases rx; exact SeqAt.EqAt.bool_bool a b
    | int b => obtain ⟨t, rfl⟩ := rx; exact SeqAt.EqAt.bool_int a b t
    | str b => obtain ⟨t, rfl⟩ := rx; exact SeqAt.EqAt.bool_str a b t
    | _ => exact absurd (show false = true from fx) Bool.false_ne_true
  | int a =>
    obtain ⟨t', rfl⟩ := ry
    cases x with
    | non => cases rx; exact SeqAt.EqAt.int_none a t'
    | bl b => cases rx; exact SeqAt.EqAt.int_bool a t' b
    | int b => obtain ⟨t, rfl⟩ := rx; exact SeqAt.EqAt.int_int a t' b t
    | str b => obtain ⟨t, rfl⟩ := rx; exact SeqAt.EqAt.int_str a t' b t
    | _ => exact absurd (show false = true from fx) Bool.false_ne_true
  | str a =>
    obtain ⟨t', rfl⟩ := ry
    cases x with
    | non => cases rx; exact SeqAt.EqAt.str_none a t'
    | bl b => cases rx; exact SeqAt.EqAt.str_bool a t' b
    | int b => obtain ⟨t, rfl⟩ := rx; exact SeqAt.EqAt.str_int a t' b t
    | str b => obtain ⟨t, rfl⟩ := rx; exact SeqAt.EqAt.str_str a t' b t
    | _ => exact absurd (show false = true from fx) Bool.false_ne_true
  | _ => exact absurd (show false = true from fy) Bool.false_ne_true

/-! ### len, list(x), tuple(x) of any list or tuple that is read -/
theorem call_len_seq : CallR X (.builtin "len") (fun xs H Q => ∃ p ys, xs = [.ref p] ∧ (SqL X.K H p ys ∨ SqT X.K H p ys) ∧ Q (.int ys.length) H) := by
  intro pins s σ H xs us Q I r h
  obtain ⟨p, ys, rfl, hq, q⟩ := h
  obtain ⟨u, rfl, rx⟩ := vals1 r
  cases rx
  have hn := line63
  rcases hq with hq | hq
  · obtain ⟨its, r', pl, hz⟩ := I.list hq
    have hlen := r'.length
    exact Calls.call_len_list pl.isList (by simp only [List.size_toArray] <;> omega) ⟨.int ys.length, H, I.tok _, ⟨s.toks + 1, by rw [List.size_toArray, hlen]⟩, q⟩
  · obtain ⟨its, r', pl, hz⟩ := I.tuple hq
    have hlen := r'.length
    exact len_tuple pl (by simp only [List.size_toArray] <;> omega) ⟨.int ys.length, H, I.tok _, ⟨s.toks + 1, by rw [List.size_toArray, hlen]⟩, q⟩
theorem call_len_str : CallR X (.builtin "len") (fun xs H Q => ∃ z, xs = [.str z] ∧ z.length ≤ sizeLine ∧ Q (.int z.length) H) := by
  intro pins s σ H xs us Q I r h
  obtain ⟨z, rfl, hz, q⟩ := h
  obtain ⟨u, rfl, t, rfl⟩ := vals1 r
  have hn := line63
  exact len_str (by omega) ⟨.int z.length, H, I.tok _, ⟨_, rfl⟩, q⟩
theorem CallR.or {f : Value} {r r' : List V → Hp → VK → Prop} (h : CallR X f r) (h' : CallR X f r') : CallR X f (fun xs H Q => r xs H Q ∨ r' xs H Q) := by
  intro pins s σ H xs us Q I rs q
  rcases q with q | q
  · exact h pins s σ H xs us Q I rs q
  · exact h' pins s σ H xs us Q I rs q

/-! ### the call of a builtin's method: o.m(..) -/
/-- the value is of that builtin type -/
def tyV (K : PySem.W.Frag) (T : String) (x : V) (H : Hp) : Prop := match x with
  | .str _ => T = "str"
  | .int _ => T = "int"
  | .ref p => (T = "list" ∧ ∃ xs, SqL K H p xs) ∨ (T = "tuple" ∧ ∃ o, K.lookup p = some o ∧ o.cls = .type "tuple" ∧ o.dict = none) ∨
      (T = "dict" ∧ ((∃ kvs, H p = some (.dK kvs)) ∨ ∃ kvs, H p = some (.dT kvs))) ∨ (T = "set" ∧ ∃ S n, H p = some (.set S n))
  | _ => False
theorem tyV_is {pins : List (Addr × Obj)} {σ : St} {H : Hp} {s : Shared} {T : String} {x : V} {v : Value} (I : Inv X pins σ H s) (r : RelV x v) (ty : tyV X.K T x H) :
    s.TypeIs v T ∧ ∀ a, v = .ref a → ∃ ob, s.heap.get? a = some ob ∧ ob.dict = none := by
  cases x with
  | str z =>
    obtain ⟨t, rfl⟩ := r
    cases (show T = "str" from ty)
    exact ⟨typeIs_str s z t, fun _ e => nomatch e⟩
  | int i =>
    obtain ⟨t, rfl⟩ := r
    cases (show T = "int" from ty)
    exact ⟨typeIs_int s i t, fun _ e => nomatch e⟩
  | ref p =>
    cases r
    rcases ty with ⟨rfl, xs, hq⟩ | ⟨rfl, o, hk, hc, hd⟩ | ⟨rfl, hk⟩ | ⟨rfl, S, n, hk⟩
    · obtain ⟨its, _, pl, _⟩ := I.list hq
      refine ⟨pl.isList.typeIs, fun a e => ?_⟩
      cases e
      obtain ⟨o, n, e, c, hd, _⟩ := pl
      exact ⟨o, e, hd⟩
    · refine ⟨⟨o, I.kIn p o hk, hc⟩, fun a e => ?_⟩
      cases e
      exact ⟨o, I.kIn _ o hk, hd⟩
    · have z : ∃ o, s.heap.get? p = some o ∧ o.ExactDict := by
        rcases hk with ⟨kvs, hk⟩ | ⟨kvs, hk⟩
        · obtain ⟨_, _, _, _, o, _, _, e, ex, _⟩ := I.hok p _ hk
          exact ⟨o, e, ex⟩
        · obtain ⟨_, _, _, _, o, _, _, e, ex, _⟩ := I.hok p _ hk
          exact ⟨o, e, ex⟩
      obtain ⟨o, e, ex⟩ := z
      refine ⟨⟨o, e, ex.1⟩, fun a e2 => ?_⟩
      cases e2
      exact ⟨o, e, ex.2.1⟩
    · obtain ⟨o, _, _, _, e, ex, _⟩ := I.hok p _ hk
      refine ⟨⟨o, e, ex.1⟩, fun a e2 => ?_⟩
      cases e2
      exact ⟨o, e, ex.2.1⟩
  | _ => exact False.elim ty
def tBM (K : PySem.W.Frag) (T : String) (r : V → List V → Hp → VK → Prop) (to : TE) (t : TA) : TE := fun σ H Q => to σ H fun x H1 => tyV K T x H1 ∧ t σ H1 fun xs H2 => r x xs H2 Q
variable {o e : Expr} {es : List Expr} {to : TE} {t : TA} {name : Str} {apos cpos : Pos} {T id : String} {r : V → List V → Hp → VK → Prop}
theorem pe_bm (pa : PlainAttrs T) (slot : Slot T name id) (hty : typeOf (.builtin id) = pure (.type "method_descriptor")) (hm : MtR X id r) (ho : PE X o to) (ha : PA X (e :: es) t)
    (hbase : attributeBase o name X.env (eval o X.env) = eval o X.env := by rfl)
    (hfew : ((backTo cpos (starEach (e :: es) X.env)).all (fun x => !x.1) && (backToKw cpos (keywordEach [] X.env)).all (fun x => x.1.isSome)
      && decide ((e :: es).length + ([] : List Keyword).length + (if ([] : List Keyword).isEmpty then 0 else 1) < 30)) = true := by rfl)
    (hline : (apos.endLine == cpos.line) = true := by rfl) (hs : starEach (e :: es) X.env = (false, eval e X.env) :: starEach es X.env := by rfl) (hplain : (backTo cpos (starEach es X.env)).any (·.1) = false := by rfl) :
    PE X (.Call (.Attribute o name apos) (e :: es) [] cpos) (tBM X.K T r to t) := by
  intro pins s σ H Q I h
  refine wpAny_Call_method_late hbase hfew hline rfl (thn (ho pins s σ H _ I h) fun v s1 hh => ?_)
  obtain ⟨x, H1, I1, r1, ty, q1⟩ := hh
  obtain ⟨h1, h2⟩ := tyV_is I1 r1 ty
  refine ⟨T, id, pa, slot, hty, h1, h2, ?_⟩
  have hA := ha cpos pins s1 σ H1 _ I1 q1
  rw [hs] at hA ⊢
  refine Calls.callWith_builtin (by show (false || (backTo cpos (starEach es X.env)).any (·.1)) = false; rw [hplain] <;> rfl) (Calls.evalArgs_plain ?_)
  exact thn hA fun us s2 ⟨vs, H2, I2, r2, q2⟩ => hm pins s2 σ H2 x vs v us Q I2 r1 r2 q2
/- xs.append(e), list.index on a module's tuple .. are MtR facts of 06m -/
end
end L2

namespace L2
open PySem PySem.Spec PyProof.Rows


/-! ### lists of values -/
theorem Vals.one : ∀ {x : V} {us : List Value}, Vals [x] us → ∃ u, us = [u] ∧ RelV x u
  | _, _, .cons r .nil => ⟨_, rfl, r⟩
theorem Vals.two : ∀ {x y : V} {us : List Value}, Vals [x, y] us → ∃ u v, us = [u, v] ∧ RelV x u ∧ RelV y v
  | _, _, _, .cons r (.cons q .nil) => ⟨_, _, rfl, r, q⟩
theorem Vals.zero : ∀ {us : List Value}, Vals [] us → us = []
  | _, .nil => rfl

section
variable {X : Cx} {pins : List (Addr × Obj)} {σ : St} {H : Hp} {s : Shared} {l b : Addr} {xs ys zs : List V}

/-! ### the two steps: a tracked list is rewritten, a new list is laid -/
theorem Inv.fresh (I : Inv X pins σ H s) : H s.heap.objs.size = none := I.hok.fresh (Nat.le_refl _)

end

section
variable {X : Cx}

/-! ### methods -/






/-! ### list + list, list += list, list * int -/

/-! ### del xs[i] -/
end

/-! ### xs[a:b] = ys -/
section
variable {prog : Program} {w : World} {A : Around} {E : Value → Shared → Prop} {s : Shared}
end

section
variable {X : Cx}
end
end L2

namespace Att
open PySem PySem.W PySem.Calls PyProof.Rows

/-! ### the script -/
theorem ints_of_wellAll {P : Params} {h : Heap} : ∀ (ns : List Int) (vs : List Value), WellAll P h vs (ns.map WData.int) → IntsAre vs ns := by
  intro ns
  induction ns with
  | nil =>
    intro vs w
    rw [List.map_nil] at w
    cases w
    exact .nil
  | cons n ns ih =>
    intro vs w
    rw [List.map_cons] at w
    cases w with
    | cons a b =>
      cases a
      exact .cons _ _ (ih _ b)

theorem script_of {l : OpenLaw} {n : Nat} (hn : l.most = some n) {P : Params} {h : Heap} {args : List WData} {vals : List Value}
    (hpre : l.row.toRowW.claim.pre args = true) (hwl : WellAll P h vals args) :
    ∃ a vs ns, vals = [Value.ref a] ∧ args = [WData.list (ns.map WData.int)] ∧ h.get? a = some { cls := .type "list", data := .seq vs.toArray } ∧ IntsAre vs ns ∧ ns.length ≤ n := by
  have hsh : WShape.hasAll [] args [.list .int] = true := (pre_splitW hpre).1
  have hc : l.pre.holds [] { args := args } = true := (pre_splitW hpre).2
  obtain ⟨d, r, rfl, h1, h2⟩ := hasAllW_cons hsh
  obtain rfl := hasAllW_nil h2
  obtain ⟨xs, rfl, h3⟩ := hasW_list h1
  obtain ⟨ns, rfl⟩ := items_int h3
  have hlen : ns.length ≤ n := by
    unfold OpenLaw.pre at hc
    have h4 : (WTm.not (.lt (.lit (.int (n : Int))) (.len (.arg 0)))).holds [] { args := [.list (ns.map .int)] } = true := by
      have h4 := (holds_andW hc).1
      rw [hn] at h4
      exact h4
    have h5 := condW_of h4 (w_not (w_lt w_lit (w_len_list (w_arg rfl))))
    rw [List.length_map] at h5
    refine Nat.le_of_not_lt fun q => ?_
    have q' : (n : Int) < ((ns.length : Nat) : Int) := by omega
    first
      | (rw [decide_eq_true q'] at h5; exact absurd h5 (by decide))
      | (simp at h5; omega)
  cases hwl with
  | cons w1 w2 =>
    cases w2
    cases w1 with
    | list ho hall => exact ⟨_, _, ns, rfl, rfl, ho, ints_of_wellAll ns _ hall, hlen⟩

theorem post_true (l : OpenLaw) (args : List WData) : l.row.toRowW.claim.post args (.bool true) args = true :=
  postW_of (r := l.row.toRowW) (X := (true == true))
    (show WShape.has [] (.bool true) .bool = true by first | rfl | decide | simp [WShape.has, WShape.arms, WShape.armsAll])
    (show (WTm.eq .res (.lit (.bool true))).value [] { args := args, res := some (.bool true), after := args } = some (.bool (true == true)) from w_eq_bool (w_res rfl) w_lit) rfl

/-! ### the attachment: holds_open's last premise (the goal 'hc' behind k_head) from a wpAny of the law's body -/

/-- the same from a codeAny of the CALL (for a layer whose function contracts speak of calls) -/
theorem attach_call {l : OpenLaw} {n : Nat} {q : Program} {loose : List Str} {XP : (Str → Option Value) → Heap → Prop} {YP : World → Heap → Prop} {d : DefRec}
    (hn : l.most = some n) (hdf : d.params.defaults = [])
    (call : ∀ (w : World) (s₀ s₁ : Shared) (mg mb : Str → Option Value) (fa : Addr) (o : Obj) (pm cd doc : Value) (a : Addr) (vs : List Value) (ns : List Int),
      Ground q loose [] XP w s₀ mg mb s₁.heap → YP w s₁.heap →
      s₁.heap.get? fa = some o → o.data = .func (docDef d.name d.params d.body d.scope pm cd doc) → s₁.heap.CodeRec cd d.name → mg d.name = some (.ref fa) →
      s₁.heap.get? a = some { cls := .type "list", data := .seq vs.toArray } → IntsAre vs ns → ns.length ≤ n → s₁.gens = #[] →
      codeAny (model l.prog w) callerA (.call (.ref fa) ⟨[.ref a], []⟩) (fun r s' => r = .ok (.ret (.bool true)) ∧ OldK s₁.heap s'.heap ∧ s'.os = s₁.os ∧ AllBare s'.gens) s₁) :
    WalkO q loose XP YP l.row.toRowW d [] (fun f vs => PySem.call f vs) := by
  intro w s₀ s₁ mg mb G Y fa o pm cd doc dV kV ho hd hcd hD hmg hg args vals as hpre hlay hrd hwl hlo
  obtain rfl : dV = .none := Dflts.none hD hdf
  obtain rfl : kV = .none := Dflts.noKw hD
  obtain ⟨a, vs, ns, rfl, rfl, hobj, hints, hlen⟩ := script_of hn hpre hwl
  refine enter_call (codeAny_mono (call w s₀ s₁ mg mb fa o pm cd doc a vs ns G Y ho (fd_plain hd) hcd hmg hobj hints hlen hg) fun r s' hq => ?_)
  obtain ⟨rfl, h2, h3, h4⟩ := hq
  exact ⟨.inl ⟨.bool true, .bool true, [], rfl, fun _ => rfl, .bool true, post_true l _, fun _ => ⟨List.Pairwise.nil, fun _ hm => (nomatch hm)⟩⟩, h2, h3, h4⟩


/-! ### rules over ANY heap (no ledger) from facts about the written part K: the library's own take a ledger (News) for what they write -/
section
variable {prog : Program} {w : World} {A : Around} {E : Value → Shared → Prop} {s : Shared} {K : Frag}





/-! the whole heap as the ledger: makes every rule that writes through a ledger a rule over any heap -/
def ledger (h : Heap) (L d : Addr) : List (Addr × Obj) := (List.range h.objs.size).filterMap fun a => if a = L ∨ a = d then none else (h.get? a).map fun o => (a, o)

end
end Att

namespace L2
open PySem PySem.Spec PyProof.Rows

theorem vals_ints : ∀ {vs : List Value} {ns : List Int}, IntsAre vs ns → Vals (ns.map V.int) vs
  | _, _, .nil => .nil
  | _, _, .cons n t h => .cons ⟨t, rfl⟩ (vals_ints h)

end L2


/-! SHORT WORDS over the layer: a def of the text, its body, what a loop and a test want. -/
namespace L2
open PySem PySem.Spec PyProof.Rows

/-! ### the text by places -/
def defArgs (s : Stmt) : Arguments := match s with
  | .FunctionDef _ a _ _ _ _ _ _ _ _ => a
  | _ => { posonlyargs := [], args := [], vararg := none, kwonlyargs := [], kw_defaults := [], kwarg := none, defaults := [] }
def defBody (s : Stmt) : List Stmt := match s with
  | .FunctionDef _ _ b _ _ _ _ _ _ _ => b
  | _ => []
def defScope (s : Stmt) : Scope := match s with
  | .FunctionDef _ _ _ _ _ _ sc _ _ _ => sc
  | _ => { kind := .function, names := [], isGenerator := false, isCoroutine := false }

/-! ### no exception leaves a def -/
abbrev CX0 : CXT := fun _ _ _ _ _ _ => False

/-! ### a def (or method) of the text as it stands behind the top -/
structure Fun (K : PySem.W.Frag) (x qual : Str) (st : Stmt) (f : Addr) (fd : FuncData) : Prop where
  ex : ∃ (oc : Value) (od : Option Addr) (kV doc pm : Value) (an : Option Addr) (cdv ct : Value) (osl : Array (Option Value)),
    fd = PySem.W.fnOf x qual (defArgs st) (defBody st) (defScope st) .none kV doc pm an cdv ct ∧ K.lookup f = some ⟨oc, od, .func fd, osl⟩ ∧ PySem.W.codeIn K cdv qual = true
  kp : PySem.W.keepIn K (.ref f) = true
section
variable {P : Program} {w : World} {K : PySem.W.Frag} {mg : Str → Option Value} {base : Heap}
/-- THE RULE for a def: its body as a term of rules, and the reading of that term -/
theorem Fun.ok {x qual : Str} {st : Stmt} {f : Addr} {fd : FuncData} {N ps : List Str} {k : Nat} {sp : Sp} (F : Fun K x qual st f fd) (S : FnScope N ps (defScope st)) (len : ∀ vs H Q E, sp vs H Q E → vs.length = ps.length)
    (hbody : ∀ (cdv : Value) (A : Around) (outer : List Env) (s : Shared) (H : Hp) (vs : List V) (Q : VK) (E : XK), Room k (A.deeper (envOfC qual (defScope st) s.heap.objs.size f cdv)) → sp vs H Q E →
      ∃ t, PSs (cxOf CX0 P w K mg base N qual (defScope st) f cdv A outer s H E).nox (defBody st) t ∧ t { nx := fun _ H' => Q .non H', rt := Q } (start N vs) H) : FnOk P w K mg base CX0 (k + 1) f fd ps sp := by
  obtain ⟨oc, od, kV, doc, pm, an, cdv, ct, osl, rfl, lk, hcd⟩ := F.ex
  refine fn_of lk hcd S len fun A outer s H vs Q E hr hsp => ?_
  obtain ⟨t, h, q⟩ := hbody cdv A outer s H vs Q E hr hsp
  exact ⟨t, h.nox, q⟩
/-- how its arguments bind (no defaults): h is «fun _ _ _ _ _ _ us hl => match us, hl with | [_, _], _ => rfl», one _ a parameter -/
theorem Fun.binds {x qual : Str} {st : Stmt} {f : Addr} {fd : FuncData} {ps : List Str} (F : Fun K x qual st f fd)
    (h : ∀ (kV doc pm : Value) (an : Option Addr) (cdv ct : Value) (us : List Value), us.length = ps.length → bindArgs (PySem.W.fnOf x qual (defArgs st) (defBody st) (defScope st) .none kV doc pm an cdv ct) ⟨us, []⟩ = pure (ps.zip us)) : Binds K fd ps [] := by
  obtain ⟨oc, od, kV, doc, pm, an, cdv, ct, osl, rfl, lk, hcd⟩ := F.ex
  exact .all (h kV doc pm an cdv ct)
theorem fun_mk {x qual : Str} {st : Stmt} {f : Addr} {oc : Value} {od an : Option Addr} {osl : Array (Option Value)} {kV doc pm cdv ct : Value} (l : K.lookup f = some ⟨oc, od, .func (PySem.W.fnOf x qual (defArgs st) (defBody st) (defScope st) .none kV doc pm an cdv ct), osl⟩)
    (c : PySem.W.codeIn K cdv qual = true) (k : PySem.W.keepIn K (.ref f) = true) : Fun K x qual st f (PySem.W.fnOf x qual (defArgs st) (defBody st) (defScope st) .none kV doc pm an cdv ct) := ⟨⟨oc, od, kV, doc, pm, an, cdv, ct, osl, rfl, l, c⟩, k⟩
end
theorem small1000 {n : Nat} (h : n ≤ 1000) : n < sizeLine := Nat.lt_of_le_of_lt h (by decide)

/-! ### expressions in short: the name that stands in the i-th slot -/
section
variable {X : Cx}
theorem pv (i : Nat) {x : Str} {pos : Pos} (hN : X.N[i]? = some x := by rfl) (hv : Vis X.env.scope x := by first | exact Or.inl rfl | exact Or.inr (Or.inl rfl) | exact Or.inr (Or.inr rfl)) (hd : (x == ("__debug__" : Str)) = false := by decide)
    (hcd : (x == ("__classdict__" : Str)) = false := by decide) : PE X (.Name x pos) (tVar i) := pe_var hN hv hd hcd
end

/-! ### tests -/

/-! ### heaps -/
/-- all that was tracked is as it was -/
def Same (H H' : Hp) : Prop := ∀ b o, H b = some o → H' b = some o
theorem Same.refl (H : Hp) : Same H H := fun _ _ h => h
theorem Same.trans {H H1 H2 : Hp} (a : Same H H1) (b : Same H1 H2) : Same H H2 := fun c o h => b c o (a c o h)
theorem Same.free {H H' : Hp} (e : Same H H') {l : Addr} (h : H' l = Option.none) : H l = Option.none := by
  cases q : H l with
  | none => rfl
  | some o =>
    rw [e l o q] at h
    cases h
theorem Same.seq {K : PySem.W.Frag} {H H' : Hp} {a : Addr} {xs : List V} (e : Same H H') (h : SqL K H a xs) : SqL K H' a xs := by
  rcases h with (h | ⟨o, h⟩) | h
  · exact .inl (.inl (e _ _ h))
  · exact .inl (.inr ⟨o, e _ _ h⟩)
  · exact .inr h

end L2
set_option maxHeartbeats 4000000
namespace CH
/-- the greatest common divisor, as an Int -/
def g (a b : Int) : Int := (Int.gcd a b : Int)
theorem g_pos {a b : Int} (h : b ≠ 0) : 0 < g a b := by
  have := Int.gcd_pos_of_ne_zero_right a h
  unfold g; omega
theorem g_turn {x y : Int} (hy : 0 < y) : g y (x % y) = g x y := by
  unfold g
  have e : x % y = x - y * (x / y) := Int.emod_def x y
  rw [e, Int.gcd_sub_mul_left_right, Int.gcd_comm]
theorem g_end {x : Int} (hx : 0 ≤ x) : g x 0 = x := by
  unfold g; rw [Int.gcd_zero]; omega
theorem g_abs (a b : Int) : g (if a < 0 then -a else a) (if b < 0 then -b else b) = g a b := by
  unfold g
  split <;> split <;> simp
theorem g_dvd1 (a b : Int) : g a b ∣ a := Int.gcd_dvd_left a b
theorem g_dvd2 (a b : Int) : g a b ∣ b := Int.gcd_dvd_right a b
/-- the divisor that ratio takes -/
def cm (a b : Int) : Int := if b < 0 then -(g a b) else g a b
theorem fdiv_exact {a c : Int} (h : c ∣ a) (hc : c ≠ 0) : Int.fdiv a c * c = a := by
  obtain ⟨k, rfl⟩ := h
  rw [Int.mul_comm c k, Int.mul_fdiv_cancel _ hc]
theorem rat_parts {a b : Int} (hb : b ≠ 0) : Int.fdiv a (cm a b) = (Rat.divInt a b).num ∧ Int.fdiv b (cm a b) = ((Rat.divInt a b).den : Int) := by
  have hg := g_pos (a := a) hb
  have d1 := g_dvd1 a b
  have d2 := g_dvd2 a b
  rw [Rat.num_divInt, Rat.den_divInt, if_neg hb]
  have eg : ((b.gcd a : Nat) : Int) = g a b := by unfold g; rw [Int.gcd_comm]
  rw [Int.natCast_ediv, eg]
  unfold cm
  split
  · rename_i h
    rw [Int.sign_eq_neg_one_of_neg h]
    have e1 : (-1 * a) / g a b = Int.fdiv a (-(g a b)) := by
      obtain ⟨k, hk⟩ := d1
      have : -1 * a = (-k) * g a b := by grind
      rw [this, Int.mul_ediv_cancel _ (by omega)]
      have : a = (-k) * (-(g a b)) := by grind
      have q := Int.mul_fdiv_cancel (-k) (show -(g a b) ≠ 0 by omega)
      rw [← this] at q
      exact q.symm
    have e2 : ((b.natAbs : Nat) : Int) / g a b = Int.fdiv b (-(g a b)) := by
      obtain ⟨k, hk⟩ := d2
      have hn : ((b.natAbs : Nat) : Int) = -b := by omega
      rw [hn]
      have : -b = (-k) * g a b := by grind
      rw [this, Int.mul_ediv_cancel _ (by omega)]
      have : b = (-k) * (-(g a b)) := by grind
      have q := Int.mul_fdiv_cancel (-k) (show -(g a b) ≠ 0 by omega)
      rw [← this] at q
      exact q.symm
    exact ⟨e1.symm, e2.symm⟩
  · rename_i h
    have hp : 0 < b := by omega
    rw [Int.sign_eq_one_of_pos hp, Int.one_mul]
    have hn : ((b.natAbs : Nat) : Int) = b := by omega
    rw [hn, Int.fdiv_eq_ediv_of_nonneg _ (by omega), Int.fdiv_eq_ediv_of_nonneg _ (by omega)]
    exact ⟨rfl, rfl⟩
theorem cm_ne {a b : Int} (hb : b ≠ 0) : cm a b ≠ 0 := by
  have := g_pos (a := a) hb
  unfold cm; split <;> omega
theorem den_pos (q : Rat) : 1 ≤ (q.den : Int) := by have := q.den_pos; omega
theorem num_eq (q : Rat) : (q.num : Rat) = q * q.den := by
  have h := Rat.num_divInt_den q
  rw [Rat.divInt_eq_div] at h
  have hd : ((q.den : Int) : Rat) ≠ 0 := by
    have := q.den_nz
    simp [this]
  have e : ((q.den : Int) : Rat) = (q.den : Rat) := rfl
  rw [e] at h hd
  grind
theorem den_ne (q : Rat) : (q.den : Rat) ≠ 0 := by have := q.den_nz; simp [this]
theorem minus_eq (p q : Rat) : Rat.divInt (p.num * q.den - q.num * p.den) ((p.den : Int) * q.den) = p - q := by
  rw [Rat.divInt_eq_div, Rat.intCast_sub, Rat.intCast_mul, Rat.intCast_mul, Rat.intCast_mul, num_eq p, num_eq q]
  have h1 := den_ne p
  have h2 := den_ne q
  have e1 : ((p.den : Int) : Rat) = (p.den : Rat) := rfl
  have e2 : ((q.den : Int) : Rat) = (q.den : Rat) := rfl
  rw [e1, e2]
  grind
end CH
namespace CH
/-! ### sizes of ratios -/
def Sz (k : Nat) (q : Rat) : Prop := q.num.natAbs < 2 ^ k ∧ q.den < 2 ^ k
theorem pow_le {k m : Nat} (h : k ≤ m) : 2 ^ k ≤ 2 ^ m := Nat.pow_le_pow_right (by decide) h
theorem Sz.mono {k m : Nat} {q : Rat} (h : Sz k q) (hk : k ≤ m) : Sz m q := ⟨Nat.lt_of_lt_of_le h.1 (pow_le hk), Nat.lt_of_lt_of_le h.2 (pow_le hk)⟩
theorem natAbs_le_mul {a c x : Int} (h : x * c = a) (hc : c ≠ 0) : x.natAbs ≤ a.natAbs := by
  rw [← h, Int.natAbs_mul]
  exact Nat.le_mul_of_pos_right _ (by omega)
theorem sz_divInt {a b : Int} {k : Nat} (hb : b ≠ 0) (h1 : a.natAbs < 2 ^ k) (h2 : b.natAbs < 2 ^ k) : Sz k (Rat.divInt a b) := by
  have p := rat_parts (a := a) hb
  have d1 : cm a b ∣ a := by
    unfold cm; split
    · exact Int.neg_dvd.mpr (g_dvd1 a b)
    · exact g_dvd1 a b
  have d2 : cm a b ∣ b := by
    unfold cm; split
    · exact Int.neg_dvd.mpr (g_dvd2 a b)
    · exact g_dvd2 a b
  have e1 := natAbs_le_mul (fdiv_exact d1 (cm_ne hb)) (cm_ne hb)
  have e2 := natAbs_le_mul (fdiv_exact d2 (cm_ne hb)) (cm_ne hb)
  rw [p.1] at e1
  rw [p.2] at e2
  have e3 : (((Rat.divInt a b).den : Int)).natAbs = (Rat.divInt a b).den := Int.natAbs_natCast _
  rw [e3] at e2
  exact ⟨by omega, by omega⟩
theorem mul_lt {a b : Int} {k m : Nat} (h1 : a.natAbs < 2 ^ k) (h2 : b.natAbs < 2 ^ m) : (a * b).natAbs < 2 ^ (k + m) := by
  rw [Int.natAbs_mul, Nat.pow_add]
  exact Nat.mul_lt_mul'' h1 h2
theorem sub_lt {a b : Int} {k : Nat} (h1 : a.natAbs < 2 ^ k) (h2 : b.natAbs < 2 ^ k) : (a - b).natAbs < 2 ^ (k + 1) := by
  rw [Nat.pow_succ]
  generalize 2 ^ k = p at *
  omega
theorem den_lt {k : Nat} {q : Rat} (h : Sz k q) : ((q.den : Int)).natAbs < 2 ^ k := by rw [Int.natAbs_natCast]; exact h.2
theorem dd_ne (p q : Rat) : (p.den : Int) * (q.den : Int) ≠ 0 := by
  have h1 := den_pos p
  have h2 := den_pos q
  exact Int.mul_ne_zero (by omega) (by omega)
theorem up_lt {k m : Nat} {x : Nat} (h : x < 2 ^ k) (e : k ≤ m) : x < 2 ^ m := Nat.lt_of_lt_of_le h (pow_le e)
theorem Sz.sub {k m : Nat} {p q : Rat} (hp : Sz k p) (hq : Sz m q) : Sz (k + m + 1) (p - q) := by
  rw [← minus_eq]
  have a1 := mul_lt hp.1 (den_lt hq)
  have a2 := mul_lt hq.1 (den_lt hp)
  have a3 := mul_lt (den_lt hp) (den_lt hq)
  rw [Nat.add_comm m k] at a2
  exact sz_divInt (dd_ne p q) (sub_lt a1 a2) (up_lt a3 (Nat.le_succ _))
theorem Sz.zero : Sz 1 0 := ⟨by decide, by decide⟩
theorem Sz.den_ne {k : Nat} {p q : Rat} (hq : q ≠ 0) : (p.den : Int) * q.num ≠ 0 := by
  have h1 := den_pos p
  have h2 : q.num ≠ 0 := fun z => hq (Rat.num_eq_zero.mp z)
  exact Int.mul_ne_zero (by omega) h2
end CH
namespace L3
open PySem PySem.Spec PyProof.Rows L2
abbrev St := L2.St

def isStar : Expr → Bool
  | .Starred .. => true
  | _ => false
theorem starE {e : Expr} {es : List Expr} {env : Env} (h : isStar e = false) : starEach (e :: es) env = (false, eval e env) :: starEach es env := by
  cases e <;> first | rfl | cases h
theorem plainE {pos : Pos} {env : Env} : ∀ {es : List Expr}, es.all (fun e => !isStar e) = true → (backTo pos (starEach es env)).any (·.1) = false
  | [], _ => rfl
  | e :: es, h => by
    rw [List.all_cons, Bool.and_eq_true] at h
    have h1 : isStar e = false := by
      cases q : isStar e with
      | false => rfl
      | true => rw [q] at h; exact absurd h.1 (by decide)
    rw [starE h1]
    show (false || (backTo pos (starEach es env)).any (·.1)) = false
    rw [plainE h.2]
    rfl
/-! ### data without a heap -/
inductive D where
  | non | bl (b : Bool) | int (i : Int) | str (x : Str) | ty (n : String) | tup (xs : List D) | lst (xs : List D) | ref (a : Addr)
/-- what a name holds: data; a list of data that is the frame's own; a list that is only read -/
inductive S where
  | d (x : D) | l (xs : List D) | r (xs : List D)
def S.isL : S → Bool
  | .d _ => false
  | _ => true
def S.share : S → S
  | .l xs => .r xs
  | s => s
def S.own : S → Bool
  | .l _ => true
  | _ => false

inductive Is (K : PySem.W.Frag) (H : Hp) : V → D → Prop where
  | non : Is K H .non .non
  | bl (b : Bool) : Is K H (.bl b) (.bl b)
  | int (i : Int) : Is K H (.int i) (.int i)
  | str (x : Str) : Is K H (.str x) (.str x)
  | ty (n : String) : Is K H (.ty n) (.ty n)
  | ref (a : Addr) : Is K H (.ref a) (.ref a)
  | tup {a : Addr} {vs : List V} {xs : List D} (h : SqT K H a vs) (hl : vs.length = xs.length) (r : ∀ (i : Nat) (v : V) (x : D), vs[i]? = some v → xs[i]? = some x → Is K H v x) : Is K H (.ref a) (.tup xs)
  | lst {a : Addr} {vs : List V} {xs : List D} (h : H a = some (.lst vs)) (hl : vs.length = xs.length) (r : ∀ (i : Nat) (v : V) (x : D), vs[i]? = some v → xs[i]? = some x → Is K H v x) : Is K H (.ref a) (.lst xs)
def Iss (K : PySem.W.Frag) (H : Hp) (vs : List V) (xs : List D) : Prop :=
  vs.length = xs.length ∧ ∀ (i : Nat) (v : V) (x : D), vs[i]? = some v → xs[i]? = some x → Is K H v x
/-- the heap, and the part of it that stays as it is (data lie there; the own lists don't) -/
structure HZ where
  h : Hp
  z : Hp
structure Ext (p q : HZ) : Prop where
  hh : Same p.h q.h
  zz : Same p.z q.z
  sub : Same q.z q.h
  new : ∀ a o, q.z a = some o → p.z a = some o ∨ p.h a = none
theorem Ext.refl {p : HZ} (h : Same p.z p.h) : Ext p p := ⟨Same.refl _, Same.refl _, h, fun _ _ e => .inl e⟩
theorem Ext.trans {p q r : HZ} (a : Ext p q) (b : Ext q r) : Ext p r := ⟨a.hh.trans b.hh, a.zz.trans b.zz, b.sub, fun c o e => by
  rcases b.new c o e with e | e
  · exact a.new c o e
  · exact .inr (a.hh.free e)⟩
/-- the heap grows, the part that stays is the same -/
theorem Ext.grow {H H' z : Hp} (h : Same z H) (e : Same H H') : Ext ⟨H, z⟩ ⟨H', z⟩ := ⟨e, Same.refl _, h.trans e, fun _ _ e => .inl e⟩
theorem same_new {H : Hp} {p : Addr} (h : H p = none) (o : HO) : Same H (upd H p o) := fun b u q => by rw [upd_ne (ne_of_none q h)]; exact q
/-- an object becomes data -/
theorem Ext.freeze {p q : HZ} {a : Addr} {o : HO} (e : Ext p q) (n : p.h a = none) (nz : q.z a = none) (h : q.h a = some o) : Ext p ⟨q.h, upd q.z a o⟩ := by
  refine ⟨e.hh, e.zz.trans (same_new nz o), fun b u hb => ?_, fun b u hb => ?_⟩
  · by_cases z : b = a
    · subst z
      have hb' : upd q.z b o b = some u := hb
      rw [upd_same] at hb'
      cases hb'
      exact h
    · have hb' : upd q.z a o b = some u := hb
      rw [upd_ne z] at hb'
      exact e.sub b u hb'
  · by_cases z : b = a
    · subst z; exact .inr n
    · have hb' : upd q.z a o b = some u := hb
      rw [upd_ne z] at hb'
      exact e.new b u hb'
/-- a new object, which may change -/
theorem Ext.own {H z : Hp} {a : Addr} (h : Same z H) (n : H a = none) (o : HO) : Ext ⟨H, z⟩ ⟨upd H a o, z⟩ := Ext.grow h (same_new n o)
/-- a new object, which stays -/
theorem Ext.lay {H z : Hp} {a : Addr} (h : Same z H) (n : H a = none) (o : HO) : Ext ⟨H, z⟩ ⟨upd H a o, upd z a o⟩ :=
  (Ext.own h n o).freeze n (h.free n) upd_same
def IsS (K : PySem.W.Frag) (p : HZ) (v : V) : S → Prop
  | .d x => Is K p.z v x
  | .l xs => ∃ a vs, v = .ref a ∧ p.h a = some (.lst vs) ∧ Iss K p.z vs xs
  | .r xs => ∃ a vs, v = .ref a ∧ SqL K p.h a vs ∧ Iss K p.z vs xs
section
variable {K : PySem.W.Frag} {H H' : Hp} {p q : HZ} {a : Addr} {v : V} {x : D} {vs : List V} {xs : List D}
theorem SqT.same (e : Same H H') (h : SqT K H a vs) : SqT K H' a vs := by
  rcases h with (h | ⟨o, h⟩) | h
  · exact .inl (.inl (e _ _ h))
  · exact .inl (.inr ⟨o, e _ _ h⟩)
  · exact .inr h
theorem Is.mono (e : Same H H') (h : Is K H v x) : Is K H' v x := by
  induction h with
  | non => exact .non
  | bl b => exact .bl b
  | int i => exact .int i
  | str y => exact .str y
  | ty n => exact .ty n
  | ref a => exact .ref a
  | tup h hl r ih => exact .tup (SqT.same e h) hl ih
  | lst h hl r ih => exact .lst (e _ _ h) hl ih
theorem Iss.mono (e : Same H H') (h : Iss K H vs xs) : Iss K H' vs xs := ⟨h.1, fun i v x h1 h2 => (h.2 i v x h1 h2).mono e⟩
theorem Iss.nil : Iss K H [] [] := ⟨rfl, fun i v x h => by simp at h⟩
theorem Iss.cons (h : Is K H v x) (t : Iss K H vs xs) : Iss K H (v :: vs) (x :: xs) := by
  refine ⟨by simp [t.1], fun i w y h1 h2 => ?_⟩
  cases i with
  | zero =>
    simp at h1 h2
    subst h1; subst h2
    exact h
  | succ i => exact t.2 i w y (by simpa using h1) (by simpa using h2)
theorem Iss.snoc (t : Iss K H vs xs) (h : Is K H v x) : Iss K H (vs ++ [v]) (xs ++ [x]) := by
  refine ⟨by simp [t.1], fun i w y h1 h2 => ?_⟩
  by_cases hi : i < vs.length
  · rw [List.getElem?_append_left hi] at h1
    rw [List.getElem?_append_left (by have := t.1; omega)] at h2
    exact t.2 i w y h1 h2
  · rw [List.getElem?_append_right (by omega)] at h1
    rw [List.getElem?_append_right (by have := t.1; omega)] at h2
    have e : i - vs.length = 0 := by
      have := (List.getElem?_eq_some_iff.mp h1).1
      simp at this
      omega
    have e2 : i - xs.length = 0 := by have := t.1; omega
    rw [e] at h1
    rw [e2] at h2
    simp at h1 h2
    subst h1; subst h2
    exact h
theorem IsS.mono {s : S} (e : Ext p q) (h : IsS K p v s) : IsS K q v s := by
  cases s with
  | d x => exact Is.mono e.zz h
  | l xs =>
    obtain ⟨a, vs, e1, h1, h2⟩ := h
    exact ⟨a, vs, e1, e.hh _ _ h1, h2.mono e.zz⟩
  | r xs =>
    obtain ⟨a, vs, e1, h1, h2⟩ := h
    exact ⟨a, vs, e1, e.hh.seq h1, h2.mono e.zz⟩
theorem IsS.share {s : S} (h : IsS K p v s) : IsS K p v s.share := by
  cases s with
  | d x => exact h
  | l xs =>
    obtain ⟨a, vs, e1, h1, h2⟩ := h
    exact ⟨a, vs, e1, SqL.of h1, h2⟩
  | r xs => exact h
theorem Is.tup_inv {xs : List D} (h : Is K H v (.tup xs)) : ∃ a vs, v = .ref a ∧ SqT K H a vs ∧ Iss K H vs xs := by
  cases h with
  | tup h hl r => exact ⟨_, _, rfl, h, hl, r⟩
theorem Is.lst_inv {xs : List D} (h : Is K H v (.lst xs)) : ∃ a vs, v = .ref a ∧ SqL K H a vs ∧ Iss K H vs xs := by
  cases h with
  | lst h hl r => exact ⟨_, _, rfl, SqL.of h, hl, r⟩
theorem Is.int_inv {i : Int} (h : Is K H v (.int i)) : v = .int i := by cases h; rfl
theorem Is.bl_inv {i : Bool} (h : Is K H v (.bl i)) : v = .bl i := by cases h; rfl
theorem Is.non_inv (h : Is K H v .non) : v = .non := by cases h; rfl
theorem Is.str_inv {i : Str} (h : Is K H v (.str i)) : v = .str i := by cases h; rfl
end

abbrev Tau := List (Option S)
/-- a new list, nobody's yet -/
def Fr3 (K : PySem.W.Frag) (p q : HZ) (v : V) (s : S) : Prop := ∀ xs a, s = .l xs → v = .ref a → p.h a = none ∧ K.lookup a = none ∧ q.z a = none
structure Rep (X : Cx) (b : HZ) (τ : Tau) (σ : St) (p : HZ) : Prop where
  len : σ.length = τ.length
  ext : Ext b p
  val : ∀ (i : Nat) (s : S), τ[i]? = some (some s) → ∃ v, σ[i]? = some (some v) ∧ IsS X.K p v s
  own : ∀ (i : Nat) (xs : List D) (a : Addr), τ[i]? = some (some (.l xs)) → σ[i]? = some (some (.ref a)) → b.h a = none ∧ X.K.lookup a = none ∧ p.z a = none
  sep : ∀ (i j : Nat) (xs : List D) (s : S) (a : Addr), i ≠ j → τ[i]? = some (some (.l xs)) → τ[j]? = some (some s) → s.isL = true → σ[i]? = some (some (.ref a)) → σ[j]? ≠ some (some (.ref a))
  top : Same X.H₀ b.h
section
variable {X : Cx} {b b' p q : HZ} {τ τ' : Tau} {σ : St} {v : V} {s : S}
theorem Rep.all (r : Rep X b τ σ p) : Same X.H₀ p.h := r.top.trans r.ext.hh
theorem Rep.own_list {i : Nat} {xs : List D} {a : Addr} (r : Rep X b τ σ p) (h1 : τ[i]? = some (some (.l xs))) (h2 : σ[i]? = some (some (.ref a))) : ∃ vs, p.h a = some (.lst vs) ∧ Iss X.K p.z vs xs := by
  obtain ⟨v, e, c, vs, e1, h3, h4⟩ := r.val i _ h1
  rw [h2] at e
  cases e
  cases e1
  exact ⟨vs, h3, h4⟩
theorem Rep.mono (r : Rep X b τ σ p) (e : Ext p q) : Rep X b τ σ q :=
  ⟨r.len, r.ext.trans e, fun i s h => let ⟨v, h1, h2⟩ := r.val i s h; ⟨v, h1, h2.mono e⟩, (fun i xs a h1 h2 => by
    obtain ⟨o1, o2, o3⟩ := r.own i xs a h1 h2
    obtain ⟨vs, hv, _⟩ := r.own_list h1 h2
    refine ⟨o1, o2, ?_⟩
    cases z : q.z a with
    | none => rfl
    | some o =>
      rcases e.new a o z with x | x
      · rw [o3] at x; cases x
      · rw [hv] at x; cases x), r.sep, r.top⟩
theorem fr_up {K : PySem.W.Frag} (e : Ext b p) (f : Fr3 K p q v s) : Fr3 K b q v s := fun xs a h1 h2 => ⟨e.hh.free (f xs a h1 h2).1, (f xs a h1 h2).2⟩
theorem set_get {α : Type} {l : List (Option α)} {i j : Nat} {x y : α} (h : (l.set i (some x))[j]? = some (some y)) : (j = i ∧ y = x) ∨ (j ≠ i ∧ l[j]? = some (some y)) := by
  rw [List.getElem?_set] at h
  by_cases hij : i = j
  · rw [if_pos hij] at h
    split at h
    · cases h
      exact .inl ⟨hij.symm, rfl⟩
    · cases h
  · rw [if_neg hij] at h
    exact .inr ⟨fun z => hij z.symm, h⟩
theorem Rep.set {i : Nat} (r : Rep X b τ σ p) (e : Ext p q) (h : IsS X.K q v s) (f : Fr3 X.K p q v s) (hr : s.isL = s.own) : Rep X b (τ.set i (some s)) (σ.set i (some v)) q := by
  have r' := r.mono e
  refine ⟨by simp [r.len], r'.ext, fun j s' hj => ?_, fun j xs a hj ha => ?_, fun j k xs s' a hjk hj hk hs ha => ?_, r.top⟩
  · rcases set_get hj with ⟨rfl, rfl⟩ | ⟨hn, hj⟩
    · have hl : j < σ.length := by
        rw [r.len]
        have := (List.getElem?_eq_some_iff.mp hj).1
        simpa using this
      exact ⟨v, by rw [List.getElem?_set_self hl], h⟩
    · obtain ⟨w, h1, h2⟩ := r'.val j s' hj
      exact ⟨w, by rw [List.getElem?_set_ne (fun z => hn z.symm)]; exact h1, h2⟩
  · rcases set_get hj with ⟨rfl, e1⟩ | ⟨hn, hj⟩
    · rcases set_get ha with ⟨_, e2⟩ | ⟨hn, _⟩
      · exact (fr_up r.ext f) xs a e1.symm e2.symm
      · exact absurd rfl hn
    · rcases set_get ha with ⟨e2, _⟩ | ⟨_, ha⟩
      · exact absurd e2 hn
      · exact r'.own j xs a hj ha
  · -- two lists stand apart
    have fresh : ∀ (m : Nat) (t : S), τ[m]? = some (some t) → t.isL = true → s.own = true → v = .ref a → σ[m]? ≠ some (some (.ref a)) := by
      intro m t hm ht ho hv hσ
      obtain ⟨w, h1, h2⟩ := r.val m t hm
      rw [hσ] at h1
      cases h1
      cases s with
      | d _ => cases ho
      | r _ => cases ho
      | l ys =>
        obtain ⟨f1, f2, _⟩ := f ys a rfl hv
        cases t with
        | d _ => cases ht
        | l zs =>
          obtain ⟨c, vs, e1, h3, _⟩ := h2
          cases e1
          rw [f1] at h3
          cases h3
        | r zs =>
          obtain ⟨c, vs, e1, h3, _⟩ := h2
          cases e1
          rcases h3 with (h3 | ⟨o, h3⟩) | ⟨o, its, n, h3, _⟩
          · rw [f1] at h3; cases h3
          · rw [f1] at h3; cases h3
          · rw [f2] at h3; cases h3
    intro hσk
    rcases set_get hj with ⟨rfl, e1⟩ | ⟨hn, hj'⟩
    · rcases set_get ha with ⟨_, e2⟩ | ⟨hn, _⟩
      · rcases set_get hk with ⟨e3, _⟩ | ⟨_, hk⟩
        · exact hjk e3.symm
        · rcases set_get hσk with ⟨e4, _⟩ | ⟨_, hσk⟩
          · exact hjk e4.symm
          · exact fresh k s' hk hs (by rw [← e1]; rfl) e2.symm hσk
      · exact absurd rfl hn
    · rcases set_get ha with ⟨e2, _⟩ | ⟨_, ha'⟩
      · exact absurd e2 hn
      · rcases set_get hk with ⟨e3, e4⟩ | ⟨hkn, hk'⟩
        · rcases set_get hσk with ⟨_, e5⟩ | ⟨hx, _⟩
          · subst e4
            exact fresh j (.l xs) hj' rfl (by rw [← hr]; exact hs) e5.symm ha'
          · exact absurd e3 hx
        · rcases set_get hσk with ⟨e5, _⟩ | ⟨_, hσk'⟩
          · exact absurd e5 hkn
          · exact r.sep j k xs s' a hjk hj' hk' hs ha' hσk'
/-- a name's list is only read from here on -/
theorem Rep.freeze {i : Nat} {xs : List D} (r : Rep X b τ σ p) (h : τ[i]? = some (some s)) (e : s.share = .r xs) : Rep X b (τ.set i (some (.r xs))) σ p := by
  have hs : s.isL = true := by
    cases s with
    | d _ => cases e
    | l _ => rfl
    | r _ => rfl
  refine ⟨by simp [r.len], r.ext, fun j s' hj => ?_, fun j ys a hj ha => ?_, fun j k ys s' a hjk hj hk hs' ha => ?_, r.top⟩
  · rcases set_get hj with ⟨rfl, rfl⟩ | ⟨hn, hj⟩
    · obtain ⟨v, h1, h2⟩ := r.val j s h
      exact ⟨v, h1, by rw [← e]; exact h2.share⟩
    · exact r.val j s' hj
  · rcases set_get hj with ⟨rfl, e1⟩ | ⟨hn, hj⟩
    · cases e1
    · exact r.own j ys a hj ha
  · rcases set_get hj with ⟨rfl, e1⟩ | ⟨hn, hj'⟩
    · cases e1
    · rcases set_get hk with ⟨rfl, e4⟩ | ⟨hkn, hk'⟩
      · exact r.sep j k ys s a hjk hj' h hs ha
      · exact r.sep j k ys s' a hjk hj' hk' hs' ha
/-- a name's own list becomes data -/
theorem Rep.data {i : Nat} {xs : List D} {h z : Hp} (r : Rep X b τ σ ⟨h, z⟩) (hi : τ[i]? = some (some (.l xs))) : ∃ z', Rep X b (τ.set i (some (.d (.lst xs)))) σ ⟨h, z'⟩ := by
  obtain ⟨v, h1, a, vs, rfl, h2, h3⟩ := r.val i _ hi
  obtain ⟨o1, o2, o3⟩ := r.own i xs a hi h1
  have zz : Same z (upd z a (.lst vs)) := same_new o3 _
  refine ⟨upd z a (.lst vs), by simp [r.len], r.ext.freeze o1 o3 h2, fun j s' hj => ?_, fun j ys c hj hc => ?_, fun j k ys s' c hjk hj hk hs' hc => ?_, r.top⟩
  · rcases set_get hj with ⟨rfl, rfl⟩ | ⟨hn, hj⟩
    · have h3' := h3.mono zz
      exact ⟨.ref a, h1, Is.lst upd_same h3'.1 h3'.2⟩
    · obtain ⟨w, w1, w2⟩ := r.val j s' hj
      refine ⟨w, w1, ?_⟩
      cases s' with
      | d x => exact Is.mono zz w2
      | l zs => obtain ⟨c, us, e1, q1, q2⟩ := w2; exact ⟨c, us, e1, q1, q2.mono zz⟩
      | r zs => obtain ⟨c, us, e1, q1, q2⟩ := w2; exact ⟨c, us, e1, q1, q2.mono zz⟩
  · rcases set_get hj with ⟨rfl, e1⟩ | ⟨hn, hj'⟩
    · cases e1
    · obtain ⟨q1, q2, q3⟩ := r.own j ys c hj' hc
      refine ⟨q1, q2, ?_⟩
      show upd z a (.lst vs) c = none
      have hca : c ≠ a := by
        rintro rfl
        exact r.sep j i ys (.l xs) c hn hj' hi rfl hc h1
      rw [upd_ne hca]
      exact q3
  · rcases set_get hj with ⟨rfl, e1⟩ | ⟨hn, hj'⟩
    · cases e1
    · rcases set_get hk with ⟨rfl, e4⟩ | ⟨hkn, hk'⟩
      · subst e4; cases hs'
      · exact r.sep j k ys s' c hjk hj' hk' hs' hc

/-! ### the loop's own base: all but the own lists -/
open Classical in
noncomputable def cutB (τ : Tau) (σ : St) (H : Hp) : Hp := fun b => if ∃ (i : Nat) (xs : List D), τ[i]? = some (some (S.l xs)) ∧ σ[i]? = some (some (V.ref b)) then none else H b
theorem cutB_le {H : Hp} : Same (cutB τ σ H) H := fun b o h => by
  unfold cutB at h
  split at h
  · cases h
  · exact h
theorem cutB_not {H : Hp} {c : Addr} (h : ∀ (i : Nat) (xs : List D), τ[i]? = some (some (S.l xs)) → σ[i]? ≠ some (some (V.ref c))) : cutB τ σ H c = H c := by
  unfold cutB
  rw [if_neg]
  rintro ⟨i, xs, h1, h2⟩
  exact h i xs h1 h2
theorem Rep.baseB (r : Rep X b τ σ p) : Same b.h (cutB τ σ p.h) := fun c o h => by
  rw [cutB_not]
  · exact r.ext.hh c o h
  · intro i xs h1 h2
    have := (r.own i xs c h1 h2).1
    rw [h] at this
    cases this
theorem Rep.inB (r : Rep X b τ σ p) : Rep X ⟨cutB τ σ p.h, p.z⟩ τ σ p :=
  ⟨r.len, ⟨cutB_le, Same.refl _, r.ext.sub, fun _ _ e => .inl e⟩, r.val, fun i xs a h1 h2 => ⟨by show cutB τ σ p.h a = none; unfold cutB; rw [if_pos ⟨i, xs, h1, h2⟩], (r.own i xs a h1 h2).2⟩, r.sep, r.top.trans r.baseB⟩
structure LeB (X : Cx) (b b' : HZ) : Prop where
  hh : Same b.h b'.h
  zz : Same b.z b'.z
  new : ∀ a o, b'.z a = some o → b.z a = some o ∨ b.h a = none
  top : Same X.H₀ b.h
theorem LeB.ext (e : LeB X b b') (f : Ext b' p) : Ext b p := ⟨e.hh.trans f.hh, e.zz.trans f.zz, f.sub, fun a o h => by
  rcases f.new a o h with x | x
  · exact e.new a o x
  · exact .inr (e.hh.free x)⟩
theorem Rep.outB (e : LeB X b b') (r : Rep X b' τ σ p) : Rep X b τ σ p :=
  ⟨r.len, e.ext r.ext, r.val, fun i xs a h1 h2 => ⟨e.hh.free (r.own i xs a h1 h2).1, (r.own i xs a h1 h2).2⟩, r.sep, e.top⟩
theorem Rep.leB (r : Rep X b τ σ p) : LeB X b ⟨cutB τ σ p.h, p.z⟩ := ⟨r.baseB, r.ext.zz, r.ext.new, r.top⟩
end

/-! ### readings over data -/
abbrev TE3 := Tau → (S → Prop) → Prop
abbrev TT3 := Tau → (Bool → Prop) → Prop
abbrev TA3 := Tau → (List S → Prop) → Prop
structure Ends3 where
  nx : Tau → Prop
  rt : S → Prop
  bk : Tau → Prop := fun _ => False
  ct : Tau → Prop := fun _ => False
abbrev TS3 := Ends3 → Tau → Prop
def Args (K : PySem.W.Frag) (p : HZ) (vs : List V) (ss : List S) : Prop :=
  vs.length = ss.length ∧ ∀ (i : Nat) (v : V) (s : S), vs[i]? = some v → ss[i]? = some s → IsS K p v s ∧ s.own = false
def FE (X : Cx) (t : TE3) : TE := fun σ H Q => ∃ B z τ R, Rep X B τ σ ⟨H, z⟩ ∧ t τ R ∧ ∀ s v q, Ext ⟨H, z⟩ q → IsS X.K q v s → Fr3 X.K ⟨H, z⟩ q v s → R s → Q v q.h
def FT (X : Cx) (t : TT3) : TT := fun σ H Q => ∃ B z τ R, Rep X B τ σ ⟨H, z⟩ ∧ t τ R ∧ ∀ c q, Ext ⟨H, z⟩ q → R c → Q c q.h
def FA (X : Cx) (t : TA3) : TA := fun σ H Q => ∃ B z τ R, Rep X B τ σ ⟨H, z⟩ ∧ t τ R ∧ ∀ ss vs q, Ext ⟨H, z⟩ q → Args X.K q vs ss → R ss → Q vs q.h
structure Cont (X : Cx) (B : HZ) (D3 : Ends3) (D2 : Ends) : Prop where
  nx : ∀ τ σ p, Rep X B τ σ p → D3.nx τ → D2.nx σ p.h
  bk : ∀ τ σ p, Rep X B τ σ p → D3.bk τ → D2.bk σ p.h
  ct : ∀ τ σ p, Rep X B τ σ p → D3.ct τ → D2.ct σ p.h
  rt : ∀ s v q, Ext B q → IsS X.K q v s → Fr3 X.K B q v s → D3.rt s → D2.rt v q.h
def FS (X : Cx) (t : TS3) : TS := fun D2 σ H => ∃ B z τ D3, Rep X B τ σ ⟨H, z⟩ ∧ t D3 τ ∧ Cont X B D3 D2
structure PE3 (X : Cx) (e : Expr) (t : TE3) : Prop where
  out : PE X e (FE X t)
structure PT3 (X : Cx) (e : Expr) (t : TT3) : Prop where
  out : PT X e (FT X t)
structure PW3 (X : Cx) (e : Expr) (t : TT3) : Prop where
  out : PW X e (FT X t)
structure PA3 (X : Cx) (es : List Expr) (t : TA3) : Prop where
  out : PA X es (FA X t)
structure PS3 (X : Cx) (st : Stmt) (t : TS3) : Prop where
  out : PS X st (FS X t)
structure PSs3 (X : Cx) (st : List Stmt) (t : TS3) : Prop where
  out : PSs X st (FS X t)
theorem PW3.pt {X : Cx} {e : Expr} {t : TT3} (h : PW3 X e t) : PT3 X e t := ⟨h.out _⟩

section
variable {X : Cx} {e a b : Expr} {ta tb : TE3} {pos : Pos}
theorem pe_imp {t t' : TE} (h : PE X e t) (f : ∀ σ H Q, t' σ H Q → t σ H Q) : PE X e t' := fun pins s σ H Q I q => h pins s σ H Q I (f σ H Q q)
theorem pt_imp {t t' : TT} (h : PT X e t) (f : ∀ σ H Q, t' σ H Q → t σ H Q) : PT X e t' := fun pins s σ H Q I q => h pins s σ H Q I (f σ H Q q)
theorem pw_imp {t t' : TT} (h : PW X e t) (f : ∀ σ H Q, t' σ H Q → t σ H Q) : PW X e t' := fun wh pins s σ H Q I q => h wh pins s σ H Q I (f σ H Q q)
theorem pa_imp {es : List Expr} {t t' : TA} (h : PA X es t) (f : ∀ σ H Q, t' σ H Q → t σ H Q) : PA X es t' := fun pos pins s σ H Q I q => h pos pins s σ H Q I (f σ H Q q)
theorem ps_imp {st : Stmt} {t t' : TS} (h : PS X st t) (f : ∀ D σ H, t' D σ H → t D σ H) : PS X st t' := fun pins s σ H D I q => h pins s σ H D I (f D σ H q)
theorem pss_imp {st : List Stmt} {t t' : TS} (h : PSs X st t) (f : ∀ D σ H, t' D σ H → t D σ H) : PSs X st t' := fun pins s σ H D I q => h pins s σ H D I (f D σ H q)

/-! #### names, constants -/
def vVar (i : Nat) : TE3 := fun τ R => match τ[i]? with
  | some (some s) => R s.share
  | _ => False
def vC (d : D) : TE3 := fun _ R => R (.d d)
theorem fr_share {K : PySem.W.Frag} {p q : HZ} {v : V} {s : S} : Fr3 K p q v s.share := by
  intro xs a h
  cases s <;> cases h
theorem fr_d {K : PySem.W.Frag} {p q : HZ} {v : V} {d : D} : Fr3 K p q v (.d d) := by
  intro xs a h
  cases h
theorem v_var {i : Nat} {x : Str} (h : PE X (.Name x pos) (tVar i)) : PE3 X (.Name x pos) (vVar i) := by
  refine ⟨?_⟩
  refine pe_imp h fun σ H Q hh9 => ?_
  obtain ⟨B, z, τ, R, r, ht, q⟩ := hh9
  unfold vVar at ht
  split at ht
  · rename_i s hs
    obtain ⟨v, h1, h2⟩ := r.val i s hs
    exact ⟨v, h1, q _ v ⟨H, z⟩ (Ext.refl r.ext.sub) h2.share fr_share ht⟩
  · exact ht.elim
theorem v_const {v : V} {d : D} (h : PE X e (tC v)) (hd : ∀ K H, Is K H v d) : PE3 X e (vC d) := ⟨pe_imp h fun σ H Q hh => by obtain ⟨B, z, τ, R, r, ht, q⟩ := hh; exact q (.d d) v ⟨H, z⟩ (Ext.refl r.ext.sub) (hd _ _) fr_d ht⟩
theorem v_int {i j} : PE3 X (.Constant (.int i) j pos) (vC (.int i)) := v_const pe_int fun _ _ => .int i
theorem v_bl {i j} : PE3 X (.Constant (.bool i) j pos) (vC (.bl i)) := v_const pe_bl fun _ _ => .bl i
theorem v_non {j} : PE3 X (.Constant .none j pos) (vC .non) := v_const pe_non fun _ _ => .non
theorem v_str {x j} : PE3 X (.Constant (.str x) j pos) (vC (.str x)) := v_const pe_str fun _ _ => .str x

/-! #### operators -/
abbrev R3 := D → D → (D → Prop) → Prop
def lft (K : PySem.W.Frag) (r3 : R3) : R2 := fun x y H Q => ∃ z dx dy R, Same z H ∧ Is K z x dx ∧ Is K z y dy ∧ r3 dx dy R ∧ ∀ d v q, Ext ⟨H, z⟩ q → Is K q.z v d → R d → Q v q.h
def OpR3 (X : Cx) (f : Value → Value → Sem Value) (r3 : R3) : Prop := OpR X f (lft X.K r3)
theorem opr_imp {f : Value → Value → Sem Value} {r r' : R2} (h : OpR X f r) (i : ∀ x y H Q, r' x y H Q → r x y H Q) : OpR X f r' := fun pins s σ H x y v u Q I rx ry q => h pins s σ H x y v u Q I rx ry (i x y H Q q)
def oI (C : Int → Int → Prop) (g : Int → Int → Int) : R3 := fun dx dy R => match dx, dy with
  | .int i, .int j => C i j ∧ R (.int (g i j))
  | _, _ => False
def oI0 (g : Int → Int → Int) : R3 := fun dx dy R => match dx, dy with
  | .int i, .int j => R (.int (g i j))
  | _, _ => False
def oB0 (g : Int → Int → Bool) : R3 := fun dx dy R => match dx, dy with
  | .int i, .int j => R (.bl (g i j))
  | _, _ => False
theorem o_int {f : Value → Value → Sem Value} {C : Int → Int → Prop} {g : Int → Int → Int} (h : OpR X f (rI C fun i j => .int (g i j))) : OpR3 X f (oI C g) :=
  opr_imp h fun x y H Q hh => by
    obtain ⟨z, dx, dy, R, hz, hx, hy, h3, q⟩ := hh
    unfold oI at h3
    split at h3
    · rename_i i j
      exact ⟨i, j, hx.int_inv, hy.int_inv, h3.1, q _ _ ⟨H, z⟩ (Ext.refl hz) (.int _) h3.2⟩
    · exact h3.elim
theorem o_int0 {f : Value → Value → Sem Value} {g : Int → Int → Int} (h : OpR X f (rI0 fun i j => .int (g i j))) : OpR3 X f (oI0 g) :=
  opr_imp h fun x y H Q hh => by
    obtain ⟨z, dx, dy, R, hz, hx, hy, h3, q⟩ := hh
    unfold oI0 at h3
    split at h3
    · rename_i i j
      exact ⟨i, j, hx.int_inv, hy.int_inv, q _ _ ⟨H, z⟩ (Ext.refl hz) (.int _) h3⟩
    · exact h3.elim
theorem o_bl0 {f : Value → Value → Sem Value} {g : Int → Int → Bool} (h : OpR X f (rI0 fun i j => .bl (g i j))) : OpR3 X f (oB0 g) :=
  opr_imp h fun x y H Q hh => by
    obtain ⟨z, dx, dy, R, hz, hx, hy, h3, q⟩ := hh
    unfold oB0 at h3
    split at h3
    · rename_i i j
      exact ⟨i, j, hx.int_inv, hy.int_inv, q _ _ ⟨H, z⟩ (Ext.refl hz) (.bl _) h3⟩
    · exact h3.elim
theorem op_mulB : OpR X (binaryOp .Mult) (rI IntMulOk fun i j => .int (i * j)) := opI fun _ _ _ _ _ _ _ hc q => mul_int q hc
def CDv (i j : Int) : Prop := j ≠ 0 ∧ Builtin.divisionGoesByPylong i j = false
theorem op_fdivB : OpR X (binaryOp .FloorDiv) (rI CDv fun i j => .int (i.fdiv j)) := opI fun _ _ _ _ _ _ _ hc q => floordiv_int hc.1 q (.inl hc.2)
def oAdd : R3 := fun dx dy R => match dx, dy with
  | .int i, .int j => R (.int (i + j))
  | _, _ => False
theorem o_add : OpR3 X (binaryOp .Add) oAdd := o_int0 op_add
def oMul : R3 := fun dx dy R => match dx, dy with
  | .int i, .int j => IntMulOk i j ∧ R (.int (i * j))
  | _, _ => False
theorem o_mul : OpR3 X (binaryOp .Mult) oMul := o_int op_mulB
def oFdiv : R3 := fun dx dy R => match dx, dy with
  | .int i, .int j => CDv i j ∧ R (.int (i.fdiv j))
  | _, _ => False
theorem o_fdiv : OpR3 X (binaryOp .FloorDiv) oFdiv := o_int op_fdivB
def oMod : R3 := fun dx dy R => match dx, dy with
  | .int i, .int j => j ≠ 0 ∧ R (.int (i.fmod j))
  | _, _ => False
theorem o_mod : OpR3 X (binaryOp .Mod) oMod := o_int op_modN
def oPow : R3 := fun dx dy R => match dx, dy with
  | .int i, .int j => CPow i j ∧ R (.int (i ^ j.toNat))
  | _, _ => False
theorem o_pow : OpR3 X (binaryOp .Pow) oPow := o_int op_pow
def oLt : R3 := fun dx dy R => match dx, dy with
  | .int i, .int j => R (.bl (decide (i < j)))
  | _, _ => False
theorem o_lt : OpR3 X (compareOp .Lt) oLt := o_bl0 op_lt
def oGt : R3 := fun dx dy R => match dx, dy with
  | .int i, .int j => R (.bl (decide (j < i)))
  | _, _ => False
theorem o_gt : OpR3 X (compareOp .Gt) oGt := o_bl0 op_gt
/-- == of ints, bools, texts -/
def oEq : R3 := fun dx dy R => match dx, dy with
  | .int i, .int j => R (.bl (decide (i = j)))
  | .bl i, .bl j => R (.bl (decide (i = j)))
  | .str i, .str j => R (.bl (decide (i = j)))
  | _, _ => False
def oNe : R3 := fun dx dy R => match dx, dy with
  | .int i, .int j => R (.bl (!decide (i = j)))
  | .bl i, .bl j => R (.bl (!decide (i = j)))
  | .str i, .str j => R (.bl (!decide (i = j)))
  | _, _ => False
theorem dec_v {α β : Type} {i j : α} {f : α → β} [DecidableEq α] [DecidableEq β] (h : ∀ a b, f a = f b → a = b) : decide (f i = f j) = decide (i = j) := by
  by_cases e : i = j
  · rw [decide_eq_true e, decide_eq_true (by rw [e])]
  · rw [decide_eq_false e, decide_eq_false fun z => e (h _ _ z)]
theorem o_eq : OpR3 X (compareOp .Eq) oEq :=
  opr_imp op_eq fun x y H Q hh => by
    obtain ⟨z, dx, dy, R, hz, hx, hy, h3, q⟩ := hh
    unfold oEq at h3
    split at h3
    · rename_i i j
      cases hx.int_inv
      cases hy.int_inv
      exact ⟨rfl, by rw [dec_v (f := V.int) (fun _ _ z => by cases z; rfl)]; exact q _ _ ⟨H, z⟩ (Ext.refl hz) (.bl _) h3⟩
    · rename_i i j
      cases hx.bl_inv
      cases hy.bl_inv
      exact ⟨rfl, by rw [dec_v (f := V.bl) (fun _ _ z => by cases z; rfl)]; exact q _ _ ⟨H, z⟩ (Ext.refl hz) (.bl _) h3⟩
    · rename_i i j
      cases hx.str_inv
      cases hy.str_inv
      exact ⟨rfl, by rw [dec_v (f := V.str) (fun _ _ z => by cases z; rfl)]; exact q _ _ ⟨H, z⟩ (Ext.refl hz) (.bl _) h3⟩
    · exact h3.elim
theorem o_ne : OpR3 X (compareOp .NotEq) oNe :=
  opr_imp op_ne fun x y H Q hh => by
    obtain ⟨z, dx, dy, R, hz, hx, hy, h3, q⟩ := hh
    unfold oNe at h3
    split at h3
    · rename_i i j
      cases hx.int_inv
      cases hy.int_inv
      exact ⟨rfl, by rw [dec_v (f := V.int) (fun _ _ z => by cases z; rfl)]; exact q _ _ ⟨H, z⟩ (Ext.refl hz) (.bl _) h3⟩
    · rename_i i j
      cases hx.bl_inv
      cases hy.bl_inv
      exact ⟨rfl, by rw [dec_v (f := V.bl) (fun _ _ z => by cases z; rfl)]; exact q _ _ ⟨H, z⟩ (Ext.refl hz) (.bl _) h3⟩
    · rename_i i j
      cases hx.str_inv
      cases hy.str_inv
      exact ⟨rfl, by rw [dec_v (f := V.str) (fun _ _ z => by cases z; rfl)]; exact q _ _ ⟨H, z⟩ (Ext.refl hz) (.bl _) h3⟩
    · exact h3.elim
def dd (x : S) (k : D → Prop) : Prop := match x with
  | .d d => k d
  | _ => False
def vOp (r3 : R3) (ta tb : TE3) : TE3 := fun τ R => ta τ fun x => tb τ fun y => dd x fun dx => dd y fun dy => r3 dx dy fun d => R (.d d)
theorem dd_inv {x : S} {k : D → Prop} (h : dd x k) : ∃ d, x = .d d ∧ k d := by
  cases x with
  | d d => exact ⟨d, rfl, h⟩
  | l _ => exact h.elim
  | r _ => exact h.elim
theorem two {r3 : R3} {σ : St} {H : Hp} {Q : VK} (h : FE X (vOp r3 ta tb) σ H Q) : tOp (lft X.K r3) (FE X ta) (FE X tb) σ H Q := by
  obtain ⟨B, z, τ, R, r, ht, q⟩ := h
  refine ⟨B, _, τ, _, r, ht, fun x v H1 e1 i1 f1 h1 => ?_⟩
  refine ⟨B, _, τ, _, r.mono e1, h1, fun y u H2 e2 i2 f2 h2 => ?_⟩
  obtain ⟨dx, rfl, h4⟩ := dd_inv h2
  obtain ⟨dy, rfl, h5⟩ := dd_inv h4
  exact ⟨H2.z, dx, dy, _, e2.sub, Is.mono e2.zz i1, i2, h5, fun d w H3 e3 i3 h3 => q (.d d) w H3 (e1.trans (e2.trans e3)) i3 fr_d h3⟩
theorem v_op {op : Operator} {r3 : R3} (ho : OpR3 X (binaryOp op) r3) (ha : PE3 X a ta) (hb : PE3 X b tb) : PE3 X (.BinOp a op b pos) (vOp r3 ta tb) := ⟨pe_imp (pe_op ho ha.out hb.out) fun _ _ _ h => two h⟩
theorem v_cmp {op : CmpOp} {r3 : R3} (ho : OpR3 X (compareOp op) r3) (ha : PE3 X a ta) (hb : PE3 X b tb) (hm : behindInMarks op b = false) : PE3 X (.Compare a [op] [b] pos) (vOp r3 ta tb) := ⟨pe_imp (pe_cmpR ho ha.out hb.out hm) fun _ _ _ h => two h⟩
def bb (x : S) (k : Bool → Prop) : Prop := match x with
  | .d (.bl c) => k c
  | _ => False
theorem bb_inv {x : S} {k : Bool → Prop} (h : bb x k) : ∃ c, x = .d (.bl c) ∧ k c := by
  unfold bb at h
  split at h
  · exact ⟨_, rfl, h⟩
  · exact h.elim
def vTest (t : TE3) : TT3 := fun τ R => t τ fun x => bb x R
theorem w_cmp {op : CmpOp} {r3 : R3} (ho : OpR3 X (compareOp op) r3) (ha : PE3 X a ta) (hb : PE3 X b tb) (hm : behindInMarks op b = false) : PT3 X (.Compare a [op] [b] pos) (vTest (vOp r3 ta tb)) := ⟨pt_imp (pt_cmpR ho ha.out hb.out hm) fun σ H Q hh => by obtain ⟨B, z, τ, R, r, ht, q⟩ := hh; exact two ⟨B, _, τ, _, r, ht, fun s v H' e i f h => by
    obtain ⟨c, rfl, h⟩ := bb_inv h
    cases Is.bl_inv i
    exact ⟨c, rfl, q c H' e h⟩⟩⟩
theorem w_val {t : TE3} (h : PE3 X e t) (he : ∀ whole, isTrue e X.env whole = (do let v ← whole; standAt e.pos; holding [v] (truthy v)) := by intro _; rfl) : PT3 X e (vTest t) := ⟨pt_imp (pt_val h.out he) fun σ H Q hh => by obtain ⟨B, z, τ, R, r, ht, q⟩ := hh; exact ⟨B, _, τ, _, r, ht, fun s v H' e i f hz => by
    obtain ⟨c, rfl, hz⟩ := bb_inv hz
    cases Is.bl_inv i
    exact ⟨c, rfl, q c H' e hz⟩⟩⟩
def vNeg (ta : TE3) : TE3 := fun τ R => ta τ fun x => match x with
  | .d (.int i) => R (.d (.int (-i)))
  | _ => False
theorem v_neg (ha : PE3 X a ta) : PE3 X (.UnaryOp .USub a pos) (vNeg ta) := ⟨pe_imp (pe_un un_neg ha.out) fun σ H Q hh => by obtain ⟨B, z, τ, R, r, ht, q⟩ := hh; exact ⟨B, _, τ, _, r, ht, fun s v H' e i f h => by
    split at h
    · rename_i i'
      exact ⟨i', Is.int_inv i, q (.d _) _ H' e (Is.int _) fr_d h⟩
    · exact h.elim⟩⟩
/-! #### and, or, not -/
variable {tA tB' : TT3} {rest : List Expr}
def wAnd (t u : TT3) : TT3 := fun τ R => t τ fun c => if c = true then u τ R else R false
def wOr (t u : TT3) : TT3 := fun τ R => t τ fun c => if c = true then R true else u τ R
def wNot (t : TT3) : TT3 := fun τ R => t τ fun c => R (!c)
theorem w_and1 (ha : PT3 X a tA) : PW3 X (.BoolOp .And [a] pos) tA := ⟨pw_and1 ha.out⟩
theorem w_or1 (ha : PT3 X a tA) : PW3 X (.BoolOp .Or [a] pos) tA := ⟨pw_or1 ha.out⟩
theorem w_and (ha : PT3 X a tA) (hb : PW3 X (.BoolOp .And (b :: rest) pos) tB') : PW3 X (.BoolOp .And (a :: b :: rest) pos) (wAnd tA tB') := ⟨pw_imp (pw_and ha.out hb.out) fun σ H Q hh => by obtain ⟨B, z, τ, R, r, ht, q⟩ := hh; exact ⟨B, _, τ, _, r, ht, fun c H1 e h => by
    cases c with
    | true => rw [if_pos rfl] at h ⊢; exact ⟨B, _, τ, R, r.mono e, h, fun d H2 e2 h2 => q d H2 (e.trans e2) h2⟩
    | false => rw [if_neg Bool.false_ne_true] at h ⊢; exact q _ _ e h⟩⟩
theorem w_or (ha : PT3 X a tA) (hb : PW3 X (.BoolOp .Or (b :: rest) pos) tB') : PW3 X (.BoolOp .Or (a :: b :: rest) pos) (wOr tA tB') := ⟨pw_imp (pw_or ha.out hb.out) fun σ H Q hh => by obtain ⟨B, z, τ, R, r, ht, q⟩ := hh; exact ⟨B, _, τ, _, r, ht, fun c H1 e h => by
    cases c with
    | false => rw [if_neg Bool.false_ne_true] at h ⊢; exact ⟨B, _, τ, R, r.mono e, h, fun d H2 e2 h2 => q d H2 (e.trans e2) h2⟩
    | true => rw [if_pos rfl] at h ⊢; exact q _ _ e h⟩⟩
theorem w_not (ha : PT3 X a tA) : PT3 X (.UnaryOp .Not a pos) (wNot tA) := ⟨pt_imp (pt_not ha.out) fun σ H Q hh => by obtain ⟨B, z, τ, R, r, ht, q⟩ := hh; exact ⟨B, _, τ, _, r, ht, fun c H1 e h => q _ _ e h⟩⟩
def vAnd (ta tb : TE3) : TE3 := fun τ R => ta τ fun x => bb x fun c => if c = true then tb τ R else R (.d (.bl false))
def vNot (ta : TE3) : TE3 := fun τ R => ta τ fun x => bb x fun c => R (.d (.bl (!c)))
theorem v_one {op} {t : TE3} (h : PE3 X a t) : PE3 X (.BoolOp op [a] pos) t := ⟨pe_one h.out⟩
theorem v_and (ha : PE3 X a ta) (hb : PE3 X (.BoolOp .And (b :: rest) pos) tb) : PE3 X (.BoolOp .And (a :: b :: rest) pos) (vAnd ta tb) := ⟨pe_imp (pe_and ha.out hb.out) fun σ H Q hh => by obtain ⟨B, z, τ, R, r, ht, q⟩ := hh; exact ⟨B, _, τ, _, r, ht, fun s v H1 e i f h => by
    obtain ⟨c, rfl, h'⟩ := bb_inv h
    cases Is.bl_inv i
    refine ⟨c, rfl, ?_⟩
    cases c with
    | true => rw [if_pos rfl] at h' ⊢; exact ⟨B, _, τ, R, r.mono e, h', fun s2 v2 H2 e2 i2 f2 h2 => q _ _ _ (e.trans e2) i2 (fr_up e f2) h2⟩
    | false => rw [if_neg Bool.false_ne_true] at h' ⊢; exact q (.d _) _ _ e (Is.bl _) fr_d h'⟩⟩
theorem v_not (ha : PE3 X a ta) : PE3 X (.UnaryOp .Not a pos) (vNot ta) := ⟨pe_imp (pe_not ha.out) fun σ H Q hh => by obtain ⟨B, z, τ, R, r, ht, q⟩ := hh; exact ⟨B, _, τ, _, r, ht, fun s v H1 e i f h => by
    obtain ⟨c, rfl, h'⟩ := bb_inv h
    cases Is.bl_inv i
    exact ⟨c, rfl, q (.d _) _ _ e (Is.bl _) fr_d h'⟩⟩⟩
/-! #### items -/
def items : S → Option (List D)
  | .d (.tup xs) => some xs
  | .d (.lst xs) => some xs
  | .l xs => some xs
  | .r xs => some xs
  | _ => none
def vIx (ta tb : TE3) : TE3 := fun τ R => ta τ fun x => tb τ fun y => match items x, y with
  | some xs, .d (.int i) => match atI xs i with
    | some d => R (.d d)
    | none => False
  | _, _ => False
theorem atI_rel {K : PySem.W.Frag} {H : Hp} {vs : List V} {xs : List D} {i : Int} {d : D} (h : Iss K H vs xs) (e : atI xs i = some d) : ∃ v, atI vs i = some v ∧ Is K H v d := by
  unfold atI at e ⊢
  rw [h.1]
  cases q : ixN xs.length i with
  | none => rw [q] at e; cases e
  | some j =>
    rw [q] at e
    have e' : xs[j]? = some d := e
    have hj := (List.getElem?_eq_some_iff.mp e').1
    have hl : j < vs.length := by rw [h.1]; exact hj
    have hv : vs[j]? = some vs[j] := List.getElem?_eq_getElem hl
    exact ⟨vs[j], hv, h.2 j _ _ hv e'⟩
theorem v_ix (ha : PE3 X a ta) (hb : PE3 X b tb) (hs : PlainIx b) : PE3 X (.Subscript a b pos) (vIx ta tb) := ⟨pe_imp (pe_ix (ix_list.or ix_tup) ha.out hb.out hs) fun σ H Q hh => by
    obtain ⟨B, z, τ, R, r, ht, q⟩ := hh
    refine ⟨B, _, τ, _, r, ht, fun x v H1 e1 i1 f1 h1 => ?_⟩
    refine ⟨B, _, τ, _, r.mono e1, h1, fun y u H2 e2 i2 f2 h2 => ?_⟩
    split at h2
    · rename_i xs i hx
      split at h2
      · rename_i d hd
        cases Is.int_inv i2
        have i1' := IsS.mono e2 i1
        cases x with
        | d z =>
          cases z with
          | tup zs =>
            cases hx
            obtain ⟨p, vs, rfl, h3, h4⟩ := Is.tup_inv i1'
            obtain ⟨w, hw, iw⟩ := atI_rel h4 hd
            exact .inr ⟨p, vs, i, w, rfl, rfl, SqT.same e2.sub h3, hw, q (.d _) _ _ (e1.trans e2) iw fr_d h2⟩
          | lst zs =>
            cases hx
            obtain ⟨p, vs, rfl, h3, h4⟩ := Is.lst_inv i1'
            obtain ⟨w, hw, iw⟩ := atI_rel h4 hd
            exact .inl ⟨p, vs, i, w, rfl, rfl, e2.sub.seq h3, hw, q (.d _) _ _ (e1.trans e2) iw fr_d h2⟩
          | _ => cases hx
        | l zs =>
          cases hx
          obtain ⟨p, vs, rfl, h3, h4⟩ := i1'
          obtain ⟨w, hw, iw⟩ := atI_rel h4 hd
          exact .inl ⟨p, vs, i, w, rfl, rfl, SqL.of h3, hw, q (.d _) _ _ (e1.trans e2) iw fr_d h2⟩
        | r zs =>
          cases hx
          obtain ⟨p, vs, rfl, h3, h4⟩ := i1'
          obtain ⟨w, hw, iw⟩ := atI_rel h4 hd
          exact .inl ⟨p, vs, i, w, rfl, rfl, h3, hw, q (.d _) _ _ (e1.trans e2) iw fr_d h2⟩
      · exact h2.elim
    · exact h2.elim⟩

/-! #### argument lists, displays -/
variable {es : List Expr} {tr : TA3} {te : TE3}
def aNil : TA3 := fun _ R => R []
/-- what is handed on: a new list becomes data -/
def S.arg : S → S
  | .l xs => .d (.lst xs)
  | s => s
def aCons (ta : TE3) (tr : TA3) : TA3 := fun τ R => ta τ fun x => tr τ fun xs => R (x.arg :: xs)
theorem a_nil : PA3 X [] aNil := ⟨pa_imp pa_nil fun σ H Q hh => by obtain ⟨B, z, τ, R, r, ht, q⟩ := hh; exact q [] [] ⟨H, z⟩ (Ext.refl r.ext.sub) ⟨rfl, fun i v s h => by simp at h⟩ ht⟩
theorem arg_own (s : S) : s.arg.own = false := by cases s <;> rfl
/-- a value that is handed on -/
theorem arg_ext {K : PySem.W.Frag} {p q : HZ} {v : V} {s : S} (e : Ext p q) (i : IsS K q v s) (f : Fr3 K p q v s) : ∃ z', Ext p ⟨q.h, z'⟩ ∧ IsS K ⟨q.h, z'⟩ v s.arg := by
  cases s with
  | d x => exact ⟨q.z, e, i⟩
  | r xs => exact ⟨q.z, e, i⟩
  | l xs =>
    obtain ⟨a, vs, rfl, h1, h2⟩ := i
    obtain ⟨f1, f2, f3⟩ := f xs a rfl rfl
    have h3 := h2.mono (same_new f3 (.lst vs))
    exact ⟨upd q.z a (.lst vs), e.freeze f1 f3 h1, Is.lst upd_same h3.1 h3.2⟩
theorem a_cons (ha : PE3 X e te) (hr : PA3 X es tr) (hs : starEach (e :: es) X.env = (false, eval e X.env) :: starEach es X.env := by exact starE rfl) : PA3 X (e :: es) (aCons te tr) :=
  ⟨pa_imp (pa_cons ha.out hr.out hs) fun σ H Q hh => by
    obtain ⟨B, z, τ, R, r, ht, q⟩ := hh
    refine ⟨B, _, τ, _, r, ht, fun x v H1 e1 i1 f1 h1 => ?_⟩
    obtain ⟨z1, e1', i1'⟩ := arg_ext e1 i1 f1
    refine ⟨B, z1, τ, _, r.mono e1', h1, fun ss vs H2 e2 i2 h2 => ?_⟩
    refine q _ _ _ (e1'.trans e2) ⟨by simp [i2.1], fun i w s hw hs => ?_⟩ h2
    cases i with
    | zero =>
      simp at hw hs
      subst hw; subst hs
      exact ⟨IsS.mono e2 i1', arg_own x⟩
    | succ i => exact i2.2 i w s (by simpa using hw) (by simpa using hs)⟩
def allD : List S → Option (List D)
  | [] => some []
  | .d x :: r => (allD r).map (x :: ·)
  | _ :: _ => none
theorem allD_inv : ∀ {ss : List S} {ds : List D}, allD ss = some ds → ss = ds.map S.d
  | [], ds, h => by cases h; rfl
  | .d x :: r, ds, h => by
    unfold allD at h
    cases q : allD r with
    | none => rw [q] at h; cases h
    | some ys =>
      rw [q] at h
      cases h
      rw [allD_inv q]
      rfl
  | .l _ :: _, _, h => by cases h
  | .r _ :: _, _, h => by cases h
theorem args_iss {K : PySem.W.Frag} {p : HZ} {vs : List V} {ds : List D} (h : Args K p vs (ds.map S.d)) : Iss K p.z vs ds := by
  refine ⟨by simpa using h.1, fun i v x h1 h2 => ?_⟩
  exact (h.2 i v (.d x) h1 (by rw [List.getElem?_map, h2]; rfl)).1
def vTup (t : TA3) : TE3 := fun τ R => t τ fun ss => match allD ss with
  | some ds => ds.length ≤ 1000 ∧ R (.d (.tup ds))
  | none => False
theorem small_ {n : Nat} (h : n ≤ 1000) : n ≤ sizeLine := Nat.le_of_lt (small1000 h)
theorem v_tup {x1} (h : PA3 X es tr) : PE3 X (.Tuple es x1 pos) (vTup tr) :=
  ⟨pe_imp (pe_tup h.out) fun σ H Q hh => by obtain ⟨B, z, τ, R, r, ht, q⟩ := hh; exact ⟨B, _, τ, _, r, ht, fun ss vs H1 e1 i1 h1 => by
    try dsimp only at h1
    split at h1
    · rename_i ds hd
      rw [allD_inv hd] at i1
      have j := args_iss i1
      refine ⟨by rw [j.1]; exact small_ h1.1, fun p hp => ?_⟩
      have el := Ext.lay (o := .tup vs) e1.sub hp
      have j' := j.mono (same_new (e1.sub.free hp) (.tup vs))
      exact q (.d _) _ _ (e1.trans el) (Is.tup (SqT.of upd_same) j'.1 j'.2) fr_d h1.2
    · exact h1.elim⟩⟩
/-- a new list, unknown to the module too -/
theorem pe_lstN {t : TA} (h : PA X es t) : PE X (.List es pos) (fun σ H Q => t σ H fun xs H1 => xs.length ≤ sizeLine ∧ ∀ p, H1 p = none → X.K.lookup p = none → Q (.ref p) (upd H1 p (.lst xs))) := by
  intro pins s σ H Q I hq
  refine wpAny_List_spliced (thn (h pos pins s σ H _ I hq) fun us s1 ⟨xs, H1, I1, r, z, q⟩ => ⟨by rw [← r.length]; exact z, ?_⟩)
  have hf : H1 s1.heap.objs.size = none := I1.hok.fresh (Nat.le_refl _)
  have hk : X.K.lookup s1.heap.objs.size = none := by
    cases e : X.K.lookup s1.heap.objs.size with
    | none => rfl
    | some o => exact absurd (Heap.lt_size (I1.kIn _ _ e)) (Nat.lt_irrefl _)
  refine ⟨.ref s1.heap.objs.size, upd H1 s1.heap.objs.size (.lst xs), I1.laid (t' := s1.toks) (fun b u e => Heap.get?_push_of_some _ e) (Nat.le_refl _) ?_, rfl, q _ hf hk⟩
  exact ⟨z, us, 0, r, Heap.get?_push_size _ rfl⟩
def vLst (t : TA3) : TE3 := fun τ R => t τ fun ss => match allD ss with
  | some ds => ds.length ≤ 1000 ∧ R (.l ds)
  | none => False
theorem v_lst (h : PA3 X es tr) : PE3 X (.List es pos) (vLst tr) :=
  ⟨pe_imp (pe_lstN h.out) fun σ H Q hh => by obtain ⟨B, z, τ, R, r, ht, q⟩ := hh; exact ⟨B, _, τ, _, r, ht, fun ss vs H1 e1 i1 h1 => by
    try dsimp only at h1
    split at h1
    · rename_i ds hd
      rw [allD_inv hd] at i1
      have j := args_iss i1
      refine ⟨by rw [j.1]; exact small_ h1.1, fun p hp hk => q (.l ds) _ ⟨_, H1.z⟩ (e1.trans (Ext.own e1.sub hp _)) ⟨p, vs, rfl, upd_same, j⟩ (fun xs a _ h2 => ?_) h1.2⟩
      cases h2
      exact ⟨e1.hh.free hp, hk, e1.sub.free hp⟩
    · exact h1.elim⟩⟩

/-! #### calls of built-ins -/
def vCB (r : List S → (S → Prop) → Prop) (t : TA3) : TE3 := fun τ R => t τ fun ss => r ss R
def CallR3 (X : Cx) (f : Value) (r3 : List S → (S → Prop) → Prop) : Prop :=
  CallR X f (fun xs H Q => ∃ z ss R, Same z H ∧ Args X.K ⟨H, z⟩ xs ss ∧ r3 ss R ∧ ∀ s v q, Ext ⟨H, z⟩ q → IsS X.K q v s → Fr3 X.K ⟨H, z⟩ q v s → R s → Q v q.h)
theorem callr_imp {f : Value} {r r' : List V → Hp → VK → Prop} (h : CallR X f r) (i : ∀ xs H Q, r' xs H Q → r xs H Q) : CallR X f r' := fun pins s σ H xs us Q I rs q => h pins s σ H xs us Q I rs (i xs H Q q)
theorem v_callB {x : Str} {p : Pos} {id : String} {r : List S → (S → Prop) → Prop} (hc : CallR3 X (.builtin id) r) (hg : Gl X x) (hm : X.mg x = none) (hv : bootBuiltins x = some (.builtin id)) (ha : PA3 X (e :: es) tr) (hn : x ≠ "__name__" := by decide)
    (hdb : (x == ("__debug__" : Str)) = false := by decide) (he : starEach (e :: es) X.env = (false, eval e X.env) :: starEach es X.env := by exact starE rfl) (hpl : (backTo pos (starEach es X.env)).any (·.1) = false := by exact plainE rfl) :
    PE3 X (.Call (.Name x p) (e :: es) [] pos) (vCB r tr) := ⟨pe_imp (pe_callB hc hg hm hv ha.out hn hdb he hpl) fun σ H Q hh => by obtain ⟨B, z, τ, R, r, ht, q⟩ := hh; exact ⟨B, _, τ, _, r, ht, fun ss vs H1 e1 i1 h1 => ⟨H1.z, ss, R, e1.sub, i1, h1, fun s v H2 e2 i2 f2 h2 => q s v H2 (e1.trans e2) i2 (fr_up e1 f2) h2⟩⟩⟩
theorem len1 {α : Type} {l : List α} (h : l.length = 1) : ∃ a, l = [a] := by
  cases l with
  | nil => cases h
  | cons a t => exact ⟨a, by rw [List.length_eq_zero_iff.mp (Nat.succ.inj h)]⟩
theorem args1 {K : PySem.W.Frag} {H : HZ} {vs : List V} {s : S} (h : Args K H vs [s]) : ∃ v, vs = [v] ∧ IsS K H v s := by
  obtain ⟨hl, hv⟩ := h
  obtain ⟨v, rfl⟩ := len1 hl
  exact ⟨v, rfl, (hv 0 v s rfl rfl).1⟩
def bAbs : List S → (S → Prop) → Prop := fun ss R => match ss with
  | [.d (.int i)] => R (.d (.int (if i < 0 then -i else i)))
  | _ => False
theorem b_abs : CallR3 X (.builtin "abs") bAbs :=
  callr_imp call_abs fun xs H Q hh => by
    obtain ⟨z, ss, R, hz, ha, h3, q⟩ := hh
    unfold bAbs at h3
    split at h3
    · rename_i i
      obtain ⟨v, rfl, h⟩ := args1 ha
      cases Is.int_inv h
      exact ⟨i, rfl, q (.d _) _ ⟨H, z⟩ (Ext.refl hz) (Is.int _) fr_d h3⟩
    · exact h3.elim
def bLen : List S → (S → Prop) → Prop := fun ss R => match ss with
  | [s] => match items s with
    | some xs => R (.d (.int xs.length))
    | none => False
  | _ => False
theorem b_len : CallR3 X (.builtin "len") bLen :=
  callr_imp call_len_seq fun xs H Q hh => by
    obtain ⟨z, ss, R, hz, ha, h3, q⟩ := hh
    unfold bLen at h3
    split at h3
    · rename_i s
      split at h3
      · rename_i ys hy
        obtain ⟨v, rfl, h⟩ := args1 ha
        cases s with
        | d z =>
          cases z with
          | tup zs =>
            cases hy
            obtain ⟨p, vs, rfl, h1, h2⟩ := Is.tup_inv h
            exact ⟨p, vs, rfl, .inr (SqT.same hz h1), by rw [h2.1]; exact q (.d _) _ ⟨H, z⟩ (Ext.refl hz) (Is.int _) fr_d h3⟩
          | lst zs =>
            cases hy
            obtain ⟨p, vs, rfl, h1, h2⟩ := Is.lst_inv h
            exact ⟨p, vs, rfl, .inl (hz.seq h1), by rw [h2.1]; exact q (.d _) _ ⟨H, z⟩ (Ext.refl hz) (Is.int _) fr_d h3⟩
          | _ => cases hy
        | l zs =>
          cases hy
          obtain ⟨p, vs, rfl, h1, h2⟩ := h
          exact ⟨p, vs, rfl, .inl (SqL.of h1), by rw [h2.1]; exact q (.d _) _ ⟨H, z⟩ (Ext.refl hz) (Is.int _) fr_d h3⟩
        | r zs =>
          cases hy
          obtain ⟨p, vs, rfl, h1, h2⟩ := h
          exact ⟨p, vs, rfl, .inl h1, by rw [h2.1]; exact q (.d _) _ ⟨H, z⟩ (Ext.refl hz) (Is.int _) fr_d h3⟩
      · exact h3.elim
    · exact h3.elim

/-! #### isinstance of a built-in type -/
inductive Ty where
  | int | bool | tuple | str | list
def nameT : Ty → String
  | .int => "int"
  | .bool => "bool"
  | .tuple => "tuple"
  | .str => "str"
  | .list => "list"
def isKB : Ty → S → Bool
  | .int, .d (.int _) => true
  | .int, .d (.bl _) => true
  | .bool, .d (.bl _) => true
  | .tuple, .d (.tup _) => true
  | .str, .d (.str _) => true
  | .list, .l _ => true
  | .list, .r _ => true
  | .list, .d (.lst _) => true
  | _, _ => false
def noTy : S → Prop
  | .d (.ty _) => False
  | .d (.ref _) => False
  | _ => True
theorem call_isi (k : Ty) : CallR X (.builtin "isinstance") (fun xs H Q => ∃ z x s, Same z H ∧ xs = [x, .ty (nameT k)] ∧ IsS X.K ⟨H, z⟩ x s ∧ noTy s ∧ Q (.bl (isKB k s)) H) := by
  intro pins s σ H xs us Q I rs h
  obtain ⟨zz, x, z, hz, rfl, h1, h2, q⟩ := h
  obtain ⟨v', u', rfl, r1, r2⟩ := vals2 rs
  cases r2
  have fin : ∀ tk, EP X pins σ Q (.bool (isKB k z)) { s with toks := tk } := fun tk => ⟨.bl _, H, I.tok tk, rfl, q⟩
  cases z with
  | d z =>
    cases z with
    | non => cases Is.non_inv h1; exact isinst_ok I r1 .non (by cases k <;> kernel_rfl) fin
    | bl y => cases Is.bl_inv h1; exact isinst_ok I r1 (.bl y) (by cases k <;> kernel_rfl) fin
    | int y => cases Is.int_inv h1; exact isinst_ok I r1 (.int y) (by cases k <;> kernel_rfl) fin
    | str y => cases Is.str_inv h1; exact isinst_ok I r1 (.str y) (by cases k <;> kernel_rfl) fin
    | ty y => exact h2.elim
    | ref y => exact h2.elim
    | lst y =>
      obtain ⟨p, vs, rfl, g1, g2⟩ := Is.lst_inv h1
      cases r1
      obtain ⟨its, _, pl, _⟩ := I.list (hz.seq g1)
      obtain ⟨o, n', e1, e2, _⟩ := pl
      exact PySem.W.kia_one PySem.W.kitx_list I.kIn ⟨o, e1, e2⟩ (by cases k <;> kernel_rfl) (fun z => nomatch z) fin
    | tup y =>
      obtain ⟨p, vs, rfl, g1, g2⟩ := Is.tup_inv h1
      cases r1
      obtain ⟨its, _, pl, _⟩ := I.tuple (SqT.same hz g1)
      obtain ⟨o, e1, e2, _⟩ := pl
      exact PySem.W.kia_one PySem.W.kitx_tuple I.kIn ⟨o, e1, e2⟩ (by cases k <;> kernel_rfl) (fun z => nomatch z) fin
  | l y =>
    obtain ⟨p, vs, rfl, g1, g2⟩ := h1
    cases r1
    obtain ⟨its, _, pl, _⟩ := I.list (SqL.of g1)
    obtain ⟨o, n', e1, e2, _⟩ := pl
    exact PySem.W.kia_one PySem.W.kitx_list I.kIn ⟨o, e1, e2⟩ (by cases k <;> kernel_rfl) (fun z => nomatch z) fin
  | r y =>
    obtain ⟨p, vs, rfl, g1, g2⟩ := h1
    cases r1
    obtain ⟨its, _, pl, _⟩ := I.list g1
    obtain ⟨o, n', e1, e2, _⟩ := pl
    exact PySem.W.kia_one PySem.W.kitx_list I.kIn ⟨o, e1, e2⟩ (by cases k <;> kernel_rfl) (fun z => nomatch z) fin

def vIsi (k : Ty) (te : TE3) : TE3 := fun τ R => te τ fun x => noTy x ∧ R (.d (.bl (isKB k x)))
theorem v_isi (k : Ty) {y : Str} {p p2 : Pos} (ha : PE3 X e te) (hg : Gl X "isinstance") (hm : X.mg "isinstance" = none) (hg2 : Gl X y) (hm2 : X.mg y = none) (hv : bootBuiltins y = some (.type (nameT k)))
    (hn : y ≠ "__name__" := by decide) (hd : (y == ("__debug__" : Str)) = false := by decide)
    (he : starEach [e, .Name y p2] X.env = (false, eval e X.env) :: starEach [.Name y p2] X.env := by exact starE rfl) (he2 : starEach [.Name y p2] X.env = (false, eval (.Name y p2) X.env) :: starEach [] X.env := by exact starE rfl) (hpl : (backTo pos (starEach [.Name y p2] X.env)).any (·.1) = false := by exact plainE rfl) :
    PE3 X (.Call (.Name "isinstance" p) [e, .Name y p2] [] pos) (vIsi k te) := ⟨pe_imp (pe_callB (call_isi k) hg hm PyProof.Rows.boot_isinstance (pa_cons ha.out (pa_cons (pe_bltn (v := .ty (nameT k)) hg2 hm2 hv rfl hn hd) pa_nil he2) he) (he := he) (hpl := hpl)) fun σ H Q ⟨B, z, τ, R, r, ht, q⟩ =>
    ⟨B, _, τ, _, r, ht, fun s v H1 e1 i1 f1 h1 => ⟨H1.z, v, s, e1.sub, rfl, i1, h1.1, q (.d _) _ H1 e1 (Is.bl _) fr_d h1.2⟩⟩⟩
/-! #### calls of defs -/
abbrev Sp3 := List S → (S → Prop) → (Str → Prop) → Prop
def liftSp (K : PySem.W.Frag) (mg : Str → Option Value) (sp : Sp3) : Sp := fun vs H Q E => ∃ z ss R U, Same z H ∧ Args K ⟨H, z⟩ vs ss ∧ sp ss R U ∧ (∀ s v q, Ext ⟨H, z⟩ q → IsS K q v s → Fr3 K ⟨H, z⟩ q v s → R s → Q v q.h) ∧
  ∀ x C H', Same H H' → mg x = some (.ref C) → U x → E (.ref C) none H'
structure Cal (P : Program) (w : World) (K : PySem.W.Frag) (mg : Str → Option Value) (base : Heap) (CX : CXT) (k : Nat) (x : Str) (ps : List Str) (sp : Sp3) : Prop where
  ex : ∃ f fd, FnOk P w K mg base CX k f fd ps (liftSp K mg sp) ∧ mg x = some (.ref f) ∧ PySem.W.keepIn K (.ref f) = true ∧ Binds K fd ps []
def NoU : Str → Prop := fun _ => False

/-! #### statements -/
variable {st : Stmt} {rest' : List Stmt} {t u : TS3}
def sNext : TS3 := fun D3 τ => D3.nx τ
def sSeq (t u : TS3) : TS3 := fun D3 τ => t { D3 with nx := u D3 } τ
def sCut (t u : TS3) : TS3 := fun D3 τ => ∃ mid : Tau → Prop, t { D3 with nx := mid } τ ∧ ∀ τ', mid τ' → u D3 τ'
theorem ss_nil : PSs3 X [] sNext := ⟨pss_imp pss_nil fun _ _ _ ⟨_, _, _, _, r, ht, c⟩ => c.nx _ _ _ r ht⟩
theorem ss_one (h : PS3 X st t) : PSs3 X [st] t := ⟨pss_one h.out⟩
theorem ss_cons (h1 : PS3 X st t) (h2 : PSs3 X rest' u) : PSs3 X (st :: rest') (sSeq t u) := ⟨pss_imp (pss_cons h1.out h2.out) fun D2 σ H hh => by obtain ⟨B, z, τ, D3, r, ht, c⟩ := hh; exact ⟨B, _, τ, { D3 with nx := u D3 }, r, ht, ⟨fun τ' σ' p' r' h' => ⟨B, _, τ', D3, r', h', c⟩, c.bk, c.ct, c.rt⟩⟩⟩
theorem ss_cut (h1 : PS3 X st t) (h2 : PSs3 X rest' u) : PSs3 X (st :: rest') (sCut t u) := ⟨pss_imp (pss_cons h1.out h2.out) fun D2 σ H ⟨B, z, τ, D3, r, ⟨mid, ht, hm⟩, c⟩ => ⟨B, _, τ, { D3 with nx := mid }, r, ht, ⟨fun τ' σ' p' r' h' => ⟨B, _, τ', D3, r', hm τ' h', c⟩, c.bk, c.ct, c.rt⟩⟩⟩
/-- a test whose way out leaves the def: the state stays -/
def sGd (t u : TS3) : TS3 := fun D3 τ => t { D3 with nx := fun τ' => τ' = τ } τ ∧ u D3 τ
theorem ss_gd (h1 : PS3 X st t) (h2 : PSs3 X rest' u) : PSs3 X (st :: rest') (sGd t u) := ⟨pss_imp (ss_cut h1 h2).out fun D2 σ H ⟨B, z, τ, D3, r, ⟨ht, hu⟩, c⟩ => ⟨B, _, τ, D3, r, ⟨fun τ' => τ' = τ, ht, fun τ' e => by subst e; exact hu⟩, c⟩⟩
def sDrop (te : TE3) : TS3 := fun D3 τ => te τ fun _ => D3.nx τ
theorem s_expr (he : PE3 X e te) (hs : swapsWith e none pos.line X.env = pure false := by rfl) : PS3 X (.Expr e pos) (sDrop te) := ⟨ps_imp (ps_expr he.out hs) fun D2 σ H hh => by obtain ⟨B, z, τ, D3, r, ht, c⟩ := hh; exact ⟨B, _, τ, _, r, ht, fun s v H' e i f h => c.nx _ _ _ (r.mono e) h⟩⟩
def sRet (te : TE3) : TS3 := fun D3 τ => te τ D3.rt
theorem s_ret (he : PE3 X e te) : PS3 X (.Return (some e) pos) (sRet te) := ⟨ps_imp (ps_ret he.out) fun D2 σ H hh => by obtain ⟨B, z, τ, D3, r, ht, c⟩ := hh; exact ⟨B, _, τ, _, r, ht, fun s v H' e i f h => c.rt s v H' (r.ext.trans e) i (fr_up r.ext f) h⟩⟩
def sRetV (i : Nat) : TS3 := fun D3 τ => match τ[i]? with
  | some (some s) => D3.rt s
  | _ => False
theorem s_retV {i : Nat} {x : Str} {pos' : Pos} (h : PE X (.Name x pos') (tVar i)) : PS3 X (.Return (some (.Name x pos')) pos) (sRetV i) := ⟨ps_imp (ps_ret h) fun D2 σ H hh => by
    obtain ⟨B, z, τ, D3, r, ht, c⟩ := hh
    unfold sRetV at ht
    split at ht
    · rename_i s hs
      obtain ⟨v, h1, h2⟩ := r.val i s hs
      exact ⟨v, h1, c.rt s v ⟨H, z⟩ r.ext h2 (fun xs a e1 e2 => r.own i xs a (by rw [← e1]; exact hs) (by rw [← e2]; exact h1)) ht⟩
    · exact ht.elim⟩
def sIf (c : TT3) (t u : TS3) : TS3 := fun D3 τ => c τ fun b => if b = true then t D3 τ else u D3 τ
theorem s_if {c : Expr} {as bs : List Stmt} {tc : TT3} (hc : PT3 X c tc) (ha : PSs3 X as t) (hb : PSs3 X bs u) : PS3 X (.If c as bs pos) (sIf tc t u) := ⟨ps_imp (ps_if hc.out ha.out hb.out) fun D2 σ H hh => by obtain ⟨B, z, τ, D3, r, ht, c⟩ := hh; exact ⟨B, _, τ, _, r, ht, fun b H1 e h => by
    cases b with
    | true => rw [if_pos rfl] at h ⊢; exact ⟨B, _, τ, D3, r.mono e, h, c⟩
    | false => rw [if_neg Bool.false_ne_true] at h ⊢; exact ⟨B, _, τ, D3, r.mono e, h, c⟩⟩⟩
def sSet (i : Nat) (te : TE3) : TS3 := fun D3 τ => te τ fun s => match s with
  | .r _ => False
  | .d x => D3.nx (τ.set i (some (.d x)))
  | .l xs => D3.nx (τ.set i (some (.l xs)))
theorem s_set {i : Nat} {x : Str} {pos' : Pos} (hN : X.N.Nodup) (hi : X.N[i]? = some x) (hx : Loc X.env.scope x) (he : PE3 X e te) (hs : swapsWith e (some (.Name x pos')) pos.line X.env = pure false := by rfl) (hf : X.fn x = true ∨ X.env.scope.names.lookup x = some .local := by first | exact .inl rfl | exact .inr rfl | assumption) :
    PS3 X (.Assign [.Name x pos'] e pos) (sSet i te) := ⟨ps_imp (ps_set hN hi hx he.out hs hf) fun D2 σ H hh => by obtain ⟨B, z, τ, D3, r, ht, c⟩ := hh; exact ⟨B, _, τ, _, r, ht, fun s v H' e i f h => by
    cases s with
    | r _ => exact h.elim
    | d y => exact c.nx _ _ _ (r.set e i f rfl) h
    | l ys => exact c.nx _ _ _ (r.set e i f rfl) h⟩⟩
/-! #### append -/
theorem Rep.push {B : HZ} {H z : Hp} {τ : Tau} {σ : St} {i : Nat} {xs : List D} {l : Addr} {vs : List V} {w : V} {d : D} (r : Rep X B τ σ ⟨H, z⟩) (hi : τ[i]? = some (some (.l xs))) (hσ : σ[i]? = some (some (.ref l)))
    (hl : H l = some (.lst vs)) (hv : Iss X.K z vs xs) (iw : Is X.K z w d) : Rep X B (τ.set i (some (.l (xs ++ [d])))) σ ⟨upd H l (.lst (vs ++ [w])), z⟩ := by
  obtain ⟨o1, o2, o3⟩ := r.own i xs l hi hσ
  refine ⟨by simp [r.len], ⟨fun b o h => ?_, r.ext.zz, fun b o h => ?_, r.ext.new⟩, fun j s hj => ?_, fun j ys a hj ha => ?_, fun j k ys s a hjk hj hk hs ha => ?_, r.top⟩
  · have hb : b ≠ l := by
      rintro rfl
      rw [h] at o1
      cases o1
    show upd H l _ b = some o
    rw [upd_ne hb]
    exact r.ext.hh b o h
  · have hb : b ≠ l := by
      rintro rfl
      have h' : z b = some o := h
      rw [show z b = none from o3] at h'
      cases h'
    show upd H l _ b = some o
    rw [upd_ne hb]
    exact r.ext.sub b o h
  · rcases set_get hj with ⟨rfl, rfl⟩ | ⟨hn, hj⟩
    · exact ⟨.ref l, hσ, l, _, rfl, upd_same, hv.snoc iw⟩
    · obtain ⟨v, h1, h2⟩ := r.val j s hj
      refine ⟨v, h1, ?_⟩
      cases s with
      | d x => exact h2
      | l ys =>
        obtain ⟨b, ws, rfl, h3, h4⟩ := h2
        have hb : b ≠ l := by
          rintro rfl
          exact r.sep i j xs (.l ys) b (fun z => hn z.symm) hi hj rfl hσ h1
        exact ⟨b, ws, rfl, by show upd H l _ b = _; rw [upd_ne hb]; exact h3, h4⟩
      | r ys =>
        obtain ⟨b, ws, rfl, h3, h4⟩ := h2
        have hb : b ≠ l := by
          rintro rfl
          exact r.sep i j xs (.r ys) b (fun z => hn z.symm) hi hj rfl hσ h1
        refine ⟨b, ws, rfl, ?_, h4⟩
        rcases h3 with (h3 | ⟨o, h3⟩) | h3
        · exact .inl (.inl (by show upd H l _ b = _; rw [upd_ne hb]; exact h3))
        · exact .inl (.inr ⟨o, by show upd H l _ b = _; rw [upd_ne hb]; exact h3⟩)
        · exact .inr h3
  · rcases set_get hj with ⟨rfl, _⟩ | ⟨hn, hj⟩
    · exact r.own j xs a hi ha
    · exact r.own j ys a hj ha
  · rcases set_get hj with ⟨rfl, _⟩ | ⟨hn, hj'⟩
    · rcases set_get hk with ⟨e3, _⟩ | ⟨hkn, hk'⟩
      · exact absurd e3.symm hjk
      · exact r.sep j k xs s a hjk hi hk' hs ha
    · rcases set_get hk with ⟨rfl, rfl⟩ | ⟨hkn, hk'⟩
      · exact r.sep j k ys (.l xs) a hjk hj' hi rfl ha
      · exact r.sep j k ys s a hjk hj' hk' hs ha
/-! #### while -/
def sWhile (c : TT3) (tb : TS3) : TS3 := fun D3 τ => ∃ W : Nat → Tau → Prop, (∃ m, W m τ) ∧ ∀ m τ, W m τ →
  c τ fun b => if b = true then tb { D3 with nx := fun τ' => ∃ m', m' < m ∧ W m' τ', ct := fun τ' => ∃ m', m' < m ∧ W m' τ', bk := D3.nx } τ else D3.nx τ
theorem s_while {c : Expr} {body : List Stmt} {tc : TT3} {tb : TS3} (hp : PassesOwn (model X.prog X.w) X.A X.env X.xe) (hc : PT3 X c tc) (hb : PSs3 X body tb) : PS3 X (.While c body [] pos) (sWhile tc tb) := ⟨ps_imp (ps_while hp hc.out hb.out) fun D2 σ H hh => by
    obtain ⟨B, z, τ, D3, r, ⟨W, ⟨m0, w0⟩, turn⟩, c⟩ := hh
    refine ⟨fun m σ H => ∃ z τ, Rep X B τ σ ⟨H, z⟩ ∧ W m τ, ⟨m0, z, τ, r, w0⟩, ?_⟩
    rintro m σ1 H1 ⟨z1, τ1, r1, w1⟩
    refine ⟨B, _, τ1, _, r1, turn m τ1 w1, fun b H2 e h => ?_⟩
    cases b with
    | true =>
      rw [if_pos rfl] at h ⊢
      refine ⟨fun σ' H' => ∃ m', m' < m ∧ ∃ z τ, Rep X B τ σ' ⟨H', z⟩ ∧ W m' τ, fun σ' H' ⟨m', h1, h2⟩ => ⟨m', h1, h2⟩, B, _, τ1, _, r1.mono e, h, ⟨?_, c.nx, ?_, c.rt⟩⟩
      · rintro τ' σ' p' r' ⟨m', h1, h2⟩
        exact ⟨m', h1, p'.z, τ', r', h2⟩
      · rintro τ' σ' p' r' ⟨m', h1, h2⟩
        exact ⟨m', h1, p'.z, τ', r', h2⟩
    | false =>
      rw [if_neg Bool.false_ne_true] at h ⊢
      exact c.nx _ _ _ (r1.mono e) h⟩
/-! #### for -/
def sTurn (i : Nat) (xs : List D) (tb : TS3) (D3 : Ends3) (τ0 : Tau) : Prop := ∃ I : Nat → Tau → Prop, I 0 τ0 ∧
  (∀ n τ x, xs[n]? = some x → I n τ → tb { D3 with nx := I (n + 1), ct := I (n + 1), bk := D3.nx } (τ.set i (some (.d x)))) ∧ ∀ τ, I xs.length τ → D3.nx τ
theorem Rep.setd {B p : HZ} {τ : Tau} {σ : St} {i : Nat} {v : V} {x : D} (r : Rep X B τ σ p) (h : Is X.K p.z v x) : Rep X B (τ.set i (some (.d x))) (σ.set i (some v)) p :=
  r.set (s := .d x) (Ext.refl r.ext.sub) h fr_d rfl
theorem Cont.inB {B B' : HZ} {D3 : Ends3} {D2 : Ends} {I : Tau → Prop} {N : St → Hp → Prop} (e : LeB X B B') (c : Cont X B D3 D2) (hN : ∀ τ σ p, Rep X B' τ σ p → I τ → N σ p.h) :
    Cont X B' { D3 with nx := I, ct := I, bk := D3.nx } { D2 with nx := N, ct := N, bk := D2.nx } :=
  ⟨hN, fun τ σ H r h => c.nx τ σ H (r.outB e) h, hN, fun s v q h1 h2 h3 h4 => c.rt s v q (e.ext h1) h2 (fun xs a x1 x2 => ⟨e.hh.free (h3 xs a x1 x2).1, (h3 xs a x1 x2).2⟩) h4⟩
theorem iss_item {K : PySem.W.Frag} {H : Hp} {vs : List V} {xs : List D} {n : Nat} {v : V} (h : Iss K H vs xs) (e : vs[n]? = some v) : ∃ x, xs[n]? = some x ∧ Is K H v x := by
  have hn := (List.getElem?_eq_some_iff.mp e).1
  have hx : xs[n]? = some (xs[n]'(by rw [← h.1]; exact hn)) := List.getElem?_eq_getElem (by rw [← h.1]; exact hn)
  exact ⟨_, hx, h.2 n v _ e hx⟩
/-- the loop over a list that is no own one -/
theorem for_lst {B : HZ} {τ : Tau} {σ : St} {H z : Hp} {D2 : Ends} {D3 : Ends3} {a : Addr} {vs : List V} {xs : List D} {i : Nat} {tb : TS3} (r : Rep X B τ σ ⟨H, z⟩) (c : Cont X B D3 D2) (hs : SqL X.K H a vs) (hv : Iss X.K z vs xs)
    (hno : ∀ (j : Nat) (ys : List D), τ[j]? = some (some (S.l ys)) → σ[j]? ≠ some (some (V.ref a))) (h : sTurn i xs tb D3 τ) :
    ∃ W : Nat → Nat → St → Hp → Prop, (∃ m, W 0 m σ H) ∧ ∀ n m σ H, W n m σ H →
      ((Itl X.K a).stop n H ∧ D2.nx σ H) ∨ ((Itl X.K a).go n H ∧ ∃ N : St → Hp → Prop, (∀ σ' H', N σ' H' → ∃ m', m' < m ∧ W (n + 1) m' σ' H') ∧ ∀ x H', (Itl X.K a).yld n H x H' → gName i x σ H' fun σ2 H2 => FS X tb { D2 with nx := N, ct := N, bk := D2.nx } σ2 H2) := by
  obtain ⟨I, i0, turn, out⟩ := h
  have hB : SqL X.K (cutB τ σ H) a vs := by
    rcases hs with (hs | ⟨o, hs⟩) | hs
    · exact .inl (.inl (by rw [cutB_not hno]; exact hs))
    · exact .inl (.inr ⟨o, by rw [cutB_not hno]; exact hs⟩)
    · exact .inr hs
  refine for_list (K := X.K) (a := a) (xs := vs) (g := gName i) (tb := FS X tb) (D := D2) (fun n σ1 H1 => ∃ z1 τ1, Rep X ⟨cutB τ σ H, z⟩ τ1 σ1 ⟨H1, z1⟩ ∧ I n τ1) ⟨z, τ, r.inB, i0⟩ (fun n σ1 H1 _ ⟨z1, τ1, r1, _⟩ => r1.ext.hh.seq hB) ?_ ?_
  · rintro n v σ1 H1 hn ⟨z1, τ1, r1, i1⟩
    obtain ⟨x, hx, ix⟩ := iss_item hv hn
    exact ⟨_, _, _, _, r1.setd (ix.mono r1.ext.zz), turn n τ1 x hx i1, c.inB r.leB fun τ' σ' p' r' h' => ⟨p'.z, τ', r', h'⟩⟩
  · rintro σ1 H1 ⟨z1, τ1, r1, i1⟩
    exact c.nx _ _ _ (r1.outB r.leB) (out τ1 (by rw [← hv.1]; exact i1))
theorem for_tp {B : HZ} {τ : Tau} {σ : St} {H z : Hp} {D2 : Ends} {D3 : Ends3} {a : Addr} {vs : List V} {xs : List D} {i : Nat} {tb : TS3} (r : Rep X B τ σ ⟨H, z⟩) (c : Cont X B D3 D2) (hs : SqT X.K z a vs) (hv : Iss X.K z vs xs)
    (h : sTurn i xs tb D3 τ) :
    ∃ W : Nat → Nat → St → Hp → Prop, (∃ m, W 0 m σ H) ∧ ∀ n m σ H, W n m σ H →
      ((Itt X.K a).stop n H ∧ D2.nx σ H) ∨ ((Itt X.K a).go n H ∧ ∃ N : St → Hp → Prop, (∀ σ' H', N σ' H' → ∃ m', m' < m ∧ W (n + 1) m' σ' H') ∧ ∀ x H', (Itt X.K a).yld n H x H' → gName i x σ H' fun σ2 H2 => FS X tb { D2 with nx := N, ct := N, bk := D2.nx } σ2 H2) := by
  obtain ⟨I, i0, turn, out⟩ := h
  refine for_tup (K := X.K) (a := a) (xs := vs) (g := gName i) (tb := FS X tb) (D := D2) (fun n σ1 H1 => ∃ z1 τ1, Rep X ⟨cutB τ σ H, z⟩ τ1 σ1 ⟨H1, z1⟩ ∧ I n τ1) ⟨z, τ, r.inB, i0⟩ (fun n σ1 H1 _ ⟨z1, τ1, r1, _⟩ => SqT.same (r1.ext.zz.trans r1.ext.sub) hs) ?_ ?_
  · rintro n v σ1 H1 hn ⟨z1, τ1, r1, i1⟩
    obtain ⟨x, hx, ix⟩ := iss_item hv hn
    exact ⟨_, _, _, _, r1.setd (ix.mono r1.ext.zz), turn n τ1 x hx i1, c.inB r.leB fun τ' σ' p' r' h' => ⟨p'.z, τ', r', h'⟩⟩
  · rintro σ1 H1 ⟨z1, τ1, r1, i1⟩
    exact c.nx _ _ _ (r1.outB r.leB) (out τ1 (by rw [← hv.1]; exact i1))
/-- a list or a tuple is walked -/
def iSeq (K : PySem.W.Frag) (tl : TE) : TI := fun σ H R => tl σ H fun x H1 => ∃ a, x = .ref a ∧ (((∃ xs, SqL K H1 a xs) ∧ R (Itl K a) H1) ∨ ((∃ xs, SqT K H1 a xs) ∧ R (Itt K a) H1))
theorem pi_seq {tg l : Expr} {tl : TE} (hl : PE X l tl) : PI X tg l (iSeq X.K tl) := by
  intro pins s σ H R I h
  refine thn (hl pins s σ H _ I h) fun v s1 hh9 => ?_
  obtain ⟨x, H1, I1, r1, q1⟩ := hh9
  obtain ⟨a, e, ⟨⟨xs, hq⟩, q⟩ | ⟨⟨xs, hq⟩, q⟩⟩ := q1
  · subst e
    cases r1
    obtain ⟨its, rv, p, hz⟩ := I1.list hq
    refine wpAny_pyIter_list p.isList ?_
    refine ⟨s1.heap.objs.size, [s1.heap.objs.size], _, _, H1, rfl, I1.kept (t' := s1.toks) fun b o e => Heap.get?_push_of_some _ e, turn_list a _, ⟨_, Heap.get?_push_size _ rfl, rfl, rfl⟩, fun b hb => ?_, q⟩
    have e : b = s1.heap.objs.size := by simpa using hb
    subst e
    exact I1.fpOk (Nat.le_refl _) (I1.hok.fresh (Nat.le_refl _))
  · subst e
    cases r1
    obtain ⟨its, rv, p, hz⟩ := I1.tuple hq
    refine wpAny_pyIter_tuple (show s1.heap.IsTuple a its.toArray from p) ?_
    refine ⟨s1.heap.objs.size, [s1.heap.objs.size], _, _, H1, rfl, I1.kept (t' := s1.toks) fun b o e => Heap.get?_push_of_some _ e, turn_tuple a _, ⟨_, Heap.get?_push_size _ rfl, rfl, rfl⟩, fun b hb => ?_, q⟩
    have e : b = s1.heap.objs.size := by simpa using hb
    subst e
    exact I1.fpOk (Nat.le_refl _) (I1.hok.fresh (Nat.le_refl _))
/-- an own list is none of data -/
theorem Rep.notown {B : HZ} {τ : Tau} {σ : St} {p : HZ} {a : Addr} {o : HO} (r : Rep X B τ σ p) (h : p.z a = some o) : ∀ (j : Nat) (ys : List D), τ[j]? = some (some (S.l ys)) → σ[j]? ≠ some (some (V.ref a)) := fun j ys h1 h2 => by
  have := (r.own j ys a h1 h2).2.2
  rw [h] at this
  cases this
theorem sqL_notown {B : HZ} {τ : Tau} {σ : St} {p : HZ} {a : Addr} {vs : List V} (r : Rep X B τ σ p) (h : SqL X.K p.z a vs) : ∀ (j : Nat) (ys : List D), τ[j]? = some (some (S.l ys)) → σ[j]? ≠ some (some (V.ref a)) := by
  rcases h with (h | ⟨o, h⟩) | ⟨o, its, n, h, _⟩
  · exact r.notown h
  · exact r.notown h
  · intro j ys h1 h2
    have := (r.own j ys a h1 h2).2.1
    rw [h] at this
    cases this
/-- for x in NAME -/
def sForN (j i : Nat) (tb : TS3) : TS3 := fun D3 τ => match τ[j]? with
  | some (some (.d (.tup xs))) => sTurn i xs tb D3 τ
  | some (some (.d (.lst xs))) => sTurn i xs tb D3 τ
  | some (some (.l xs)) => sTurn i xs tb D3 (τ.set j (some (.r xs)))
  | some (some (.r xs)) => sTurn i xs tb D3 (τ.set j (some (.r xs)))
  | _ => False
theorem s_forN {j i : Nat} {x y : Str} {px py : Pos} {body : List Stmt} {tb : TS3} (h : PS X (.For (.Name x px) (.Name y py) body [] pos) (tFor (iSeq X.K (tVar j)) (gName i) (FS X tb))) : PS3 X (.For (.Name x px) (.Name y py) body [] pos) (sForN j i tb) := ⟨ps_imp h fun D2 σ H hh => by
    obtain ⟨B, z, τ, D3, r, ht, c⟩ := hh
    have lists : ∀ (s : S) (xs : List D), τ[j]? = some (some s) → s.share = .r xs → sTurn i xs tb D3 (τ.set j (some (.r xs))) → tFor (iSeq X.K (tVar j)) (gName i) (FS X tb) D2 σ H := fun s xs hs hx ht => by
      obtain ⟨v, h1, h2⟩ := r.val j s hs
      have h2' := h2.share
      rw [hx] at h2'
      obtain ⟨a, vs, rfl, h3, h4⟩ := h2'
      have r' := r.freeze hs hx
      refine ⟨.ref a, h1, a, rfl, .inl ⟨⟨vs, h3⟩, for_lst r' c h3 h4 (fun m ys hm hσ => ?_) ht⟩⟩
      rcases set_get hm with ⟨rfl, z⟩ | ⟨hn, hm'⟩
      · cases z
      · have hl : j < τ.length := (List.getElem?_eq_some_iff.mp hs).1
        exact r'.sep m j ys (.r xs) a hn hm (by rw [List.getElem?_set_self hl]) rfl hσ h1
    unfold sForN at ht
    split at ht
    · rename_i xs hs
      obtain ⟨v, h1, h2⟩ := r.val j _ hs
      obtain ⟨a, vs, rfl, h3, h4⟩ := Is.tup_inv h2
      exact ⟨.ref a, h1, a, rfl, .inr ⟨⟨vs, SqT.same r.ext.sub h3⟩, for_tp r c h3 h4 ht⟩⟩
    · rename_i xs hs
      obtain ⟨v, h1, h2⟩ := r.val j _ hs
      obtain ⟨a, vs, rfl, h3, h4⟩ := Is.lst_inv h2
      exact ⟨.ref a, h1, a, rfl, .inl ⟨⟨vs, r.ext.sub.seq h3⟩, for_lst r c (r.ext.sub.seq h3) h4 (sqL_notown r h3) ht⟩⟩
    · rename_i xs hs
      exact lists _ xs hs rfl ht
    · rename_i xs hs
      exact lists _ xs hs rfl ht
    · exact ht.elim⟩
end

/-! ### a def -/
def start3 (N : List Str) (ss : List S) : Tau := ss.map some ++ List.replicate (N.length - ss.length) none
theorem start_get {α : Type} {ss : List α} {m i : Nat} {s : α} (h : (ss.map some ++ List.replicate m (none : Option α))[i]? = some (some s)) : ss[i]? = some s := by
  by_cases hi : i < ss.length
  · rw [List.getElem?_append_left (by simpa using hi), List.getElem?_map] at h
    cases e : ss[i]? with
    | none => rw [e] at h; cases h
    | some a => rw [e] at h; cases h; rfl
  · rw [List.getElem?_append_right (by simpa using hi), List.getElem?_replicate] at h
    split at h <;> cases h
theorem rep_start {X : Cx} {p : HZ} {N : List Str} {vs : List V} {ss : List S} (h : Args X.K p vs ss) (hz : Same p.z p.h) (ht : Same X.H₀ p.h) : Rep X p (start3 N ss) (L2.start N vs) p := by
  have no : ∀ (i : Nat) (xs : List D), ¬ (start3 N ss)[i]? = some (some (.l xs)) := fun i xs z => by
    have z' := start_get z
    have hi := (List.getElem?_eq_some_iff.mp z').1
    have hv : vs[i]? = some (vs[i]'(by rw [h.1]; exact hi)) := List.getElem?_eq_getElem (by rw [h.1]; exact hi)
    have := (h.2 i _ _ hv z').2
    cases this
  refine ⟨by unfold L2.start start3; simp [h.1], Ext.refl hz, fun i s hs => ?_, fun i xs a z _ => absurd z (no i xs), fun i j xs s a _ z _ _ _ => absurd z (no i xs), ht⟩
  have z' := start_get hs
  have hi := (List.getElem?_eq_some_iff.mp z').1
  have hl : i < vs.length := by rw [h.1]; exact hi
  have hv : vs[i]? = some vs[i] := List.getElem?_eq_getElem hl
  refine ⟨vs[i], ?_, (h.2 i _ _ hv z').1⟩
  unfold L2.start
  rw [List.getElem?_append_left (by simpa using hl), List.getElem?_map, hv]
  rfl
section
variable {P : Program} {w : World} {K : PySem.W.Frag} {mg : Str → Option Value} {base : Heap}
theorem fn3 {x qual : Str} {st : Stmt} {f : Addr} {fd : FuncData} {N ps : List Str} {k : Nat} {sp : Sp3} (F : Fun K x qual st f fd) (Sc : FnScope N ps (defScope st)) (len : ∀ ss R U, sp ss R U → ss.length = ps.length)
    (hbody : ∀ (cdv : Value) (A : Around) (outer : List Env) (s : Shared) (H : Hp) (E : XK) (ss : List S) (R : S → Prop) (U : Str → Prop), Room k (A.deeper (envOfC qual (defScope st) s.heap.objs.size f cdv)) → sp ss R U →
      ∃ t, PSs3 (cxOf CX0 P w K mg base N qual (defScope st) f cdv A outer s H E).nox (defBody st) t ∧ t { nx := fun _ => R (.d .non), rt := R } (start3 N ss)) : FnOk P w K mg base CX0 (k + 1) f fd ps (liftSp K mg sp) := by
  refine F.ok Sc (fun vs H Q E hh => by obtain ⟨z, ss, R, U, hz, ha, h3, _⟩ := hh; exact ha.1.trans (len ss R U h3)) fun cdv A outer s H vs Q E hr hh9 => ?_
  obtain ⟨z, ss, R, U, hz, ha, h3, q, qe⟩ := hh9
  obtain ⟨t, ht, hq⟩ := hbody cdv A outer s H E ss R U hr h3
  exact ⟨_, ht.out, ⟨H, z⟩, z, start3 N ss, _, rep_start ha hz (Same.refl H), hq, ⟨fun τ σ p r h => q (.d .non) _ p r.ext Is.non fr_d h, fun _ _ _ _ z => z.elim, fun _ _ _ _ z => z.elim, fun s v p e i f h => q s v p e i f h⟩⟩
end
/-- what law(script) promises -/
def spLaw3 : Sp3 := fun ss R _ => ∃ ns : List Int, ss = [.r (ns.map D.int)] ∧ ns.length ≤ 63 ∧ R (.d (.bl true))
theorem iss_ints {K : PySem.W.Frag} {H : Hp} (ns : List Int) : Iss K H (ns.map V.int) (ns.map D.int) := by
  refine ⟨by simp, fun i v x h1 h2 => ?_⟩
  rw [List.getElem?_map] at h1 h2
  cases e : ns[i]? with
  | none => rw [e] at h1; cases h1
  | some n =>
    rw [e] at h1 h2
    cases h1
    cases h2
    exact .int n
end L3
namespace L3
open PySem PySem.Spec PyProof.Rows L2
/-! ### range with a step -/
section
variable {X : Cx} {tg : Expr}
variable {e : Expr} {pos : Pos}
end
end L3
namespace L3
open PySem PySem.Spec PyProof.Rows L2
/-! ### == of tuples, in depth -/
def flatD : D → Bool
  | .non => true
  | .bl _ => true
  | .int _ => true
  | .str _ => true
  | _ => false
def depOk : Nat → D → Bool
  | 0, x => flatD x
  | n + 1, .tup xs => xs.all (depOk n)
  | _ + 1, x => flatD x
def eqF : D → D → Bool
  | .non, .non => true
  | .bl a, .bl b => a == b
  | .bl a, .int b => (if a then 1 else 0) == b
  | .int a, .bl b => a == (if b then 1 else 0)
  | .int a, .int b => a == b
  | .str a, .str b => a == b
  | _, _ => false
def eqN : Nat → D → D → Bool
  | 0, x, y => eqF x y
  | n + 1, .tup xs, .tup ys => (xs.zip ys).all (fun p => eqN n p.1 p.2) && xs.length == ys.length
  | _ + 1, .tup _, _ => false
  | _ + 1, _, .tup _ => false
  | _ + 1, x, y => eqF x y
theorem eqN_refl : ∀ (n : Nat) (x : D), depOk n x = true → eqN n x x = true
  | 0, x, h => by cases x <;> first | rfl | (exact beq_self_eq_true _) | cases h
  | n + 1, x, h => by
    cases x with
    | tup xs =>
      have h' : xs.all (depOk n) = true := h
      show ((xs.zip xs).all (fun p => eqN n p.1 p.2) && xs.length == xs.length) = true
      rw [beq_self_eq_true, Bool.and_true, List.all_eq_true]
      rintro ⟨a, b⟩ hp
      obtain ⟨i, hi⟩ := List.getElem?_of_mem hp
      rw [List.getElem?_zip_eq_some] at hi
      obtain ⟨h1, h2⟩ := hi
      have e : a = b := Option.some.inj (h1.symm.trans h2)
      subst e
      exact eqN_refl n a (List.all_eq_true.mp h' a (List.mem_of_getElem? h1))
    | _ => first | rfl | (exact beq_self_eq_true _) | cases h
theorem Is.flatV {K : PySem.W.Frag} {H : Hp} {v : V} {x : D} (h : Is K H v x) (f : flatD x = true) : flatV v = true := by
  cases h <;> first | rfl | cases f
theorem eqF_V {K : PySem.W.Frag} {H : Hp} {v u : V} {x y : D} (h : Is K H v x) (h' : Is K H u y) (f : flatD x = true) (f' : flatD y = true) : eqV v u = eqF x y := by
  cases h <;> first | (cases f; done) | (cases h' <;> first | (cases f'; done) | rfl)
theorem getElem_of {its : List Value} {j : Nat} (h : j < its.toArray.size) {u : Value} (e : its[j]? = some u) : its.toArray[j] = u := by
  have hj : j < its.length := by simpa using h
  rw [List.getElem?_eq_getElem hj] at e
  have e' := Option.some.inj e
  rw [← e']
  simp
section
variable {X : Cx} {pins : List (Addr × Obj)} {σ : St} {H : Hp} {s : Shared}
theorem is_inj (I : Inv X pins σ H s) : ∀ (n : Nat) {v : V} {x y : D}, depOk n x = true → depOk n y = true → Is X.K H v x → Is X.K H v y → x = y
  | 0, v, x, y, fx, fy, hx, hy => by
    cases hx <;> first | (cases fx; done) | (cases hy <;> first | rfl | (cases fy; done))
  | n + 1, v, x, y, fx, fy, hx, hy => by
    cases hx with
    | @tup a vs xs h hl r =>
      cases hy with
      | @tup _ ws ys h2 hl2 r2 =>
        have e := I.tuple_inj h h2
        subst e
        congr 1
        apply List.ext_getElem?
        intro i
        cases hv : vs[i]? with
        | none =>
          have hi := List.getElem?_eq_none_iff.mp hv
          rw [List.getElem?_eq_none_iff.mpr (by omega), List.getElem?_eq_none_iff.mpr (by omega)]
        | some v =>
          have hi := (List.getElem?_eq_some_iff.mp hv).1
          have hx : xs[i]? = some (xs[i]'(by omega)) := List.getElem?_eq_getElem (by omega)
          have hy : ys[i]? = some (ys[i]'(by omega)) := List.getElem?_eq_getElem (by omega)
          rw [hx, hy]
          congr 1
          exact is_inj I n (List.all_eq_true.mp (show xs.all (depOk n) = true from fx) _ (List.mem_of_getElem? hx)) (List.all_eq_true.mp (show ys.all (depOk n) = true from fy) _ (List.mem_of_getElem? hy)) (r i v _ hv hx) (r2 i v _ hv hy)
      | lst => cases fy
      | ref => cases fy
    | lst => cases fx
    | ref => cases fx
    | ty => cases fx
    | _ => cases hy <;> first | rfl | (cases fy; done)
theorem rc_tuples (I : Inv X pins σ H s) {n : Nat} {A : Around} {a b : Addr} {vs ws : List V} {xs ys : List D} (ha : SqT X.K H a vs) (hb : SqT X.K H b ws) (hx : Iss X.K H vs xs) (hy : Iss X.K H ws ys) (hu : A.units < cLine)
    (ih : ∀ (x y : D) (v u : V) (v' u' : Value), x ∈ xs → y ∈ ys → Is X.K H v x → Is X.K H u y → RelV v v' → RelV u u' → SeqAt.EqAt A.in1 s v' u' (eqN n x y)) : SeqAt.RcAt A s (.ref a) (.ref b) (eqN (n + 1) (.tup xs) (.tup ys)) := by
  obtain ⟨its, r1, p1, _⟩ := I.tuple ha
  obtain ⟨its2, r2, p2, _⟩ := I.tuple hb
  have l1 := r1.length
  have l2 := r2.length
  have k1 := hx.1
  have k2 := hy.1
  have key := SeqAt.RcAt.tuples (A := A) (s := s) (l := a) (b := b) (items := its.toArray) (items2 := its2.toArray) (e := fun j => match xs[j]?, ys[j]? with | some x, some y => eqN n x y | _, _ => true) p1 p2 hu (fun j h1 h2 => by
    have h1' : j < its.length := by simpa using h1
    have h2' : j < its2.length := by simpa using h2
    have gx : xs[j]? = some (xs[j]'(by omega)) := List.getElem?_eq_getElem (by omega)
    have gy : ys[j]? = some (ys[j]'(by omega)) := List.getElem?_eq_getElem (by omega)
    have gv : vs[j]? = some (vs[j]'(by omega)) := List.getElem?_eq_getElem (by omega)
    have gw : ws[j]? = some (ws[j]'(by omega)) := List.getElem?_eq_getElem (by omega)
    obtain ⟨u1, e1, q1⟩ := r1.get gv
    obtain ⟨u2, e2, q2⟩ := r2.get gw
    rw [getElem_of h1 e1, getElem_of h2 e2]
    rw [gx, gy]
    exact ih _ _ _ _ _ _ (List.mem_of_getElem? gx) (List.mem_of_getElem? gy) (hx.2 j _ _ gv gx) (hy.2 j _ _ gw gy) q1 q2)
  have e : eqN (n + 1) (.tup xs) (.tup ys) = ((List.range (min its.toArray.size its2.toArray.size)).all (fun j => match xs[j]?, ys[j]? with | some x, some y => eqN n x y | _, _ => true) && its.toArray.size == its2.toArray.size) := by
    show ((xs.zip ys).all (fun p => eqN n p.1 p.2) && xs.length == ys.length) = _
    have s1 : its.toArray.size = xs.length := by simp; omega
    have s2 : its2.toArray.size = ys.length := by simp; omega
    rw [s1, s2]
    congr 1
    rw [Bool.eq_iff_iff, List.all_eq_true, List.all_eq_true]
    constructor
    · intro h j hj
      rw [List.mem_range] at hj
      have gx : xs[j]? = some (xs[j]'(by omega)) := List.getElem?_eq_getElem (by omega)
      have gy : ys[j]? = some (ys[j]'(by omega)) := List.getElem?_eq_getElem (by omega)
      rw [gx, gy]
      exact h (_, _) (List.mem_of_getElem? (List.getElem?_zip_eq_some.mpr ⟨gx, gy⟩))
    · rintro h ⟨x, y⟩ hp
      obtain ⟨j, hj⟩ := List.getElem?_of_mem hp
      obtain ⟨gx, gy⟩ := List.getElem?_zip_eq_some.mp hj
      have h1 := (List.getElem?_eq_some_iff.mp gx).1
      have h2 := (List.getElem?_eq_some_iff.mp gy).1
      have := h j (by rw [List.mem_range]; omega)
      simp only [] at gx gy
      rw [gx, gy] at this
      exact this
  rw [e]
  exact key
theorem eqAt_D (I : Inv X pins σ H s) : ∀ (n : Nat) (A : Around) (x y : D) (v u : V) (v' u' : Value), A.units + n < cLine → depOk n x = true → depOk n y = true → Is X.K H v x → Is X.K H u y → RelV v v' → RelV u u' → SeqAt.EqAt A s v' u' (eqN n x y)
  | 0, A, x, y, v, u, v', u', _, fx, fy, hx, hy, rv, ru => by
    show SeqAt.EqAt A s v' u' (eqF x y)
    rw [← eqF_V hx hy fx fy]
    exact eqAt_V rv ru (hx.flatV fx) (hy.flatV fy)
  | n + 1, A, x, y, v, u, v', u', hu, fx, fy, hx, hy, rv, ru => by
    have flat : flatD x = true → flatD y = true → eqN (n + 1) x y = eqF x y → SeqAt.EqAt A s v' u' (eqN (n + 1) x y) := fun f1 f2 e => by
      rw [e, ← eqF_V hx hy f1 f2]
      exact eqAt_V rv ru (hx.flatV f1) (hy.flatV f2)
    have hu0 : A.units < cLine := by omega
    cases hx with
    | @tup a vs xs ha hl r =>
      cases rv
      obtain ⟨its, r1, p1, _⟩ := I.tuple ha
      have t1 : s.heap.IsTuple a its.toArray := p1
      cases hy with
      | @tup b ws ys hb hl2 r2 =>
        cases ru
        by_cases hab : a = b
        · subst hab
          have e := is_inj I (n + 1) fx fy (.tup ha hl r) (.tup hb hl2 r2)
          rw [e, eqN_refl (n + 1) _ fy]
          exact SeqAt.EqAt.same _
        · refine SeqAt.EqAt.of_refs hab (rc_tuples I ha hb ⟨hl, r⟩ ⟨hl2, r2⟩ hu0 fun x y v u v' u' mx my ix iy rv ru => ?_)
          exact eqAt_D I n A.in1 x y v u v' u' (by show A.units + 1 + n < cLine; omega) (List.all_eq_true.mp (show xs.all (depOk n) = true from fx) x mx) (List.all_eq_true.mp (show ys.all (depOk n) = true from fy) y my) ix iy rv ru
      | non => cases ru; exact SeqAt.EqAt.tuple_none t1 hu0
      | bl c => cases ru; exact SeqAt.EqAt.tuple_bool c t1 hu0
      | int c => obtain ⟨t, rfl⟩ := ru; exact SeqAt.EqAt.tuple_int c t t1 hu0
      | str c => obtain ⟨t, rfl⟩ := ru; exact SeqAt.EqAt.tuple_str c t t1 hu0
      | ty c => cases fy
      | lst => cases fy
      | ref => cases fy
    | non =>
      cases hy with
      | @tup b ws ys hb hl2 r2 =>
        cases ru; cases rv
        obtain ⟨its, r1, p1, _⟩ := I.tuple hb
        exact SeqAt.EqAt.none_tuple (show s.heap.IsTuple b its.toArray from p1) hu0
      | ty c => cases fy
      | lst => cases fy
      | ref => cases fy
      | _ => exact flat rfl rfl rfl
    | bl c =>
      cases hy with
      | @tup b ws ys hb hl2 r2 =>
        cases ru; cases rv
        obtain ⟨its, r1, p1, _⟩ := I.tuple hb
        exact SeqAt.EqAt.bool_tuple c (show s.heap.IsTuple b its.toArray from p1) hu0
      | ty c => cases fy
      | lst => cases fy
      | ref => cases fy
      | _ => exact flat rfl rfl rfl
    | int c =>
      cases hy with
      | @tup b ws ys hb hl2 r2 =>
        obtain ⟨t, rfl⟩ := rv; cases ru
        obtain ⟨its, r1, p1, _⟩ := I.tuple hb
        exact SeqAt.EqAt.int_tuple c t (show s.heap.IsTuple b its.toArray from p1) hu0
      | ty c => cases fy
      | lst => cases fy
      | ref => cases fy
      | _ => exact flat rfl rfl rfl
    | str c =>
      cases hy with
      | @tup b ws ys hb hl2 r2 =>
        obtain ⟨t, rfl⟩ := rv; cases ru
        obtain ⟨its, r1, p1, _⟩ := I.tuple hb
        exact SeqAt.EqAt.str_tuple c t (show s.heap.IsTuple b its.toArray from p1) hu0
      | ty c => cases fy
      | lst => cases fy
      | ref => cases fy
      | _ => exact flat rfl rfl rfl
    | ty c => cases fx
    | lst => cases fx
    | ref => cases fx
/-- == of two tuples, n deep -/
def oEqT (n : Nat) : R3 := fun dx dy R => match dx, dy with
  | .tup xs, .tup ys => depOk n (.tup xs) = true ∧ depOk n (.tup ys) = true ∧ R (.bl (eqN n (.tup xs) (.tup ys)))
  | _, _ => False
theorem o_eqT (n : Nat) (hu : X.A.units + n < cLine) : OpR3 X (compareOp .Eq) (oEqT n) := by
  intro pins s σ H x y v u Q I rx ry h
  obtain ⟨z, dx, dy, R, hz, hx, hy, h3, q⟩ := h
  replace hx := hx.mono hz
  replace hy := hy.mono hz
  unfold oEqT at h3
  split at h3
  · rename_i xs ys
    obtain ⟨fx, fy, h3⟩ := h3
    cases n with
    | zero => cases fx
    | succ n =>
      obtain ⟨a, vs, rfl, ha, ia⟩ := Is.tup_inv hx
      obtain ⟨b, ws, rfl, hb, ib⟩ := Is.tup_inv hy
      cases rx
      cases ry
      refine rc_tuples (A := X.A) (n := n) I ha hb ia ib (by omega) (fun x y v u v' u' mx my ix iy rv ru => ?_) X.prog X.w X.xe _ ⟨.bl _, H, I, rfl, q _ _ ⟨H, z⟩ (Ext.refl hz) (.bl _) h3⟩
      exact eqAt_D I n X.A.in1 x y v u v' u' (by show X.A.units + 1 + n < cLine; omega) (List.all_eq_true.mp (show xs.all (depOk n) = true from fx) x mx) (List.all_eq_true.mp (show ys.all (depOk n) = true from fy) y my) ix iy rv ru
  · exact h3.elim
end
end L3
namespace L3
open PySem PySem.Spec PyProof.Rows L2
/-! ### exceptions: how one lies in the heap -/
theorem ObjOk.there {P : Program} {w : World} {H : Hp} {h : Heap} {a : Addr} {o : HO} (x : ObjOk P w H h a o) : ∃ u, h.get? a = some u := by
  cases o with
  | lst xs => obtain ⟨_, _, _, _, e⟩ := x; exact ⟨_, e⟩
  | tup xs => obtain ⟨_, _, _, _, e, _⟩ := x; exact ⟨_, e⟩
  | dK kvs => obtain ⟨_, _, _, _, o, _, _, e, _⟩ := x; exact ⟨_, e⟩
  | dT kvs => obtain ⟨_, _, _, _, o, _, _, e, _⟩ := x; exact ⟨_, e⟩
  | set S n => obtain ⟨o, _, _, _, e, _⟩ := x; exact ⟨_, e⟩
  | ins C dx fs => obtain ⟨_, _, _, e, _⟩ := x; exact ⟨_, e⟩
  | own y => obtain ⟨_, e⟩ := x; exact ⟨_, e⟩
  | xd fs => obtain ⟨_, ⟨_, _, _, e, _⟩, _⟩ := x; exact ⟨_, e⟩
  | rng lo hi => obtain ⟨_, _, _, e⟩ := x; exact ⟨_, e⟩
  | frz ob u => obtain ⟨e, _⟩ := x; exact ⟨_, e⟩
  | tbl ps => obtain ⟨_, e, _⟩ := x; exact ⟨_, e⟩
  | met f y => exact ⟨_, show h.get? a = some _ from x⟩
  | ext φ => obtain ⟨_, ⟨_, e⟩, _⟩ := x; exact ⟨_, e⟩
/-- an exception of the class at C flies over the frames l: all but the frames lies in B -/
structure Fly (P : Program) (w : World) (l : List Env) (H H' : Hp) (h h' : Heap) (ea C : Addr) (a0 : Value) (B : Heap) : Prop where
  fl : Heap.FlyingW B l ea (.ref C) a0 h'
  un : Un (frs l) [] H H' h h'
  hok : HOk P w H' h'
  kb : ∀ b o, h.get? b = some o → H b = none → b ∉ frs l → B.get? b = some o
  tr : ∀ b o, H' b = some o → ∃ ob, B.get? b = some ob
  old : ∀ b o, h.get? b = some o → b ∉ frs l → ∃ ob, B.get? b = some ob
section
variable {P : Program} {w : World} {l : List Env} {H H' : Hp} {h h' h'' : Heap} {ea C : Addr} {a0 : Value} {B : Heap}
theorem Fly.stays (f : Fly P w l H H' h h' ea C a0 B) {b : Addr} {o : Obj} (e : B.get? b = some o) : h'.get? b = some o := f.fl.1 b o e
theorem fr_mem {l : List Env} {b : Addr} {B h : Heap} (F : h.FunFrames B l) (hb : b ∈ frs l) : ∃ o, h.get? b = some o ∧ ∀ vs, o.data ≠ .fields vs := (F.mem hb).2
theorem hok_B {H' : Hp} {h' h'' : Heap} {B : Heap} (ok : HOk P w H' h') (tr : ∀ b o, H' b = some o → ∃ ob, B.get? b = some ob) (s1 : B.StaysIn h') (s2 : B.StaysIn h'') : HOk P w H' h'' := fun a o e => by
  refine (ok a o e).stay (fun b u hb q => ?_) (fun _ q => q) fun _ _ q => q
  have hB : ∃ ob, B.get? b = some ob := by
    rcases hb with rfl | hb
    · exact tr _ _ e
    · exact tr _ _ hb
  obtain ⟨ob, eb⟩ := hB
  have := s1 b ob eb
  rw [q] at this
  cases this
  exact s2 b _ eb
theorem Fly.to (f : Fly P w l H H' h h' ea C a0 B) (fl : Heap.FlyingW B l ea (.ref C) a0 h'') (u : h'.UpToSlots h'') : Fly P w l H H' h h'' ea C a0 B where
  fl := fl
  un := by
    refine ⟨fun b o e n hb _ => fl.1 b o (f.kb b o e n hb), fun b o e n hb hx => ?_, f.un.free, fun b o e hx => ?_, f.un.tups, f.un.frzs, f.un.tbls⟩
    · obtain ⟨sl, e1⟩ := f.un.slot b o e n hb hx
      obtain ⟨o2, e2, d⟩ := fr_mem f.fl.2.2.1 hb
      rw [e1] at e2
      cases e2
      obtain ⟨sl2, e3⟩ := u b _ e1 d
      exact ⟨sl2, e3⟩
    · by_cases hb : b ∈ frs l
      · obtain ⟨o2, e2, d⟩ := fr_mem f.fl.2.2.1 hb
        obtain ⟨sl2, e3⟩ := u b _ e2 d
        exact ⟨_, e3⟩
      · obtain ⟨ob, eb⟩ := f.old b o e hb
        exact ⟨ob, fl.1 b ob eb⟩
  hok := hok_B f.hok f.tr f.fl.1 fl.1
  kb := f.kb
  tr := f.tr
  old := f.old
end
def CXU (P : Program) (w : World) : CXT := fun outer H s E e s' => ∃ (ea C : Addr) (a0 : Value) (B : Heap) (H' : Hp), e = .ref ea ∧ s'.os = s.os ∧ AllBare s'.gens ∧ Fly P w outer H H' s.heap s'.heap ea C a0 B ∧ E (.ref C) none H'
theorem frs_cons {env : Env} {l : List Env} {L : Addr} (h : env.frame = some L) : frs (env :: l) = L :: frs l := by
  unfold frs
  rw [List.filterMap_cons, h]
section
variable {X : Cx} {pins : List (Addr × Obj)} {σ : St} {H H' : Hp} {s s' : Shared} {ea C : Addr} {a0 : Value} {B : Heap} {h1 : Heap} {vs : List Value}
/-- a new exception leaves the def: it flies over the callers' frames -/
theorem fly_new (I : Inv X pins σ H s) (hst : X.stack = X.env :: X.outer) (hf : X.env.frame = some X.env.locals) (hex : X.ex = []) (hx : Heap.MadeExcOf s.heap h1 ea (.ref C) vs) {Q : Unit → Shared → Prop} {E : Value → Shared → Prop}
    (hQ : ∀ (h' : Heap) (t : Addr) (B : Heap), Fly X.prog X.w X.outer X.H₀ H X.s₀.heap h' ea C (.ref t) B → Q () { s with heap := h' }) :
    wpAny (model X.prog X.w) X.A (leaving X.env (.ref ea)) Q E { s with heap := h1 } := by
  have hfr : X.A.frames = some (X.env :: X.outer) := by rw [← hst]; exact I.ok.frames
  have hstk := I.stack
  rw [hst] at hstk
  have hin : ∀ env ∈ (X.env :: X.outer), ∀ b, env.frame = some b → b ∈ frs (X.env :: X.outer) := fun env he b hb => List.mem_filterMap.mpr ⟨env, he, hb⟩
  have hB : ∀ b o, s.heap.get? b = some o → b ∉ frs (X.env :: X.outer) → (PySem.W.hideAll s.heap (frs (X.env :: X.outer))).get? b = some o := fun b o e hb => PySem.W.hideAll_get _ e hb
  have ho : ∀ b o, (PySem.W.hideAll s.heap (frs (X.env :: X.outer))).get? b = some o → s.heap.get? b = some o := fun b o e => PySem.W.of_hideAll _ e
  refine wpAny_leaves_madeW (base := PySem.W.hideAll s.heap (frs (X.env :: X.outer))) (h := s.heap) (s := { s with heap := h1 }) hfr hf ho (PySem.W.funFrames_hide hstk hin) hx fun h' t fl _ _ up => ?_
  refine hQ h' t (PySem.W.hideAll s.heap (frs (X.env :: X.outer))) ?_
  have up0 : s.heap.UpToSlots h' := (Heap.UpToSlots.of_keeps hx.keeps).trans up
  have old : ∀ b o, X.s₀.heap.get? b = some o → b ∉ frs X.outer → b ∉ frs (X.env :: X.outer) := fun b o e hb hm => by
    rw [frs_cons hf] at hm
    rcases List.mem_cons.mp hm with rfl | hm
    · exact absurd (Nat.lt_of_lt_of_le (Heap.lt_size e) I.ok.above) (Nat.lt_irrefl _)
    · exact hb hm
  have nex : ∀ b : Addr, b ∉ X.ex := fun b z => by rw [hex] at z; cases z
  have tfr : ∀ b o, H b = some o → b ∉ frs (X.env :: X.outer) := fun b o e hm => by
    have := I.stkFree b (by rw [hst]; exact hm)
    rw [e] at this
    cases this
  have tr : ∀ b o, H b = some o → ∃ ob, (PySem.W.hideAll s.heap (frs (X.env :: X.outer))).get? b = some ob := fun b o e => by
    obtain ⟨u, eu⟩ := ObjOk.there (I.hok b o e)
    exact ⟨u, hB b u eu (tfr b o e)⟩
  refine ⟨fl, ⟨fun b o e n hb _ => ?_, fun b o e n hb _ => ?_, fun b o e n _ => I.base.free b o e n (nex b), fun b o e _ => ?_, I.base.tups, I.base.frzs, I.base.tbls⟩, hok_B I.hok tr ho fl.1, fun b o e n hb => ?_, tr, fun b o e hb => ?_⟩
  · exact fl.1 b o (hB b o (I.base.keep b o e n hb (nex b)) (old b o e hb))
  · obtain ⟨sl, e1⟩ := I.base.slot b o e n hb (nex b)
    obtain ⟨o2, e2, d⟩ := fr_mem hstk (by rw [frs_cons hf]; exact List.mem_cons_of_mem _ hb)
    rw [e1] at e2
    cases e2
    obtain ⟨sl2, e3⟩ := up0 b _ e1 d
    exact ⟨sl2, e3⟩
  · obtain ⟨o1, e1⟩ := I.base.there b o e (nex b)
    by_cases hb : b ∈ frs X.outer
    · obtain ⟨o2, e2, d⟩ := fr_mem hstk (by rw [frs_cons hf]; exact List.mem_cons_of_mem _ hb)
      obtain ⟨sl2, e3⟩ := up0 b _ e2 d
      exact ⟨_, e3⟩
    · exact ⟨o1, fl.1 b o1 (hB b o1 e1 (old b o e hb))⟩
  · exact hB b o (I.base.keep b o e n hb (nex b)) (old b o e hb)
  · obtain ⟨o1, e1⟩ := I.base.there b o e (nex b)
    exact ⟨o1, hB b o1 e1 (old b o e hb)⟩
/-- an exception of a callee leaves this def too -/
theorem fly_on (I : Inv X pins σ H s) (hst : X.stack = X.env :: X.outer) (hf : X.env.frame = some X.env.locals) (hex : X.ex = []) (f : Fly X.prog X.w X.stack H H' s.heap s'.heap ea C a0 B) {Q : Unit → Shared → Prop} {E : Value → Shared → Prop}
    (hQ : ∀ h' : Heap, Fly X.prog X.w X.outer X.H₀ H' X.s₀.heap h' ea C a0 B → Q () { s' with heap := h' }) : wpAny (model X.prog X.w) X.A (leaving X.env (.ref ea)) Q E s' := by
  have hfr : X.A.frames = some (X.env :: X.outer) := by rw [← hst]; exact I.ok.frames
  rw [hst] at f
  refine wpAny_leaves_onW hfr hf f.fl fun h' fl up => hQ h' ?_
  have old : ∀ b o, X.s₀.heap.get? b = some o → b ∉ frs X.outer → b ∉ frs (X.env :: X.outer) := fun b o e hb hm => by
    rw [frs_cons hf] at hm
    rcases List.mem_cons.mp hm with rfl | hm
    · exact absurd (Nat.lt_of_lt_of_le (Heap.lt_size e) I.ok.above) (Nat.lt_irrefl _)
    · exact hb hm
  have nex : ∀ b : Addr, b ∉ X.ex := fun b z => by rw [hex] at z; cases z
  have up_ : ∀ b, b ∈ frs X.outer → b ∈ frs (X.env :: X.outer) := fun b hb => by rw [frs_cons hf]; exact List.mem_cons_of_mem _ hb
  have kb : ∀ b o, X.s₀.heap.get? b = some o → X.H₀ b = none → b ∉ frs X.outer → B.get? b = some o := fun b o e n hb =>
    f.kb b o (I.base.keep b o e n hb (nex b)) (I.base.free b o e n (nex b)) (old b o e hb)
  have ol : ∀ b o, X.s₀.heap.get? b = some o → b ∉ frs X.outer → ∃ ob, B.get? b = some ob := fun b o e hb => by
    obtain ⟨o1, e1⟩ := I.base.there b o e (nex b)
    exact f.old b o1 e1 (old b o e hb)
  refine ⟨fl, ⟨fun b o e n hb _ => fl.1 b o (kb b o e n hb), fun b o e n hb _ => ?_, fun b o e n _ => ?_, fun b o e _ => ?_, fun b xs e => f.un.tups b xs (I.base.tups b xs e), fun b o u e => f.un.frzs b o u (I.base.frzs b o u e), fun b ps e => ?_⟩, hok_B f.hok f.tr f.fl.1 fl.1, kb, f.tr, ol⟩
  · obtain ⟨sl, e1⟩ := I.base.slot b o e n hb (nex b)
    obtain ⟨sl1, e2⟩ := f.un.slot b _ e1 (I.base.free b o e n (nex b)) (up_ b hb) (by simp)
    obtain ⟨o3, e3, d⟩ := fr_mem f.fl.2.2.1 (up_ b hb)
    rw [e2] at e3
    cases e3
    obtain ⟨sl2, e4⟩ := up b _ e2 d
    exact ⟨sl2, e4⟩
  · obtain ⟨o1, e1⟩ := I.base.there b o e (nex b)
    exact f.un.free b o1 e1 (I.base.free b o e n (nex b)) (by simp)
  · by_cases hb : b ∈ frs X.outer
    · obtain ⟨o3, e3, d⟩ := fr_mem f.fl.2.2.1 (up_ b hb)
      obtain ⟨sl2, e4⟩ := up b _ e3 d
      exact ⟨_, e4⟩
    · obtain ⟨ob, eb⟩ := ol b o e hb
      exact ⟨ob, fl.1 b ob eb⟩
  · obtain ⟨m1, e1⟩ := I.base.tbls b ps e
    obtain ⟨m2, e2⟩ := f.un.tbls b _ e1
    exact ⟨m1 ++ m2, by rw [e2, Array.append_assoc]⟩
/-- behind the exception the def's own state stands -/
theorem Fly.inv (I : Inv X pins σ H s) (f : Fly X.prog X.w X.stack H H' s.heap s'.heap ea C a0 B) (ho : s'.os = s.os) (hg : AllBare s'.gens) : Inv X pins σ H' s' :=
  I.call' (ch := []) ho f.un f.hok hg (fun b z => absurd z (by simp))
end
/-! ### the text's own exception classes -/
structure ExC (K : PySem.W.Frag) (x : Str) (C : Addr) : Prop where
  ns : PySem.W.nsIn K mainGlobals x = some (some (.ref C))
  ex : PySem.W.excIn K C [.type "ValueError", .type "Exception", .type "BaseException", .type "object"] "ValueError.__new__" = true
theorem top_read {K : PySem.W.Frag} {mg : Str → Option Value} {base : Heap} (M : Mod K mg base) (p : Program) : ∃ loose mb, PySem.W.TopRead p loose mg mb base := by
  obtain ⟨o, es, ep, ho, hd, hk, hm⟩ := M.glob
  obtain ⟨mb, h1, h2⟩ := M.blt
  refine ⟨es.toList.filterMap fun e => match e.key with | .str x _ => some x | _ => none, mb, M.glob, h1, M.nolimit, h2, fun x _ hx _ _ _ => ?_⟩
  rw [← hm x]
  unfold nsFind findBy
  cases q : es.find? (fun e => e.key.isStr x) with
  | none => rfl
  | some e =>
    exfalso
    have h3 := Array.find?_some q
    have h4 := Array.mem_of_find?_eq_some q
    apply hx
    rw [List.mem_filterMap]
    refine ⟨e, by simpa using h4, ?_⟩
    obtain ⟨kh, key, val⟩ := e
    cases key with
    | str y t =>
      have h5 : (Value.str y t).isStr x = true := h3
      have h6 : y = x := by simpa [Value.isStr] using h5
      show some y = some x
      rw [h6]
    | _ => cases h3

/-! ### a body that may raise -/
structure ExOk (X : Cx) (U : Str → Prop) : Prop where
  raise : ∀ (pins : List (Addr × Obj)) (σ : St) (H : Hp) (s : Shared) (h1 : Heap) (ea C : Addr) (x : Str) (vs : List Value), Inv X pins σ H s → Same X.H₀ H → X.mg x = some (.ref C) → U x → Heap.MadeExcOf s.heap h1 ea (.ref C) vs → X.xe (.ref ea) { s with heap := h1 }
  pass : ∀ (pins : List (Addr × Obj)) (σ : St) (H : Hp) (s : Shared) (e : Value) (s' : Shared), Inv X pins σ H s → CXU X.prog X.w X.stack H s (fun cls _ H' => ∃ x, X.mg x = some cls ∧ U x ∧ Same X.H₀ H') e s' → X.xe e s'
theorem exok_cx {P : Program} {w : World} {K : PySem.W.Frag} {mg : Str → Option Value} {base : Heap} {N : List Str} {qual : Str} {scope : Scope} {f : Addr} {cd : Value} {A : Around} {outer : List Env} {s : Shared} {H : Hp} {E : XK} {U : Str → Prop}
    (hE : ∀ x C H', Same H H' → mg x = some (.ref C) → U x → E (.ref C) none H') : ExOk (cxOf (CXU P w) P w K mg base N qual scope f cd A outer s H E) U where
  raise := fun pins σ H1 s1 h1 ea C x vs I hs hm hu hx => fly_new I rfl rfl rfl hx fun h' t B fl => ⟨ea, C, .ref t, B, H1, rfl, I.os, I.bare, fl, hE x C H1 hs hm hu⟩
  pass := fun pins σ H1 s1 e s' I h => by
    obtain ⟨ea, C, a0, B, H', rfl, ho, hg, fl, x, hm, hu, hs⟩ := h
    exact fly_on I rfl rfl rfl fl fun h' fl' => ⟨ea, C, a0, B, H', rfl, ho.trans I.os, hg, fl', hE x C H' hs hm hu⟩
section
variable {X : Cx} {U : Str → Prop} {e : Expr} {es : List Expr} {te : TE3} {tr : TA3} {pos : Pos}
def sRaise (U : Str → Prop) (x : Str) (te : TE3) : TS3 := fun _ τ => te τ fun _ => U x
theorem s_raise {x : Str} {C : Addr} {np cpos : Pos} (xo : ExOk X U) (hc : X.calm = true) (he : PE3 X e te) (hg : Gl X x) (ec : ExC X.K x C) (hm : X.mg x = some (.ref C))
    (hs : starEach [e] X.env = (false, eval e X.env) :: starEach [] X.env := by exact starE rfl) (hplain : (backTo cpos (starEach [e] X.env)).any (·.1) = false := by exact plainE rfl) (hd : (x == ("__debug__" : Str)) = false := by decide) :
    PS3 X (.Raise (some (.Call (.Name x np) [e] [] cpos)) none pos) (sRaise U x te) := by
  refine ⟨?_⟩
  intro pins s σ H D2 I h
  obtain ⟨B, z, τ, D3, r, ht, c⟩ := h
  obtain ⟨loose, mb, T⟩ := top_read I.mod X.prog
  obtain ⟨tl, N, nm, q, bs, hdct, sn, sub, ab, col, dd, k0, k1, k2, k3, k5, mN, hC, hN, hni, TL⟩ := (PySem.W.own_of_in I.mod.kin T ec.ns ec.ex).obj
  refine wpAny_Raise_call_subT (C := C) (nm := nm) (q := q) (N := N) (bs := bs) (bm := tl) (hdct := hdct) (sn := sn) (sub := sub) (ab := ab) (col := col) (dd := dd) (k0 := k0) (k1 := k1) (k2 := k2) (k3 := k3) (k5 := k5)
    PySem.F.excBase_ValueError (mN := mN) (TL.hasType PySem.F.excBase_ValueError.hasBase) (I.ok.hd hc) hplain hni (ld_glob I hg hm ⟨rfl, ?_⟩ hd)
  have pa := (pa_cons he.out pa_nil hs) cpos pins s σ H (fun vs H1 => vs.length = 1 ∧ Same X.H₀ H1 ∧ U x) I ⟨B, _, τ, _, r, ht, fun s' v H' e' i' f' h' => ⟨rfl, r.all.trans e'.hh, h'⟩⟩
  rw [hs] at pa ⊢
  refine Calls.evalArgs_plain (thn pa fun us s2 ⟨vs, H2, I2, rv, hl, hsame, hu⟩ => ⟨rfl, ?_, I2.bk _ _ hC, hN.keeps I2.bk, TL.keeps I2.bk, fun h' ea hx => ?_⟩)
  · have := rv.length
    show us.length ≤ sizeLine
    have z : us.length = 1 := by omega
    rw [z]
    decide
  · exact xo.raise pins σ H2 s2 h' ea C x us I2 hsame hm hu hx
def vCallU (U : Str → Prop) (sp : Sp3) (t : TA3) : TE3 := fun τ R => t τ fun ss => sp ss R U
theorem v_callU {k : Nat} {x : Str} {ps : List Str} {sp : Sp3} {p : Pos} (xo : ExOk X U) (c : Cal X.prog X.w X.K X.mg X.base (CXU X.prog X.w) k x ps sp) (hr : Room k X.A) (hg : Gl X x) (ha : PA3 X (e :: es) tr)
    (hdb : (x == ("__debug__" : Str)) = false := by decide) (he : starEach (e :: es) X.env = (false, eval e X.env) :: starEach es X.env := by exact starE rfl) (hpl : (backTo pos (starEach es X.env)).any (·.1) = false := by exact plainE rfl) :
    PE3 X (.Call (.Name x p) (e :: es) [] pos) (vCallU U sp tr) := by
  refine ⟨?_⟩
  obtain ⟨f, fd, F, hm, hk, hb⟩ := c.ex
  refine pe_imp (pe_call (E := fun cls _ H' => ∃ y, X.mg y = some cls ∧ U y ∧ Same X.H₀ H') F hr hg hm hk hb .nil (fun pins σ H s e s' I h => xo.pass pins σ H s e s' I h) ha.out hdb he hpl) fun σ H Q ⟨B, z, τ, R, r, ht, q⟩ => ⟨B, _, τ, _, r, ht, fun ss vs H1 e1 i1 h1 => ?_⟩
  show liftSp X.K X.mg sp (vs ++ []) H1.h Q _
  rw [List.append_nil]
  exact ⟨H1.z, ss, R, U, e1.sub, i1, h1, fun s v H2 e2 i2 f2 h2 => q s v H2 (e1.trans e2) i2 (fr_up e1 f2) h2, fun y C H2 e2 hy hu => ⟨y, hy, hu, r.all.trans (e1.hh.trans e2)⟩⟩
end
section
variable {P : Program} {w : World} {K : PySem.W.Frag} {mg : Str → Option Value} {base : Heap}
theorem fnU {x qual : Str} {st : Stmt} {f : Addr} {fd : FuncData} {N ps : List Str} {k : Nat} {sp : Sp3} (F : Fun K x qual st f fd) (Sc : FnScope N ps (defScope st)) (len : ∀ ss R U, sp ss R U → ss.length = ps.length)
    (hbody : ∀ (cdv : Value) (A : Around) (outer : List Env) (s : Shared) (H : Hp) (E : XK) (ss : List S) (R : S → Prop) (U : Str → Prop), Room k (A.deeper (envOfC qual (defScope st) s.heap.objs.size f cdv)) → sp ss R U →
      ExOk (cxOf (CXU P w) P w K mg base N qual (defScope st) f cdv A outer s H E) U →
      ∃ t, PSs3 (cxOf (CXU P w) P w K mg base N qual (defScope st) f cdv A outer s H E) (defBody st) t ∧ t { nx := fun _ => R (.d .non), rt := R } (start3 N ss)) : FnOk P w K mg base (CXU P w) (k + 1) f fd ps (liftSp K mg sp) := by
  obtain ⟨oc, od, kV, doc, pm, an, cdv, ct, osl, rfl, lk, hcd⟩ := F.ex
  refine fn_of lk hcd Sc (fun vs H Q E hh => by obtain ⟨z, ss, R, U, hz, ha, h3, _⟩ := hh; exact ha.1.trans (len ss R U h3)) fun A outer s H vs Q E hr hh9 => ?_
  obtain ⟨z, ss, R, U, hz, ha, h3, q, qe⟩ := hh9
  obtain ⟨t, ht, hq⟩ := hbody cdv A outer s H E ss R U hr h3 (exok_cx qe)
  exact ⟨_, ht.out, ⟨H, z⟩, z, start3 N ss, _, rep_start ha hz (Same.refl H), hq, ⟨fun τ σ p r h => q (.d .non) _ p r.ext Is.non fr_d h, fun _ _ _ _ z => z.elim, fun _ _ _ _ z => z.elim, fun s v p e i f h => q s v p e i f h⟩⟩
theorem FnOk.anyCX {CX : CXT} {k : Nat} {f : Addr} {fd : FuncData} {ps : List Str} {sp : Sp} (F : FnOk P w K mg base CX0 k f fd ps sp) : FnOk P w K mg base CX k f fd ps sp :=
  ⟨F.len, fun A outer s H args us vs Q E hr h0 hb hv hs => codeAny_mono (F.run A outer s H args us vs Q E hr h0 hb hv hs) fun r s' h => by
    cases r with
    | error e => exact (show False from h).elim
    | ok fl => cases fl <;> exact h⟩
end
/-! ### except CLASS -/
section
variable {K : PySem.W.Frag} {M : Model} {A : Around} {E : Value → Shared → Prop} {s : Shared}
structure HnC (K : PySem.W.Frag) (C : Addr) : Prop where
  nt : PySem.W.instIn K (.ref C) (.type "tuple") = some false
  ty : (PySem.W.clsIn K C).isSome = true
  sb : PySem.W.mroIn K C (.type "BaseException") = some true
theorem looks_isType {h : Heap} {C : Addr} (X : K.In h) (hc : (PySem.W.clsIn K C).isSome = true) : PySem.W.Looks M h (isType (.ref C)) true := by
  obtain ⟨cd, e⟩ := Option.isSome_iff_exists.mp hc
  unfold PySem.W.clsIn at e
  split at e
  · rename_i c' d' cd' sl' ho
    intro A' Q' E' s' k q
    unfold isType loadHead
    exact wpAny_bind (wpAny_loadPart (k _ _ (X _ _ ho)) (wpAny_pure q))
  · cases e
theorem exc_match {ea C Cx : Addr} {oe : Obj} {b : Bool} {Q : Bool → Shared → Prop} (X : K.In s.heap) (hn : HnC K Cx) (he : s.heap.get? ea = some oe) (hcls : oe.cls = .ref C) (hb : PySem.W.mroIn K C (.ref Cx) = some b) (q : Q b s) :
    wpAny M A (excMatches (.ref ea) (.ref Cx)) Q E s := by
  have L1 := PySem.W.looks_instIn (M := M) X hn.nt
  have L2 := looks_isType (M := M) X hn.ty
  have L3 := PySem.W.looks_mroIn (M := M) X hn.sb
  have L4 := PySem.W.looks_mroIn (M := M) X hb
  have L5 : PySem.W.Looks M s.heap (typeOf (.ref ea)) (.ref C) := hcls ▸ (PySem.W.Looks.ld he).andThen .now
  unfold excMatches isExcClass
  refine wpAny_bind (L1.at ?_)
  simp only [Bool.false_eq_true, if_false, pure_bind, List.forIn_cons, List.forIn_nil, bind_assoc]
  refine wpAny_bind (L2.at ?_)
  simp only [if_true]
  refine wpAny_bind (L3.at ?_)
  simp only [Bool.not_true, Bool.false_eq_true, if_false, pure_bind]
  refine wpAny_bind (L5.at ?_)
  refine wpAny_bind (L4.at ?_)
  cases b with
  | true => simp only [if_true, pure_bind]; exact wpAny_pure q
  | false => simp only [Bool.false_eq_true, if_false, pure_bind]; exact wpAny_pure q
end
/-! ### the context of an except suite -/
def hnd (X : Cx) (ea : Addr) : Cx := { X with A := X.A.mark (some (.ref ea)), calm := false }
section
variable {X : Cx} {pins : List (Addr × Obj)} {σ : St} {H H' : Hp} {s s' : Shared} {ea C : Addr} {a0 : Value} {B : Heap}
theorem inv_hnd (I : Inv X pins σ H s) (ea : Addr) : Inv (hnd X ea) pins σ H s :=
  ⟨⟨I.ok.mod, I.ok.kind, I.ok.glob, I.ok.blt, I.ok.above, I.ok.inj, I.ok.has, I.ok.cab, (fun z => by cases z), I.ok.frames, I.ok.stk, I.ok.exf, I.ok.bs, I.ok.bsz, I.ok.noex, I.ok.exfs, I.ok.funs, I.ok.frf, I.ok.tb⟩, I.os, I.bare, I.base, I.loc, I.cell, I.free, I.freeC, I.pin, I.hok, I.len⟩
theorem inv_unhnd (hd : X.calm = true → X.A.handled = none) (hfm : X.A.frames = some X.stack) (I : Inv (hnd X ea) pins σ H s) : Inv X pins σ H s :=
  ⟨⟨I.ok.mod, I.ok.kind, I.ok.glob, I.ok.blt, I.ok.above, I.ok.inj, I.ok.has, I.ok.cab, hd, hfm, I.ok.stk, I.ok.exf, I.ok.bs, I.ok.bsz, I.ok.noex, I.ok.exfs, I.ok.funs, I.ok.frf, I.ok.tb⟩, I.os, I.bare, I.base, I.loc, I.cell, I.free, I.freeC, I.pin, I.hok, I.len⟩
theorem sp_unhnd {D2 : Ends} {f : Flow} (hd : X.calm = true → X.A.handled = none) (hfm : X.A.frames = some X.stack) (h : SP (hnd X ea) pins D2 f s) : SP X pins D2 f s := by
  cases f with
  | next => obtain ⟨σ', H', I', q⟩ := h; exact ⟨σ', H', inv_unhnd hd hfm I', q⟩
  | brk => obtain ⟨σ', H', I', q⟩ := h; exact ⟨σ', H', inv_unhnd hd hfm I', q⟩
  | cont => obtain ⟨σ', H', I', q⟩ := h; exact ⟨σ', H', inv_unhnd hd hfm I', q⟩
  | ret u => obtain ⟨v, σ', H', I', q⟩ := h; exact ⟨v, σ', H', inv_unhnd hd hfm I', q⟩
theorem rep_hnd {B p : HZ} {τ : Tau} (r : Rep X B τ σ p) (ea : Addr) : Rep (hnd X ea) B τ σ p := ⟨r.len, r.ext, r.val, r.own, r.sep, r.top⟩
theorem rep_unhnd {B p : HZ} {τ : Tau} (r : Rep (hnd X ea) B τ σ p) : Rep X B τ σ p := ⟨r.len, r.ext, r.val, r.own, r.sep, r.top⟩
theorem cont_hnd {B : HZ} {D3 : Ends3} {D2 : Ends} (c : Cont X B D3 D2) (ea : Addr) : Cont (hnd X ea) B D3 D2 := ⟨fun τ σ H r => c.nx τ σ H (rep_unhnd r), fun τ σ H r => c.bk τ σ H (rep_unhnd r), fun τ σ H r => c.ct τ σ H (rep_unhnd r), c.rt⟩
/-- an exception comes to an except clause that takes it -/
theorem catch_ {E : Value → Shared → Prop} {Q : Flow → Shared → Prop} {x : Str} {Cx : Addr} {np hp : Pos} {b0 : Stmt} {suite : List Stmt} {rest : List ExceptHandler} (I : Inv X pins σ H s) (hst : X.stack = X.env :: X.outer) (hf : X.env.frame = some X.env.locals)
    (fl : Fly X.prog X.w X.stack H H' s.heap s'.heap ea C a0 B) (ho : s'.os = s.os) (hg : AllBare s'.gens) (hgx : Gl X x) (hm : X.mg x = some (.ref Cx)) (hn : HnC X.K Cx) (hb : PySem.W.mroIn X.K C (.ref Cx) = some true) (hd : (x == ("__debug__" : Str)) = false)
    (go : ∀ s2 : Shared, Inv X pins σ H' s2 → wpAny (model X.prog X.w) (X.A.mark (some (.ref ea))) (execs (b0 :: suite) X.env) Q (fun _ _ => False) s2) :
    wpAny (model X.prog X.w) X.A (noteFrame (.ref ea) X.env) (fun _ s₂ => wpAny (model X.prog X.w) X.A (setFlight (.ref ea) none) (fun _ s₃ =>
      wpAny (model X.prog X.w) X.A (handleBy (.ref ea) X.env (.ExceptHandler (some (.Name x np)) none (b0 :: suite) hp :: rest)) Q E s₃) E s₂) E s' := by
  have hfr : X.A.frames = some (X.env :: X.outer) := by rw [← hst]; exact I.ok.frames
  have fl0 := fl.fl
  rw [hst] at fl0
  refine wpAny_looks_onW hfr hf fl0 fun h4 held up4 => ?_
  refine wpAny_landsW held fun h5 fl5 up5 => ?_
  rw [← hst] at fl5
  have f5 := fl.to fl5 (up4.trans up5)
  have I5 : Inv X pins σ H' { s' with heap := h5 } := Fly.inv (s' := { s' with heap := h5 }) I f5 ho hg
  refine wpAny_handleBy_cons (codeAny_handlers_test (ld_glob (X := hnd X ea) (inv_hnd I5 ea) hgx hm ?_ hd)) (by intro q; cases q)
  obtain ⟨oe, he, hc⟩ := f5.fl.there
  refine exc_match (s := { s' with heap := h5 }) I5.kIn hn he hc hb ?_
  refine codeAny_handlers_suite ?_
  refine lands_againW (s := { s' with heap := h5 }) f5.fl fun h6 fl6 up6 => ?_
  have f6 := f5.to fl6 up6
  have I6 : Inv X pins σ H' { s' with heap := h6 } := Fly.inv (s' := { s' with heap := h6 }) I f6 ho hg
  exact wpAny_mono (go _ I6) (fun f s2 h => h) fun _ _ z => z.elim
/-- a call at one state, with what is wanted of its exception there -/
theorem call_at {CX : CXT} {k : Nat} {f : Addr} {fd : FuncData} {ps : List Str} {sp : Sp} {Ex : XK} {EE : Value → Shared → Prop} {x : Str} {p pos : Pos} {e : Expr} {es : List Expr} {t : TA} {Q : VK} (F : FnOk X.prog X.w X.K X.mg X.base CX k f fd ps sp) (hr : Room k X.A) (hg : Gl X x) (hm : X.mg x = some (.ref f))
    (hk : PySem.W.keepIn X.K (.ref f) = true) (hb : L2.Binds X.K fd ps []) (ha : PA X (e :: es) t) (hno : ∀ e s, X.xe e s → EE e s) (I : Inv X pins σ H s)
    (hx : ∀ (H1 : Hp) (s1 : Shared) (e : Value) (s' : Shared), Inv X pins σ H1 s1 → CX X.stack H1 s1 Ex e s' → EE e s') (h : t σ H fun vs H1 => sp vs H1 Q Ex)
    (hdb : (x == ("__debug__" : Str)) = false) (he : starEach (e :: es) X.env = (false, eval e X.env) :: starEach es X.env) (hpl : (backTo pos (starEach es X.env)).any (·.1) = false) :
    wpAny (model X.prog X.w) X.A (eval (.Call (.Name x p) (e :: es) [] pos) X.env) (EP X pins σ Q) EE s := by
  refine wpAny_Call_Name_kw (ld_glob I hg hm ?_ hdb)
  refine PySem.W.callWith_K (h₀ := X.base) I.ok.mod.kin hk (wpAny_mono (ha pos pins s σ H _ I h) (fun us s1 ⟨vs, H1, I1, r, q⟩ => ⟨I1.kIn, ?_⟩) hno) he hpl
  have hl : (us ++ ([] : List Value)).length = ps.length := by rw [List.append_nil, ← r.length]; exact F.len _ _ _ _ q
  have bb := hb s1 us I1.kIn hl
  rw [List.append_nil] at bb
  refine wpAny_call (codeAny_mono (F.run X.A X.stack s1 H1 ⟨us, []⟩ us vs Q Ex hr I1.env0 bb r q) fun r s' hq => ?_)
  cases r with
  | error e => exact hx H1 s1 e s' I1 hq
  | ok fl =>
    cases fl with
    | ret u => exact I1.after hq
    | next => exact False.elim hq
    | brk => exact False.elim hq
    | cont => exact False.elim hq
end
section
variable {X : Cx} {e : Expr} {es : List Expr} {tr : TA3} {th : TS3}
/-- try: NAME = f(..) except CLASS: .. -/
def sTryA (i : Nat) (sp : Sp3) (ok : Str → Prop) (tr : TA3) (th : TS3) : TS3 := fun D3 τ => tr τ fun ss => sp ss (fun s => match s with
  | .r _ => False
  | .d x => D3.nx (τ.set i (some (.d x)))
  | .l xs => D3.nx (τ.set i (some (.l xs)))) (fun y => ok y ∧ th D3 τ)
theorem s_tryA {k i : Nat} {x f cx : Str} {ps : List Str} {sp : Sp3} {Cx : Addr} {ok : Str → Prop} {px pf pc pa np hp pt : Pos} {b0 : Stmt} {suite : List Stmt} (hst : X.stack = X.env :: X.outer) (hf : X.env.frame = some X.env.locals) (hno : ∀ e s, ¬ X.xe e s)
    (c : Cal X.prog X.w X.K X.mg X.base (CXU X.prog X.w) k f ps sp) (hr : Room k X.A) (hg : Gl X f) (ha : PA3 X (e :: es) tr) (hN : X.N.Nodup) (hi : X.N[i]? = some x) (hx : Loc X.env.scope x)
    (hgx : Gl X cx) (hm : X.mg cx = some (.ref Cx)) (hn : HnC X.K Cx) (hok : ∀ y C, ok y → X.mg y = some (.ref C) → PySem.W.mroIn X.K C (.ref Cx) = some true) (hh : ∀ ea, PSs3 (hnd X ea) (b0 :: suite) th)
    (hdb : (f == ("__debug__" : Str)) = false := by decide) (hd : (cx == ("__debug__" : Str)) = false := by decide) (he : starEach (e :: es) X.env = (false, eval e X.env) :: starEach es X.env := by exact starE rfl) (hpl : (backTo pc (starEach es X.env)).any (·.1) = false := by exact plainE rfl)
    (hs : swapsWith (.Call (.Name f pf) (e :: es) [] pc) (some (.Name x px)) pa.line X.env = pure false := by rfl) (hfn : X.fn x = true ∨ X.env.scope.names.lookup x = some .local := by first | exact .inl rfl | exact .inr rfl | assumption) :
    PS3 X (.Try [.Assign [.Name x px] (.Call (.Name f pf) (e :: es) [] pc) pa] [.ExceptHandler (some (.Name cx np)) none (b0 :: suite) hp] [] [] pt) (sTryA i sp ok tr th) := by
  refine ⟨?_⟩
  obtain ⟨fa, fd, F, hmf, hk, hb⟩ := c.ex
  intro pins s σ H D2 I h
  obtain ⟨B, z, τ, D3, r, ht, ct⟩ := h
  refine wpAny_Try_except (wpAny_execs_cons (wpAny_Assign_Name (thn (call_at (Ex := fun cls _ H' => ∃ y, X.mg y = some cls ∧ ok y ∧ th D3 τ ∧ Same H H') (Q := fun v H' => D2.nx (σ.set i (some v)) H') F hr hg hmf hk hb ha.out (fun e s z => (hno e s z).elim) I ?hx ?h hdb he hpl) fun v s1 ⟨y, H1, I1, r1, q1⟩ => ?nx) hs))
  case hx =>
    intro H1 s1 e' s' I1 hcx
    obtain ⟨ea, C, a0, B', H', rfl, ho, hbr, fl, y, hy, hoky, hth, hsame⟩ := hcx
    refine catch_ I1 hst hf fl ho hbr hgx hm hn (hok y C hoky hy) hd fun s2 I2 => ?_
    exact wpAny_mono ((hh ea).out pins s2 σ H' D2 (inv_hnd I2 ea) ⟨B, _, τ, D3, rep_hnd (r.mono (Ext.grow r.ext.sub hsame)) ea, hth, cont_hnd ct ea⟩) (fun f s3 h3 => sp_unhnd I.ok.hd I.ok.frames h3) fun e3 s3 z => hno e3 s3 z
  case h =>
    refine ⟨B, _, τ, _, r, ht, fun ss vs H1 e1 i1 h1 => ⟨H1.z, ss, _, _, e1.sub, i1, h1, fun s v H2 e2 i2 f2 h2 => ?_, fun y C H2 e2 hy hu => ⟨y, hy, hu.1, hu.2, e1.hh.trans e2⟩⟩⟩
    cases s with
    | r _ => exact h2.elim
    | d z => exact ct.nx _ _ _ (r.set (e1.trans e2) i2 (fr_up e1 f2) rfl) h2
    | l zs => exact ct.nx _ _ _ (r.set (e1.trans e2) i2 (fr_up e1 f2) rfl) h2
  case nx =>
    refine store_ok I1 hN hi hx r1 (fun s2 I2 => ?_) hfn
    exact wpAny_execs_nil (wpAny_execs_nil ⟨_, H1, I2, q1⟩)
end
end L3
namespace L3
open PySem PySem.Spec PyProof.Rows L2
theorem exok_no {X : Cx} : ExOk X NoU where
  raise := fun _ _ _ _ _ _ _ _ _ _ _ _ hu => hu.elim
  pass := fun _ _ _ _ _ _ _ h => by
    obtain ⟨_, _, _, _, _, _, _, _, _, _, _, hu, _⟩ := h
    exact hu.elim
/-! ### a caught exception, and isinstance of it -/
section
variable {prog : Program} {w : World} {A : Around} {E : Value → Shared → Prop} {s : Shared} {K : PySem.W.Frag} {x D : Addr}
structure ExI (K : PySem.W.Frag) (D : Addr) : Prop where
  ga : PySem.W.findIn K (.ref D) "__getattribute__" = some (some (.builtin "BaseException.__getattribute__"))
  gt : PySem.W.findIn K (.ref D) "__getattr__" = some none
  cl : (PySem.W.clsIn K D).isSome = true
  fc : PySem.W.findIn K (.ref D) "__class__" = some (some (.builtin "object.__class__"))
  sp : PySem.W.specialIn K (.builtin "object.__class__") "__get__" = some (some (.builtin "getset_descriptor.__get__"))
  tk : PySem.W.takesIn K (.builtin "object.__class__") = some true
  mo : PySem.W.mroIn K D (.type "object") = some true
  mb : PySem.W.mroIn K D (.type "BaseException") = some true
def At (h : Heap) (x C : Addr) : Prop := ∃ ox, h.get? x = some ox ∧ ox.cls = .ref C
theorem At.type {M : Model} {h : Heap} (I : At h x D) : PySem.W.Looks M h (typeOf (.ref x)) (.ref D) := by
  obtain ⟨ox, h1, h2⟩ := I
  exact h2 ▸ (PySem.W.Looks.ld h1).andThen .now
open PySem.W Builtin Builtin.ObjectAttr Builtin.Getset_descriptor in
theorem class_get0 {tp : Value} {R : Result → Shared → Prop} (X : K.In s.heap) (I : At s.heap x D) (hm : PySem.W.mroIn K D (.type "object") = some true)
    (h : R (.ok (.ret (.ref D))) s) : codeAny (model prog w) A (.call (.builtin "getset_descriptor.__get__") ⟨[.builtin "object.__class__", .ref x, tp], []⟩) R s := by
  obtain ⟨hh, g, dr, t, os⟩ := s
  have L0 := I.type (M := model prog w)
  have L1 := PySem.W.looks_mroIn (M := model prog w) X hm
  refine codeAny_call_builtin KF.slot_gs.plain KF.entry_gs (KF.slot_gs.check _ _ _ _ _ _ _ _ KF.type_class (KF.args_gs _ _ _) ?_)
  unfold Builtin.«getset_descriptor.__get__» descrGet
  rw [dga_obj]
  refine wpAny_bind (wpAny_pure ?_)
  unfold descrGetter descrCheckInstance descrNameAndClass isInstance
  simp only [KF.owner_class]
  repeat lk
  refine ⟨Code.quiet_builtin _ (by decide +kernel), codeAny_builtin KF.entry_class ?_⟩
  unfold Builtin.«object.__class__» shownTypeOf
  repeat lk
  exact h
open PySem.W in
theorem exc_entry {tk : Tok} {Q : Fin → Shared → Prop} (i : ExI K D) (X : K.In s.heap) (I : At s.heap x D) (hq : Q (.done (.ret (.ref D))) s) :
    wpAny (model prog w) A (Builtin.«object.__getattribute__» ⟨[.ref x, .str "__class__" tk], []⟩) Q E s := by
  obtain ⟨hh, g, d, t, os⟩ := s
  have L0 := I.type (M := model prog w)
  have M1 := PySem.W.looks_findIn (M := model prog w) X i.fc
  have M2 : PySem.W.Looks (model prog w) hh (Builtin.ObjectAttr.getOf (some (.builtin "object.__class__"))) (some (.builtin "getset_descriptor.__get__")) := PySem.W.looks_specialIn X i.sp
  have M3 := PySem.W.looks_takesIn (M := model prog w) X i.tk
  have L1 : PySem.W.Looks (model prog w) hh (Builtin.ObjectAttr.find (.ref x) (.ref D) "__class__") (.bind (.builtin "getset_descriptor.__get__") (.builtin "object.__class__")) :=
    M1.andThen (M2.andThen ((show PySem.W.Looks (model prog w) hh (Builtin.ObjectAttr.dataDescriptor? (some (.builtin "object.__class__")) (some (.builtin "getset_descriptor.__get__"))) (some (_, _)) from M3.andThen .now).andThen (PySem.W.Looks.tag .now)))
  refine wpAny_bind (wpAny_pure (wpAny_bind (wpAny_pure (wpAny_bind (L0.at (wpAny_bind (L1.at ?_)))))))
  show wpAny _ _ (holding [.builtin "object.__class__"] (call (.builtin "getset_descriptor.__get__") [.builtin "object.__class__", .ref x, .ref D]) >>= ret) _ _ _
  refine wpAny_bind (wpAny_holding (wpAny_call (class_get0 X I i.mo ?_)))
  exact wpAny_pure hq
theorem ga_bind (v : Value) : bindSpecial (.builtin "BaseException.__getattribute__") v = pure (.builtin "BaseException.__getattribute__", [v]) := PySem.F.excAttr_ValueError.ga.bind v
theorem exc_class {Q : Option Value → Shared → Prop} (i : ExI K D) (X : K.In s.heap) (I : At s.heap x D) (h : Q (some (.ref D)) { s with toks := s.toks + 1 }) : wpAny (model prog w) A (getAttr? (.ref x) "__class__") Q E s := by
  obtain ⟨hh, g, d, t, os⟩ := s
  have L0 := I.type (M := model prog w)
  have L1 := PySem.W.looks_findIn (M := model prog w) X i.ga
  have L2 := PySem.W.looks_findIn (M := model prog w) X i.gt
  have L3 := PySem.W.looks_mroIn (M := model prog w) X i.mb
  have hx2 : (Value.builtin "BaseException.__getattribute__" == Value.builtin "object.__getattribute__") = false := by decide +kernel
  unfold getAttr? getAttrBy? getAttrBy
  refine wpAny_bind (wpAny_mkText (wpAny_bind (wpAny_attempt (wpAny_holding (wpAny_bind (L0.at (wpAny_bind (L1.at ?_))))))))
  dsimp only
  rw [hx2, Bool.and_false, if_neg Bool.false_ne_true]
  unfold getAttrByItsOwn hookBefore
  refine wpAny_bind ?_
  rw [if_pos (by rfl)]
  refine L2.at ?_
  refine wpAny_bind (wpAny_attempt (wpAny_holding ?_))
  unfold callGetattribute
  rw [Bool.false_and, if_neg Bool.false_ne_true]
  unfold boundAndCalled
  rw [ga_bind]
  refine wpAny_bind (wpAny_pure ?_)
  dsimp only
  refine wpAny_call (codeAny_call_builtin PySem.F.excAttr_ValueError.ga.plain PySem.F.entry_bexc_ga ?_)
  have hk : builtinKind "BaseException.__getattribute__" = some .slot := by decide +kernel
  have hsplit : splitId "BaseException.__getattribute__" = some ("BaseException", "__getattribute__") := by decide +kernel
  have ha := F.args_bexc_ga (.ref x) (.str "__class__" t)
  simp only [checkBuiltinCall, hk, hsplit]
  refine wpAny_bind ((L0.andThen L3).at ?_)
  unfold argsOk at ha
  simp only [Bool.not_true, Bool.false_eq_true, if_false, List.cons_append, List.nil_append]
  first | rw [ha] | skip
  refine wpAny_pure ?_
  refine exc_entry i X I ?_
  exact wpAny_pure (wpAny_pure h)
theorem kitx_exc (i : ExI K D) : PySem.W.KitX K (.ref x) (.ref D) (fun h => At h x D) where
  ty := fun _ _ _ I => I.type
  it := fun _ _ X _ => looks_isType X i.cl
  ne := fun h tp dd its n sl X htp => by
    obtain ⟨cd, hc⟩ := Option.isSome_iff_exists.mp i.cl
    refine Bool.eq_false_iff.mpr fun q => ?_
    have e : D = tp := Value.ref.inj (beq_iff_eq.mp q)
    subst e
    unfold PySem.W.clsIn at hc
    split at hc
    · rename_i c' d' cd' sl' ho
      have z := (X _ _ ho).symm.trans htp
      cases z
    · cases hc
  ca := fun X I k => exc_class i X I k
end
/-! ### the context of an except suite with a name -/
def hndE (X : Cx) (ea : Addr) (oe : Obj) : Cx := { X with A := X.A.mark (some (.ref ea)), calm := false, pn := (ea, oe) :: X.pn }
section
variable {X : Cx} {pins : List (Addr × Obj)} {σ : St} {H H' : Hp} {s s' : Shared} {ea C : Addr} {oe : Obj} {a0 : Value} {B : Heap}
theorem inv_hndE (I : Inv X pins σ H s) (hp : s.heap.get? ea = some oe ∧ H ea = none ∧ ea ≠ X.env.locals ∧ ea ∉ X.fs ∧ ∀ v, oe.data ≠ .cell v) : Inv (hndE X ea oe) pins σ H s :=
  ⟨⟨I.ok.mod, I.ok.kind, I.ok.glob, I.ok.blt, I.ok.above, I.ok.inj, I.ok.has, I.ok.cab, (fun z => by cases z), I.ok.frames, I.ok.stk, I.ok.exf, I.ok.bs, I.ok.bsz, I.ok.noex, I.ok.exfs, I.ok.funs, I.ok.frf, I.ok.tb⟩, I.os, I.bare, I.base, I.loc, I.cell, I.free, I.freeC, fun p hq => by
    rcases List.mem_cons.mp (show p ∈ (ea, oe) :: (X.pn ++ pins) from hq) with rfl | hq
    · exact hp
    · exact I.pin p hq, I.hok, I.len⟩
theorem inv_unhndE (hd : X.calm = true → X.A.handled = none) (hfm : X.A.frames = some X.stack) (I : Inv (hndE X ea oe) pins σ H s) : Inv X pins σ H s :=
  ⟨⟨I.ok.mod, I.ok.kind, I.ok.glob, I.ok.blt, I.ok.above, I.ok.inj, I.ok.has, I.ok.cab, hd, hfm, I.ok.stk, I.ok.exf, I.ok.bs, I.ok.bsz, I.ok.noex, I.ok.exfs, I.ok.funs, I.ok.frf, I.ok.tb⟩, I.os, I.bare, I.base, I.loc, I.cell, I.free, I.freeC, fun p hq => I.pin p (List.mem_cons_of_mem _ hq), I.hok, I.len⟩
theorem rep_hndE {B p : HZ} {τ : Tau} (r : Rep X B τ σ p) : Rep (hndE X ea oe) B τ σ p := ⟨r.len, r.ext, r.val, r.own, r.sep, r.top⟩
/-- the name is taken away behind the suite: nothing is known of the names then -/
theorem name_goes {A : Around} {E : Value → Shared → Prop} {n : Str} {pos : Pos} {Q : Unit → Shared → Prop} (I : Inv X pins σ H s) (hl : X.env.kindOf n = some .local) (h : ∀ s', Inv X pins (List.replicate σ.length none) H s' → Q () s') :
    wpAny (model X.prog X.w) A (do bindName X.env n .none; unbindBehindTheSuite X.env n pos) Q E s := by
  obtain ⟨m, hn, hv⟩ := id I.loc
  have hcls : (X.env.scope.kind == .class || (X.env.scope.kind == .module && X.env.locals != X.env.globals)) = false := by rw [I.ok.kind]; rfl
  have cne := I.cne
  obtain ⟨oL, _, _, hoL, _⟩ := id hn
  refine wpAny_nameGoes hl hn hcls fun h' m' hn' hs => h _ ?_
  have tracked : HOk X.prog X.w H h' := fun b ob e => by
    refine (I.hok b ob e).stay (fun c w' hc q => (hs.2 c ?_).trans q) (fun _ q => q) fun _ _ q => q
    rintro rfl
    rcases hc with rfl | hc
    · rw [I.free] at e; cases e
    · rw [I.free] at hc; cases hc
  refine ⟨I.ok, I.os, I.bare, ⟨fun b o e n hb hx => ?_, fun b o e n hb hx => ?_, I.base.free, fun b o e hx => ?_, I.base.tups, I.base.frzs, I.base.tbls⟩, ⟨_, hn', fun j y v' e1 e2 e3 => ?_⟩, fun y c e => ?_, I.free, I.freeC, fun p hp => ?_, tracked, by rw [List.length_replicate]; exact I.len⟩
  · exact (hs.2 b (Nat.ne_of_lt (Nat.lt_of_lt_of_le (Heap.lt_size e) I.ok.above))).trans (I.base.keep b o e n hb hx)
  · obtain ⟨sl, e1⟩ := I.base.slot b o e n hb hx
    exact ⟨sl, (hs.2 b (Nat.ne_of_lt (Nat.lt_of_lt_of_le (Heap.lt_size e) I.ok.above))).trans e1⟩
  · obtain ⟨o', e1⟩ := I.base.there b o e hx
    exact ⟨o', (hs.2 b (Nat.ne_of_lt (Nat.lt_of_lt_of_le (Heap.lt_size e) I.ok.above))).trans e1⟩
  · rw [List.getElem?_replicate] at e2
    split at e2 <;> cases e2
  · obtain ⟨w', z⟩ := I.cell y c e
    exact ⟨w', z.sameBut hs (cne y c e)⟩
  · obtain ⟨e, n, ne, nf, d⟩ := I.pin p hp
    exact ⟨(hs.2 p.1 ne).trans e, n, ne, nf, d⟩
/-- what is known of a caught exception's object -/
structure ExO (oe : Obj) (C : Addr) : Prop where
  cls : oe.cls = .ref C
/-- an exception comes to an except clause with a name that takes it -/
theorem catch_as {E : Value → Shared → Prop} {Q : Flow → Shared → Prop} {x n : Str} {i : Nat} {Cx : Addr} {np hp : Pos} {b0 : Stmt} {suite : List Stmt} {rest : List ExceptHandler} (I : Inv X pins σ H s) (hst : X.stack = X.env :: X.outer) (hf : X.env.frame = some X.env.locals)
    (fl : Fly X.prog X.w X.stack H H' s.heap s'.heap ea C a0 B) (ho : s'.os = s.os) (hg : AllBare s'.gens) (hgx : Gl X x) (hm : X.mg x = some (.ref Cx)) (hn : HnC X.K Cx) (hb : PySem.W.mroIn X.K C (.ref Cx) = some true) (hd : (x == ("__debug__" : Str)) = false)
    (hN : X.N.Nodup) (hi : X.N[i]? = some n) (hx : Loc X.env.scope n) (hfn : X.fn n = true ∨ X.env.scope.names.lookup n = some .local)
    (go : ∀ (s2 : Shared) (oe : Obj), ExO oe C → Inv (hndE X ea oe) pins (σ.set i (some (.ref ea))) H' s2 → wpAny (model X.prog X.w) (X.A.mark (some (.ref ea))) (execs (b0 :: suite) X.env) (fun f s4 => wpAny (model X.prog X.w) X.A (do bindName X.env n .none; unbindBehindTheSuite X.env n hp) (fun _ s5 => Q f s5) E s4) (fun _ _ => False) s2) :
    wpAny (model X.prog X.w) X.A (noteFrame (.ref ea) X.env) (fun _ s₂ => wpAny (model X.prog X.w) X.A (setFlight (.ref ea) none) (fun _ s₃ =>
      wpAny (model X.prog X.w) X.A (handleBy (.ref ea) X.env (.ExceptHandler (some (.Name x np)) (some n) (b0 :: suite) hp :: rest)) Q E s₃) E s₂) E s' := by
  have hfr : X.A.frames = some (X.env :: X.outer) := by rw [← hst]; exact I.ok.frames
  have fl0 := fl.fl
  rw [hst] at fl0
  refine wpAny_looks_onW hfr hf fl0 fun h4 held up4 => ?_
  refine wpAny_landsW held fun h5 fl5 up5 => ?_
  rw [← hst] at fl5
  have f5 := fl.to fl5 (up4.trans up5)
  have I5 : Inv X pins σ H' { s' with heap := h5 } := Fly.inv (s' := { s' with heap := h5 }) I f5 ho hg
  refine wpAny_handleBy_cons (codeAny_handlers_test (ld_glob (X := hnd X ea) (inv_hnd I5 ea) hgx hm ?_ hd)) (by intro q; cases q)
  obtain ⟨oe, he, hc⟩ := f5.fl.there
  refine exc_match (s := { s' with heap := h5 }) I5.kIn hn he hc hb ?_
  refine codeAny_handlers_suite_as ?_
  refine lands_againW (s := { s' with heap := h5 }) f5.fl fun h6 fl6 up6 => ?_
  have f6 := f5.to fl6 up6
  have I6 : Inv X pins σ H' { s' with heap := h6 } := Fly.inv (s' := { s' with heap := h6 }) I f6 ho hg
  obtain ⟨oe6, vs6, he6, hc6, hd6, _⟩ := f6.fl.first
  have noF : ∀ b, b ∈ frs X.stack → ea ≠ b := fun b hbm z => by
    obtain ⟨o, h1, h2⟩ := fr_mem f6.fl.2.2.1 hbm
    rw [← z, he6] at h1
    cases h1
    exact h2 _ hd6
  have hnone : H' ea = none := by
    cases e : H' ea with
    | none => rfl
    | some o =>
      obtain ⟨ob, eb⟩ := f6.tr _ _ e
      have := f6.fl.2.1
      rw [eb] at this
      cases this
  have IE : Inv (hndE X ea oe6) pins σ H' { s' with heap := h6 } := inv_hndE I6 ⟨he6, hnone, noF _ (by rw [hst, frs_cons hf]; exact List.mem_cons_self), fun z => noF _ (by rw [hst, frs_cons hf]; exact List.mem_cons_of_mem _ z) rfl, fun v z => by rw [hd6] at z; cases z⟩
  refine store_ok (X := hndE X ea oe6) (v := .ref ea) IE hN hi hx rfl (fun s7 I7 => ?_) hfn
  exact wpAny_mono (go s7 oe6 ⟨hc6⟩ I7) (fun f s4 h => h) fun _ _ z => z.elim
/-! isinstance(NAME, CLASS) of the caught exception -/
theorem call_isx {c : Value} {cv : V} {b : Bool} (hO : ExO oe C) (i : ExI X.K C) (rc : RelV cv c) (hc : ∀ u, RelV cv u → u = c) (hk : PySem.W.kitOne X.K (.ref C) c = some b) : CallR (hndE X ea oe) (.builtin "isinstance") (fun xs H Q => xs = [.ref ea, cv] ∧ Q (.bl b) H) := by
  intro pins s σ H xs us Q I rs h
  obtain ⟨rfl, q⟩ := h
  obtain ⟨v', u', rfl, r1, r2⟩ := vals2 rs
  cases r1
  cases hc _ r2
  have hp := I.pin (ea, oe) (List.mem_append_left _ List.mem_cons_self)
  exact PySem.W.kia_one (kitx_exc i) I.kIn ⟨oe, hp.1, hO.cls⟩ hk (fun z => nomatch z) fun tk => ⟨.bl b, H, I.tok tk, rfl, q⟩
end
section
variable {X : Cx} {ea C : Addr} {oe : Obj}
def vIsx (i : Nat) (ea : Addr) (b : Bool) : TE3 := fun τ R => τ[i]? = some (some (.d (.ref ea))) ∧ R (.d (.bl b))
theorem v_isx_ {i : Nat} {n y : Str} {p p1 p2 pos : Pos} {c : Value} {cv : V} {b : Bool} (hO : ExO oe C) (hi : ExI X.K C) (rc : RelV cv c) (hc : ∀ u, RelV cv u → u = c) (hk : PySem.W.kitOne X.K (.ref C) c = some b)
    (hv : PE (hndE X ea oe) (.Name n p1) (tVar i)) (hcl : PE (hndE X ea oe) (.Name y p2) (tC cv)) (hg : Gl X "isinstance") (hm : X.mg "isinstance" = none)
    (he : starEach [.Name n p1, .Name y p2] X.env = (false, eval (.Name n p1) X.env) :: starEach [.Name y p2] X.env := by exact starE rfl) (he2 : starEach [.Name y p2] X.env = (false, eval (.Name y p2) X.env) :: starEach [] X.env := by exact starE rfl) (hpl : (backTo pos (starEach [.Name y p2] X.env)).any (·.1) = false := by exact plainE rfl) :
    PE3 (hndE X ea oe) (.Call (.Name "isinstance" p) [.Name n p1, .Name y p2] [] pos) (vIsx i ea b) := ⟨pe_imp (pe_callB (call_isx hO hi rc hc hk) hg hm PyProof.Rows.boot_isinstance (pa_cons hv (pa_cons hcl pa_nil he2) he) (he := he) (hpl := hpl)) fun σ H Q ⟨B, z, τ, R, r, ⟨ht, hR⟩, q⟩ => by
    obtain ⟨v, h1, h2⟩ := r.val i _ ht
    cases h2
    exact ⟨.ref ea, h1, rfl, q (.d _) _ ⟨H, z⟩ (Ext.refl r.ext.sub) (Is.bl _) fr_d hR⟩⟩
theorem v_isx {i : Nat} {n y : Str} {p p1 p2 pos : Pos} {Cy : Addr} {b : Bool} (hO : ExO oe C) (hi : ExI X.K C) (hk : PySem.W.kitOne X.K (.ref C) (.ref Cy) = some b)
    (hv : PE (hndE X ea oe) (.Name n p1) (tVar i)) (hgy : Gl X y) (hmy : X.mg y = some (.ref Cy)) (hg : Gl X "isinstance") (hm : X.mg "isinstance" = none) (hd : (y == ("__debug__" : Str)) = false := by decide)
    (he : starEach [.Name n p1, .Name y p2] X.env = (false, eval (.Name n p1) X.env) :: starEach [.Name y p2] X.env := by exact starE rfl) (he2 : starEach [.Name y p2] X.env = (false, eval (.Name y p2) X.env) :: starEach [] X.env := by exact starE rfl) (hpl : (backTo pos (starEach [.Name y p2] X.env)).any (·.1) = false := by exact plainE rfl) :
    PE3 (hndE X ea oe) (.Call (.Name "isinstance" p) [.Name n p1, .Name y p2] [] pos) (vIsx i ea b) :=
  v_isx_ (cv := .ref Cy) hO hi rfl (fun u z => z) hk hv (pe_glob (X := hndE X ea oe) hgy hmy rfl hd) hg hm he he2 hpl
theorem v_isxT {i : Nat} {n y : Str} {p p1 p2 pos : Pos} {T : String} {b : Bool} (hO : ExO oe C) (hi : ExI X.K C) (hk : PySem.W.kitOne X.K (.ref C) (.type T) = some b)
    (hv : PE (hndE X ea oe) (.Name n p1) (tVar i)) (hgy : Gl X y) (hmy : X.mg y = none) (hby : bootBuiltins y = some (.type T)) (hg : Gl X "isinstance") (hm : X.mg "isinstance" = none) (hn : y ≠ "__name__" := by decide) (hd : (y == ("__debug__" : Str)) = false := by decide)
    (he : starEach [.Name n p1, .Name y p2] X.env = (false, eval (.Name n p1) X.env) :: starEach [.Name y p2] X.env := by exact starE rfl) (he2 : starEach [.Name y p2] X.env = (false, eval (.Name y p2) X.env) :: starEach [] X.env := by exact starE rfl) (hpl : (backTo pos (starEach [.Name y p2] X.env)).any (·.1) = false := by exact plainE rfl) :
    PE3 (hndE X ea oe) (.Call (.Name "isinstance" p) [.Name n p1, .Name y p2] [] pos) (vIsx i ea b) :=
  v_isx_ (cv := .ty T) hO hi rfl (fun u z => z) hk hv (pe_bltn (X := hndE X ea oe) (v := .ty T) hgy hmy hby rfl hn hd) hg hm he he2 hpl
variable {e : Expr} {es : List Expr} {tr : TA3}
/-- try: f(..) except CLASS as NAME: .. (each way of the suite returns) -/
def sTryE (i : Nat) (sp : Sp3) (ok : Str → Prop) (tr : TA3) (th : Addr → Str → TS3) : TS3 := fun D3 τ => tr τ fun ss => sp ss (fun _ => D3.nx τ) (fun y => ok y ∧ ∀ ea, th ea y { nx := fun _ => False, rt := D3.rt } (τ.set i (some (.d (.ref ea)))))
theorem s_tryE {k i : Nat} {n f cx : Str} {ps : List Str} {sp : Sp3} {Cx : Addr} {ok : Str → Prop} {th : Addr → Str → TS3} {pf pc pa np hp pt : Pos} {b0 : Stmt} {suite : List Stmt} (hst : X.stack = X.env :: X.outer) (hf : X.env.frame = some X.env.locals) (hno : ∀ e s, ¬ X.xe e s)
    (c : Cal X.prog X.w X.K X.mg X.base (CXU X.prog X.w) k f ps sp) (hr : Room k X.A) (hg : Gl X f) (ha : PA3 X (e :: es) tr) (hN : X.N.Nodup) (hi : X.N[i]? = some n) (hx : Loc X.env.scope n) (hkl : X.env.kindOf n = some .local)
    (hgx : Gl X cx) (hm : X.mg cx = some (.ref Cx)) (hn : HnC X.K Cx) (hok : ∀ y C, ok y → X.mg y = some (.ref C) → PySem.W.mroIn X.K C (.ref Cx) = some true) (hh : ∀ ea oe y C, ok y → X.mg y = some (.ref C) → ExO oe C → PSs3 (hndE X ea oe) (b0 :: suite) (th ea y))
    (hdb : (f == ("__debug__" : Str)) = false := by decide) (hd : (cx == ("__debug__" : Str)) = false := by decide) (he : starEach (e :: es) X.env = (false, eval e X.env) :: starEach es X.env := by exact starE rfl) (hpl : (backTo pc (starEach es X.env)).any (·.1) = false := by exact plainE rfl)
    (hs : swapsWith (.Call (.Name f pf) (e :: es) [] pc) none pa.line X.env = pure false := by rfl) (hfn : X.fn n = true ∨ X.env.scope.names.lookup n = some .local := by first | exact .inl rfl | exact .inr rfl | assumption) :
    PS3 X (.Try [.Expr (.Call (.Name f pf) (e :: es) [] pc) pa] [.ExceptHandler (some (.Name cx np)) (some n) (b0 :: suite) hp] [] [] pt) (sTryE i sp ok tr th) := by
  refine ⟨?_⟩
  obtain ⟨fa, fd, F, hmf, hk, hb⟩ := c.ex
  intro pins s σ H D2 I h
  obtain ⟨B, z, τ, D3, r, ht, ct⟩ := h
  refine wpAny_Try_except (wpAny_execs_cons (wpAny_Expr_any (thn (call_at (Ex := fun cls _ H' => ∃ y, X.mg y = some cls ∧ (ok y ∧ ∀ ea, th ea y { nx := fun _ => False, rt := D3.rt } (τ.set i (some (.d (.ref ea))))) ∧ Same H H') (Q := fun v H' => D2.nx σ H') F hr hg hmf hk hb ha.out (fun e s z => (hno e s z).elim) I ?hx ?h hdb he hpl) fun v s1 ⟨y, H1, I1, r1, q1⟩ => ?nx) I.quiet hs))
  case hx =>
    intro H1 s1 e' s' I1 hcx
    obtain ⟨ea, C, a0, B', H', rfl, ho, hbr, fl, y, hy, ⟨hoky, hth⟩, hsame⟩ := hcx
    refine catch_as I1 hst hf fl ho hbr hgx hm hn (hok y C hoky hy) hd hN hi hx hfn fun s2 oe hO I2 => ?_
    refine wpAny_mono ((hh ea oe y C hoky hy hO).out pins s2 _ H' { nx := fun _ _ => False, rt := D2.rt, bk := fun _ _ => False, ct := fun _ _ => False } I2 ⟨B, _, _, _, rep_hndE ((r.mono (Ext.grow r.ext.sub hsame)).setd (.ref ea)), hth ea, ⟨fun _ _ _ _ z => z.elim, fun _ _ _ _ z => z.elim, fun _ _ _ _ z => z.elim, ct.rt⟩⟩) (fun f s3 h3 => ?_) fun e3 s3 z => hno e3 s3 z
    cases f with
    | next => obtain ⟨_, _, _, z⟩ := h3; exact z.elim
    | brk => obtain ⟨_, _, _, z⟩ := h3; exact z.elim
    | cont => obtain ⟨_, _, _, z⟩ := h3; exact z.elim
    | ret u =>
      obtain ⟨v, σ', H3, I3, rv, q3⟩ := h3
      exact name_goes (inv_unhndE I.ok.hd I.ok.frames I3) hkl fun s5 I5 => ⟨v, _, H3, I5, rv, q3⟩
  case h =>
    refine ⟨B, _, τ, _, r, ht, fun ss vs H1 e1 i1 h1 => ⟨H1.z, ss, _, _, e1.sub, i1, h1, fun s v H2 e2 i2 f2 h2 => ?_, fun y C H2 e2 hy hu => ⟨y, hy, hu, e1.hh.trans e2⟩⟩⟩
    exact ct.nx _ _ _ (r.mono (e1.trans e2)) h2
  case nx =>
    exact wpAny_execs_nil (wpAny_execs_nil ⟨_, H1, I1, q1⟩)
end
end L3
namespace L3
open PySem PySem.Spec PyProof.Rows L2
theorem boot_ValueError : PySem.bootBuiltins "ValueError" = some (.type "ValueError") := by decide +kernel
section
variable {X : Cx}
theorem hok1 {K : PySem.W.Frag} {mg : Str → Option Value} {y0 : Str} {C0 Cx : Addr} (hm : mg y0 = some (.ref C0)) (h : PySem.W.mroIn K C0 (.ref Cx) = some true) : ∀ y C, y = y0 → mg y = some (.ref C) → PySem.W.mroIn K C (.ref Cx) = some true := fun y C e h1 => by
  subst e; rw [hm] at h1; cases h1; exact h
variable {e : Expr} {es : List Expr} {tr : TA3}
theorem s_tryE1 {k i : Nat} {n f cx y0 : Str} {ps : List Str} {sp : Sp3} {Cx C0 : Addr} {th : Addr → TS3} {pf pc pa np hp pt : Pos} {b0 : Stmt} {suite : List Stmt} (hst : X.stack = X.env :: X.outer) (hf : X.env.frame = some X.env.locals) (hno : ∀ e s, ¬ X.xe e s)
    (c : Cal X.prog X.w X.K X.mg X.base (CXU X.prog X.w) k f ps sp) (hr : Room k X.A) (hg : Gl X f) (ha : PA3 X (e :: es) tr) (hN : X.N.Nodup) (hi : X.N[i]? = some n) (hx : Loc X.env.scope n) (hkl : X.env.kindOf n = some .local)
    (hgx : Gl X cx) (hm : X.mg cx = some (.ref Cx)) (hn : HnC X.K Cx) (hok : ∀ y C, y = y0 → X.mg y = some (.ref C) → PySem.W.mroIn X.K C (.ref Cx) = some true) (hm0 : X.mg y0 = some (.ref C0)) (hh : ∀ ea oe, ExO oe C0 → PSs3 (hndE X ea oe) (b0 :: suite) (th ea))
    (hdb : (f == ("__debug__" : Str)) = false := by decide) (hd : (cx == ("__debug__" : Str)) = false := by decide) (he : starEach (e :: es) X.env = (false, eval e X.env) :: starEach es X.env := by exact starE rfl) (hpl : (backTo pc (starEach es X.env)).any (·.1) = false := by exact plainE rfl)
    (hs : swapsWith (.Call (.Name f pf) (e :: es) [] pc) none pa.line X.env = pure false := by rfl) (hfn : X.fn n = true ∨ X.env.scope.names.lookup n = some .local := by first | exact .inl rfl | exact .inr rfl | assumption) :
    PS3 X (.Try [.Expr (.Call (.Name f pf) (e :: es) [] pc) pa] [.ExceptHandler (some (.Name cx np)) (some n) (b0 :: suite) hp] [] [] pt) (sTryE i sp (fun y => y = y0) tr (fun ea _ => th ea)) :=
  s_tryE (th := fun ea _ => th ea) hst hf hno c hr hg ha hN hi hx hkl hgx hm hn hok (fun ea oe y C e h1 hO => by subst e; rw [hm0] at h1; cases h1; exact hh ea oe hO) hdb hd he hpl hs hfn
end
end L3
namespace L3
open PySem PySem.Spec PyProof.Rows L2
section
variable {X : Cx} {st : Stmt} {rest' : List Stmt} {t u : TS3}
/-- a test whose way out leaves the def: P holds behind it -/
def sGp (t u : TS3) : TS3 := fun D3 τ => ∃ P : Prop, t { D3 with nx := fun τ' => τ' = τ ∧ P } τ ∧ (P → u D3 τ)
theorem ss_gp (h1 : PS3 X st t) (h2 : PSs3 X rest' u) : PSs3 X (st :: rest') (sGp t u) := ⟨pss_imp (ss_cut h1 h2).out fun D2 σ H ⟨B, z, τ, D3, r, ⟨P, ht, hu⟩, c⟩ => ⟨B, _, τ, D3, r, ⟨fun τ' => τ' = τ ∧ P, ht, fun τ' ⟨e, hP⟩ => by subst e; exact hu hP⟩, c⟩⟩
end
end L3
namespace L3
open PySem PySem.Spec PyProof.Rows L2
theorem hu_ {A : Around} {k n : Nat} (hr : Room k A) (hn : n ≤ 200) : A.units + n < cLine := by have := hr.un; omega
section
variable {X : Cx} {pins : List (Addr × Obj)} {σ : St} {H : Hp} {s : Shared}
theorem rcn_tuples (I : Inv X pins σ H s) {n : Nat} {A : Around} {a b : Addr} {vs ws : List V} {xs ys : List D} (ha : SqT X.K H a vs) (hb : SqT X.K H b ws) (hx : Iss X.K H vs xs) (hy : Iss X.K H ws ys) (hu : A.units < cLine)
    (ih : ∀ (x y : D) (v u : V) (v' u' : Value), x ∈ xs → y ∈ ys → Is X.K H v x → Is X.K H u y → RelV v v' → RelV u u' → SeqAt.EqAt A.in1 s v' u' (eqN n x y)) : SeqAt.RcNeAt A s (.ref a) (.ref b) (!eqN (n + 1) (.tup xs) (.tup ys)) := by
  obtain ⟨its, r1, p1, _⟩ := I.tuple ha
  obtain ⟨its2, r2, p2, _⟩ := I.tuple hb
  have l1 := r1.length
  have l2 := r2.length
  have k1 := hx.1
  have k2 := hy.1
  have key := SeqAt.RcNeAt.tuples (A := A) (s := s) (l := a) (b := b) (items := its.toArray) (items2 := its2.toArray) (e := fun j => match xs[j]?, ys[j]? with | some x, some y => eqN n x y | _, _ => true) p1 p2 hu (fun j h1 h2 => by
    have h1' : j < its.length := by simpa using h1
    have h2' : j < its2.length := by simpa using h2
    have gx : xs[j]? = some (xs[j]'(by omega)) := List.getElem?_eq_getElem (by omega)
    have gy : ys[j]? = some (ys[j]'(by omega)) := List.getElem?_eq_getElem (by omega)
    have gv : vs[j]? = some (vs[j]'(by omega)) := List.getElem?_eq_getElem (by omega)
    have gw : ws[j]? = some (ws[j]'(by omega)) := List.getElem?_eq_getElem (by omega)
    obtain ⟨u1, e1, q1⟩ := r1.get gv
    obtain ⟨u2, e2, q2⟩ := r2.get gw
    rw [getElem_of h1 e1, getElem_of h2 e2]
    rw [gx, gy]
    exact ih _ _ _ _ _ _ (List.mem_of_getElem? gx) (List.mem_of_getElem? gy) (hx.2 j _ _ gv gx) (hy.2 j _ _ gw gy) q1 q2)
  have e : eqN (n + 1) (.tup xs) (.tup ys) = ((List.range (min its.toArray.size its2.toArray.size)).all (fun j => match xs[j]?, ys[j]? with | some x, some y => eqN n x y | _, _ => true) && its.toArray.size == its2.toArray.size) := by
    show ((xs.zip ys).all (fun p => eqN n p.1 p.2) && xs.length == ys.length) = _
    have s1 : its.toArray.size = xs.length := by simp; omega
    have s2 : its2.toArray.size = ys.length := by simp; omega
    rw [s1, s2]
    congr 1
    rw [Bool.eq_iff_iff, List.all_eq_true, List.all_eq_true]
    constructor
    · intro h j hj
      rw [List.mem_range] at hj
      have gx : xs[j]? = some (xs[j]'(by omega)) := List.getElem?_eq_getElem (by omega)
      have gy : ys[j]? = some (ys[j]'(by omega)) := List.getElem?_eq_getElem (by omega)
      rw [gx, gy]
      exact h (_, _) (List.mem_of_getElem? (List.getElem?_zip_eq_some.mpr ⟨gx, gy⟩))
    · rintro h ⟨x, y⟩ hp
      obtain ⟨j, hj⟩ := List.getElem?_of_mem hp
      obtain ⟨gx, gy⟩ := List.getElem?_zip_eq_some.mp hj
      have h1 := (List.getElem?_eq_some_iff.mp gx).1
      have h2 := (List.getElem?_eq_some_iff.mp gy).1
      have := h j (by rw [List.mem_range]; omega)
      simp only [] at gx gy
      rw [gx, gy] at this
      exact this
  rw [e]
  exact key
/-- != of two tuples, n deep -/
def oNeT (n : Nat) : R3 := fun dx dy R => match dx, dy with
  | .tup xs, .tup ys => depOk n (.tup xs) = true ∧ depOk n (.tup ys) = true ∧ R (.bl (!eqN n (.tup xs) (.tup ys)))
  | _, _ => False
theorem o_neT (n : Nat) (hu : X.A.units + n < cLine) : OpR3 X (compareOp .NotEq) (oNeT n) := by
  intro pins s σ H x y v u Q I rx ry h
  obtain ⟨z, dx, dy, R, hz, hx, hy, h3, q⟩ := h
  replace hx := hx.mono hz
  replace hy := hy.mono hz
  unfold oNeT at h3
  split at h3
  · rename_i xs ys
    obtain ⟨fx, fy, h3⟩ := h3
    cases n with
    | zero => cases fx
    | succ n =>
      obtain ⟨a, vs, rfl, ha, ia⟩ := Is.tup_inv hx
      obtain ⟨b, ws, rfl, hb, ib⟩ := Is.tup_inv hy
      cases rx
      cases ry
      refine rcn_tuples (A := X.A) (n := n) I ha hb ia ib (by omega) (fun x y v u v' u' mx my ix iy rv ru => ?_) X.prog X.w X.xe _ ⟨.bl _, H, I, rfl, q _ _ ⟨H, z⟩ (Ext.refl hz) (.bl _) h3⟩
      exact eqAt_D I n X.A.in1 x y v u v' u' (by show X.A.units + 1 + n < cLine; omega) (List.all_eq_true.mp (show xs.all (depOk n) = true from fx) x mx) (List.all_eq_true.mp (show ys.all (depOk n) = true from fy) y my) ix iy rv ru
  · exact h3.elim
end
end L3
namespace L3
open PySem PySem.Spec PyProof.Rows L2
/-! ### comprehensions -/

/-! the block's context -/
section
variable {X : Cx} {pins : List (Addr × Obj)} {σ : St} {H2 : Hp} {s2 : Shared} {x : Str} {px : Pos} {scope : Scope} {N : List Str} {idx : List Nat} {J : It} {fp : List Addr} {it : Addr} {tn : Nat → Heap → Prop} {cl : List (Str × Addr)}
end
/-! over data -/
abbrev TX3 := Tau → (List D → Prop) → Prop
section
variable {X : Cx} {e : Expr} {te : TE3} {ta : TA3}
end
/-! the element's names: the block's own, then the captured ones, lists only read -/
section
variable {X : Cx} {x : Str} {px pos : Pos} {scope : Scope} {N : List Str} {idx : List Nat} {cl : List (Str × Addr)} {C : Addr} {s₀ : Shared} {H₀ H H' : Hp} {fp : List Addr} {σ : St} {τ : Tau}
end
section
variable {X : Cx} {x : Str} {px pos : Pos} {scope : Scope} {N : List Str} {idx : List Nat} {elt iter : Expr} {ifs : List Expr} {wi : TI} {ws : TX3} {tt : TT3} {te : TE3}
end
end L3
namespace L3
open PySem PySem.Spec PyProof.Rows L2
/-! ### a comprehension's names, checked by running -/
end L3
namespace L3
open PySem PySem.Spec PyProof.Rows L2
section
variable {X : Cx} {e a b c : Expr} {te ta tb tc : TE3} {pos : Pos}
/-! #### is None -/
def isNonD : D → Bool
  | .non => true
  | _ => false
theorem isNon_rel {K : PySem.W.Frag} {z : Hp} {v : V} {x : D} (h : Is K z v x) : decide (v = .non) = isNonD x := by cases h <;> rfl
def oIsN : R3 := fun dx dy R => match dy with
  | .non => R (.bl (isNonD dx))
  | _ => False
theorem o_isN : OpR3 X (compareOp .Is) oIsN := opr_imp op_isN fun x y H Q hh => by
  obtain ⟨z, dx, dy, R, hz, hx, hy, h3, q⟩ := hh
  unfold oIsN at h3
  split at h3
  · exact ⟨hy.non_inv, q _ _ ⟨H, z⟩ (Ext.refl hz) (.bl _) (by rw [isNon_rel hx]; exact h3)⟩
  · exact h3.elim
/-! #### tuple + tuple, list + list (data) -/
theorem Iss.append {K : PySem.W.Frag} {H : Hp} {vs ws : List V} {xs ys : List D} (h : Iss K H vs xs) (h' : Iss K H ws ys) : Iss K H (vs ++ ws) (xs ++ ys) := by
  refine ⟨by simp [h.1, h'.1], fun i v x h1 h2 => ?_⟩
  by_cases hi : i < vs.length
  · rw [List.getElem?_append_left hi] at h1
    rw [List.getElem?_append_left (by have := h.1; omega)] at h2
    exact h.2 i v x h1 h2
  · rw [List.getElem?_append_right (by omega)] at h1
    rw [List.getElem?_append_right (by have := h.1; omega)] at h2
    have := h.1
    exact h'.2 (i - vs.length) v x h1 (by rw [this]; exact h2)
/-! #### slices -/
abbrev TO3 := Tau → (Option Int → Prop) → Prop
structure PO3 (X : Cx) (e : Option Expr) (t : TO3) : Prop where
  out : PO X e (fun σ H Q => ∃ B z τ R, Rep X B τ σ ⟨H, z⟩ ∧ t τ R ∧ ∀ o q, Ext ⟨H, z⟩ q → R o → Q o q.h)
def oNo : TO3 := fun _ R => R none
def oYes (te : TE3) : TO3 := fun τ R => te τ fun s => match s with
  | .d (.int i) => R (some i)
  | _ => False
theorem p_no : PO3 X none oNo := ⟨fun pins s σ H Q I ⟨B, z, τ, R, r, ht, q⟩ => po_none pins s σ H Q I (q none ⟨H, z⟩ (Ext.refl r.ext.sub) ht)⟩
theorem p_yes (h : PE3 X e te) : PO3 X (some e) (oYes te) := ⟨fun pins s σ H Q I ⟨B, z, τ, R, r, ht, q⟩ => po_some h.out pins s σ H Q I ⟨B, z, τ, _, r, ht, fun s v q1 e1 i1 f1 h1 => by
  split at h1
  · rename_i i
    exact ⟨i, Is.int_inv i1, q _ _ e1 h1⟩
  · exact h1.elim⟩⟩
/-! #### list(..), tuple(..) -/
/-! #### a op b op c -/
end
end L3
namespace L3
open PySem PySem.Spec PyProof.Rows L2
section
variable {X : Cx} {e a b c : Expr} {te ta tb tc ti : TE3} {pos : Pos}
/-! #### an own list is written -/
theorem Iss.set {K : PySem.W.Frag} {H : Hp} {vs : List V} {xs : List D} {v : V} {x : D} (h : Iss K H vs xs) (j : Nat) (hx : Is K H v x) : Iss K H (vs.set j v) (xs.set j x) := by
  refine ⟨by simp [h.1], fun i w y h1 h2 => ?_⟩
  rw [List.getElem?_set] at h1 h2
  by_cases hij : j = i
  · rw [if_pos hij] at h1 h2
    split at h1
    · cases h1
      split at h2
      · cases h2; exact hx
      · cases h2
    · cases h1
  · rw [if_neg hij] at h1 h2
    exact h.2 i w y h1 h2
/-! #### == of lists -/
end
end L3
namespace L3
open PySem PySem.Spec PyProof.Rows L2
section
variable {X : Cx} {e : Expr} {es : List Expr} {tr : TA3} {th : TS3}
end
/-! a constant of the module -/
structure GC (K : PySem.W.Frag) (mg : Str → Option Value) (x : Str) (d : D) : Prop where
  ex : ∃ u v, mg x = some u ∧ RelV v u ∧ ∀ H, Is K H v d
theorem v_gc {X : Cx} {x : Str} {d : D} {pos : Pos} (hg : Gl X x) (c : GC X.K X.mg x d) (hd : (x == ("__debug__" : Str)) = false := by decide) : PE3 X (.Name x pos) (vC d) := by
  obtain ⟨u, v, hm, hr, hi⟩ := c.ex
  exact ⟨pe_imp (pe_glob hg hm hr hd) fun σ H Q hh => by obtain ⟨B, z, τ, R, r, ht, q⟩ := hh; exact q (.d d) v ⟨H, z⟩ (Ext.refl r.ext.sub) (hi _) fr_d ht⟩
/-- what a value of the module is, as data that hold in every heap -/
def KD (K : PySem.W.Frag) (u : Value) (d : D) : Prop := ∃ v, RelV v u ∧ ∀ H, Is K H v d
theorem KD.of {K : PySem.W.Frag} {mg : Str → Option Value} {x : Str} {u : Value} {d : D} (hm : mg x = some u) (h : KD K u d) : GC K mg x d := by
  obtain ⟨v, r, i⟩ := h
  exact ⟨u, v, hm, r, i⟩
section
variable {K : PySem.W.Frag}
theorem KD.int {i : Int} {t} : KD K (Value.int i t) (.int i) := ⟨.int i, ⟨t, rfl⟩, fun _ => .int i⟩
theorem KD.str {x : Str} {t} : KD K (Value.str x t) (.str x) := ⟨.str x, ⟨t, rfl⟩, fun _ => .str x⟩
theorem KD.non : KD K .none .non := ⟨.non, rfl, fun _ => .non⟩
theorem KD.bl {b : Bool} : KD K (.bool b) (.bl b) := ⟨.bl b, rfl, fun _ => .bl b⟩
inductive KDs (K : PySem.W.Frag) : List Value → List D → Prop where
  | nil : KDs K [] []
  | cons {u : Value} {us : List Value} {d : D} {ds : List D} : KD K u d → KDs K us ds → KDs K (u :: us) (d :: ds)
theorem KDs.out : ∀ {us : List Value} {ds : List D}, KDs K us ds → ∃ vs, Vals vs us ∧ ∀ H, Iss K H vs ds
  | _, _, .nil => ⟨[], .nil, fun _ => ⟨rfl, fun i v x h => by simp at h⟩⟩
  | _, _, .cons ⟨v, r, i⟩ t => by
    obtain ⟨vs, rs, is⟩ := t.out
    refine ⟨v :: vs, .cons r rs, fun H => ⟨by simp [(is H).1], fun j w x h1 h2 => ?_⟩⟩
    cases j with
    | zero => simp at h1 h2; subst h1; subst h2; exact i H
    | succ j => exact (is H).2 j w x (by simpa using h1) (by simpa using h2)
theorem KD.tup {a : Addr} {od : Option Addr} {its : Array Value} {n : Nat} {sl : Array (Option Value)} {ds : List D} (h : K.lookup a = some ⟨.type "tuple", od, .seq its n, sl⟩) (hz : its.size ≤ sizeLine) (hs : KDs K its.toList ds) : KD K (.ref a) (.tup ds) := by
  obtain ⟨vs, rs, is⟩ := hs.out
  exact ⟨.ref a, rfl, fun H => .tup (.inr ⟨_, its, n, h, rfl, rfl, hz, rs⟩) (is H).1 (is H).2⟩
end
end L3
namespace L3
open PySem PySem.Spec PyProof.Rows L2
/-! ### a try body that sets no name: calls, and tests ahead of them -/
section
variable {X : Cx} {e : Expr} {es : List Expr} {tr : TA3}
end
end L3
namespace CH
open PySem L2 L3
/-! ### numbers that fit -/
theorem mulOk {i j : Int} {m n : Nat} (hi : i.natAbs < 2 ^ m) (hj : j.natAbs < 2 ^ n) (h : m + n ≤ 134217728) : IntMulOk i j :=
  PyProof.Rows.mulOk_of_bits (PyProof.Rows.intBits_le hi) (PyProof.Rows.intBits_le hj) h
def dg (n : Int) : Nat := if n == 0 then 0 else n.natAbs.log2 / 30 + 1
theorem digits_le {i : Int} {m : Nat} (h : i.natAbs < 2 ^ m) : dg i ≤ m / 30 + 1 := by
  unfold dg
  by_cases h0 : (i == 0) = true
  · rw [if_pos h0]; omega
  · rw [if_neg h0]
    have hn : i.natAbs ≠ 0 := by
      intro z
      apply h0
      have : i = 0 := by omega
      rw [this]; rfl
    have : i.natAbs.log2 < m := (Nat.log2_lt hn).mpr h
    omega
theorem noPy {i j : Int} (h : i.natAbs < 2 ^ 13000) : Builtin.divisionGoesByPylong i j = false := by
  have k := digits_le h
  clear h
  show (decide (dg j > 300) && decide (dg i > dg j + 150)) = false
  rw [Bool.and_eq_false_iff]
  by_cases hq : dg j > 300
  · exact .inr (decide_eq_false (by omega))
  · exact .inl (decide_eq_false hq)
theorem noPy2 {i j : Int} (h : j.natAbs < 1073741824) : Builtin.divisionGoesByPylong i j = false := PyProof.noPylong_small h
theorem nz6 : (6 : Int) ≠ 0 := by decide
theorem abs_nn (i : Int) : 0 ≤ (if i < 0 then -i else i) := by split <;> omega
/-! ### what the law's own small defs are worth -/
def cell (ns : List Int) (k : Int) : Int := ns.getD k.toNat 0
theorem atI_ints {ns : List Int} {k : Int} (h0 : 0 ≤ k) (h1 : k < (ns.length : Int)) : atI (ns.map D.int) k = some (.int (cell ns k)) := by
  have hk : k.toNat < ns.length := by omega
  have ek : k = ((k.toNat : Nat) : Int) := by omega
  have q : atI (ns.map D.int) ((k.toNat : Nat) : Int) = some (.int ns[k.toNat]) := atI_nat (by rw [List.getElem?_map, List.getElem?_eq_getElem hk] <;> rfl)
  rw [← ek] at q
  rw [q]
  unfold cell
  rw [List.getD_eq_getElem?_getD, List.getElem?_eq_getElem hk]
  rfl
abbrev I (i : Int) : Option S := some (.d (.int i))
abbrev B' (b : Bool) : Option S := some (.d (.bl b))
theorem iteD {c A B : Prop} [Decidable c] (h1 : c → A) (h2 : ¬ c → B) : if decide c = true then A else B := by
  by_cases h : c
  · rw [decide_eq_true h, if_pos rfl]; exact h1 h
  · rw [decide_eq_false h, if_neg Bool.false_ne_true]; exact h2 h
theorem iteN {c A B : Prop} [Decidable c] (h1 : ¬ c → A) (h2 : c → B) : if (!decide c) = true then A else B := by
  by_cases h : c
  · rw [decide_eq_true h]; exact h2 h
  · rw [decide_eq_false h]; exact h1 h
end CH
namespace L3
end L3
namespace L3
open PySem PySem.Spec PyProof.Rows L2
/-! ### lambdas -/
section
variable {prog : Program} {w : World} {A : Around} {R : Result → Shared → Prop} {s : Shared}
end
section
variable {X : Cx} {pins : List (Addr × Obj)} {σ : St} {H1 H : Hp} {s1 s : Shared} {x : Str} {scope : Scope} {N : List Str} {idx : List Nat} {cl : List (Str × Addr)}
end
section
variable {X : Cx} {pins : List (Addr × Obj)} {σ : St} {H : Hp} {s : Shared}
end
/-! a def that is handed a lambda -/
section
variable {P : Program} {w : World} {K : PySem.W.Frag} {mg : Str → Option Value} {base : Heap}
end
section
variable {X : Cx} {pos : Pos} {e : Expr} {te tb : TE3}
end

section
variable {P : Program} {w : World} {K : PySem.W.Frag} {mg : Str → Option Value} {base : Heap}
end
theorem consE {us : List Value} {n : Nat} (h : us.length = n + 1) : ∃ x r, us = x :: r ∧ r.length = n := by
  cases us with
  | nil => cases h
  | cons x r => exact ⟨x, r, rfl, Nat.succ.inj h⟩
theorem lenE1 {us : List Value} (h : us.length = 1) : ∃ x0, us = [x0] := by
  obtain ⟨x0, r0, e0, h0⟩ := consE h
  have e := List.eq_nil_of_length_eq_zero h0
  exact ⟨x0, by rw [e0, e]⟩
theorem lenE2 {us : List Value} (h : us.length = 2) : ∃ x0 x1, us = [x0, x1] := by
  obtain ⟨x0, r0, e0, h0⟩ := consE h
  obtain ⟨x1, r1, e1, h1⟩ := consE h0
  have e := List.eq_nil_of_length_eq_zero h1
  exact ⟨x0, x1, by rw [e0, e1, e]⟩
theorem lenE4 {us : List Value} (h : us.length = 4) : ∃ x0 x1 x2 x3, us = [x0, x1, x2, x3] := by
  obtain ⟨x0, r0, e0, h0⟩ := consE h
  obtain ⟨x1, r1, e1, h1⟩ := consE h0
  obtain ⟨x2, r2, e2, h2⟩ := consE h1
  obtain ⟨x3, r3, e3, h3⟩ := consE h2
  have e := List.eq_nil_of_length_eq_zero h3
  exact ⟨x0, x1, x2, x3, by rw [e0, e1, e2, e3, e]⟩
/-! ### the head -/
open Classical in
theorem law_callT {P q : Program} {loose : List Str} {mean : ExcName → Option Value} {w : World} {K : PySem.W.Frag} {mg mb : Str → Option Value} {k : Nat} {fa a : Addr} {fd : FuncData} {x : Str} {s₁ : Shared} {vs : List Value} {ns : List Int}
    (T : Top q loose mean mg mb s₁.heap) (hq : ∀ y : Str, (recsOf P).any (fun d => d.name == y) = true → (recsOf q).any (fun d => d.name == y) = true) (hnt : PySem.W.noTabs K = true) (KX : K.In s₁.heap) (hg : s₁.gens = #[])
    (ha : s₁.heap.get? a = some { cls := .type "list", data := .seq vs.toArray }) (hi : IntsAre vs ns) (hl : ns.length ≤ 63) (hr : Room k callerA)
    (F : ∀ base : Heap, K.In base → base.Ns mainGlobals mg → ∃ mg', FnOk P w K mg base CX0 k fa fd [x] (liftSp K mg' spLaw3)) (hbind : ∀ (s : Shared) (u : Value), BindsTo s fd ⟨[u], []⟩ [(x, u)]) :
    codeAny (model P w) callerA (.call (.ref fa) ⟨[.ref a], []⟩) (fun r s' => r = .ok (.ret (.bool true)) ∧ OldK s₁.heap s'.heap ∧ s'.os = s₁.os ∧ AllBare s'.gens) s₁ := by
  have rv := vals_ints hi
  have lenV := hi.length
  have sz : (63 : Nat) ≤ sizeLine := by decide
  let IsT : Addr → Prop := fun b => ∃ y c, PySem.W.tabIn K y = some (c, b) ∧ (recsOf P).any (fun d => d.name == y) = true
  have tabs : ∀ {y : Str} {c b : Addr}, PySem.W.tabIn K y = some (c, b) → (recsOf P).any (fun d => d.name == y) = true → PySem.W.CodeHd s₁.heap c b ∧ s₁.heap.get? b = some (PySem.W.tabObj #[]) := fun {y c b} h1 h2 => by
    have h3 := hq y h2
    cases e : (recsOf q).find? (fun d => d.name == y) with
    | some d => exact PySem.W.tab_of T KX e h1
    | none =>
      obtain ⟨d, hd, hn⟩ := List.any_eq_true.mp h3
      exact absurd hn (List.find?_eq_none.mp e d hd)
  have tabG : ∀ {b : Addr}, IsT b → s₁.heap.get? b = some (PySem.W.tabObj #[]) := fun ⟨_, _, h1, h2⟩ => (tabs h1 h2).2
  let H : Hp := fun b => if b = a ∧ K.lookup a = none then some (.frz { cls := .type "list", data := .seq vs.toArray } (.lst (ns.map V.int))) else if IsT b then some (.tbl #[]) else none
  have Ha : K.lookup a = none → H a = some (.frz { cls := .type "list", data := .seq vs.toArray } (.lst (ns.map V.int))) := fun h => if_pos ⟨rfl, h⟩
  have neT : ∀ {b : Addr}, IsT b → b ≠ a := fun t z => by
    have := tabG t
    rw [z, ha] at this
    cases this
  have Ht : ∀ {b : Addr}, IsT b → H b = some (.tbl #[]) := fun {b} t => (if_neg (fun z => neT t z.1)).trans (if_pos t)
  have Hn : ∀ {b : Addr}, ¬ (b = a ∧ K.lookup a = none) → ¬ IsT b → H b = none := fun {b} h1 h2 => (if_neg h1).trans (if_neg h2)
  have three : ∀ b, H b = none ∨ (b = a ∧ K.lookup a = none) ∨ IsT b := fun b => by
    by_cases h1 : b = a ∧ K.lookup a = none
    · exact .inr (.inl h1)
    · by_cases h2 : IsT b
      · exact .inr (.inr h2)
      · exact .inl (Hn h1 h2)
  have free_of : ∀ {b : Addr} {o : Obj}, s₁.heap.get? b = some o → (∀ xs n, o.data ≠ .seq xs n) → o ≠ PySem.W.tabObj #[] → H b = none := fun {b o} e h1 h2 => by
    refine Hn (fun z => ?_) (fun z => ?_)
    · rw [z.1, ha] at e
      cases e
      exact h1 _ _ rfl
    · have := tabG z
      rw [e] at this
      exact h2 (Option.some.inj this)
  have hok : HOk P w H s₁.heap := fun b u e => by
    rcases three b with z | z | z
    · rw [z] at e; cases e
    · obtain ⟨rfl, z⟩ := z
      rw [Ha z] at e
      cases e
      exact ⟨ha, by rw [List.length_map]; exact Nat.le_trans hl sz, vs, _, rv, ha⟩
    · rw [Ht z] at e
      cases e
      exact ⟨#[], tabG z, trivial, fun pos cv z => by cases z⟩
  have base_of : ∀ {b : Addr} {o : Obj}, s₁.heap.get? b = some o → H b = none → (hidT s₁.heap H).get? b = some o := fun e n => hidT_get e n
  have nsK : ∀ {b : Addr} {m : Str → Option Value}, s₁.heap.Ns b m → (hidT s₁.heap H).Ns b m := fun {b m} ⟨o, es, ep, e, d, r⟩ => ⟨o, es, ep, base_of e (free_of e (fun xs n z => by rw [d] at z; cases z) (fun z => by rw [z] at d; cases d)), d, r⟩
  have hKb : K.In (hidT s₁.heap H) := fun b o e => base_of (KX b o e) (Hn (fun z => by rw [z.1, z.2] at e; cases e) (fun z => by
    have h1 := tabG z
    rw [KX b o e] at h1
    have h2 := List.all_eq_true.mp hnt (b, o) (PySem.W.mem_of_lookupK e)
    rw [Option.some.inj h1] at h2
    exact absurd (show false = true from h2) Bool.false_ne_true))
  have hM : Mod K mg (hidT s₁.heap H) := ⟨hKb, nsK T.g, ⟨mb, nsK T.b, T.builtins⟩, let ⟨mc, h1, h2⟩ := T.nolimit; ⟨mc, nsK h1, h2⟩⟩
  have hTB : TB P K mg (hidT s₁.heap H) H := by
    refine ⟨?_, fun y c b h1 h2 => ⟨?_, #[], Ht ⟨y, c, h1, h2⟩⟩⟩
    · obtain ⟨bm, ob, b1, b2, b3, b4, b5, b6⟩ := T.bmain
      exact ⟨bm, ob, b1, b2, base_of b3 (free_of b3 (fun xs n z => by rw [b6] at z; cases z) (fun z => by rw [z] at b4; cases b4)), b4, b5, b6⟩
    · obtain ⟨o, fs, file, tf, flags, tg, inF, text, tt, g1, g2, g3, g4⟩ := (tabs h1 h2).1
      exact ⟨o, fs, file, tf, flags, tg, inF, text, tt, base_of g1 (free_of g1 (fun xs n z => by rw [g3] at z; cases z) (fun z => by rw [z] at g2; cases g2)), g2, g3, g4⟩
  have e0 : Env0 P w K mg (hidT s₁.heap H) callerA [] s₁ H := ⟨rfl, hM, fun b o e => of_hidT e, Nat.le_of_eq (hidT_size _ _), trivial, fun b hb => absurd (show b ∈ ([] : List Addr) from hb) (by simp), hok, .of_eq hg, hTB⟩
  have hS : SqL K H a (ns.map V.int) := by
    cases hk : K.lookup a with
    | some o =>
      have e := KX a o hk
      rw [ha] at e
      cases e
      exact .inr ⟨_, vs.toArray, _, hk, rfl, rfl, rfl, by rw [List.size_toArray, lenV]; exact Nat.le_trans hl sz, by simpa using rv⟩
    | none => exact .inl (.inr ⟨_, Ha hk⟩)
  obtain ⟨mg', FF⟩ := F _ hKb (nsK T.g)
  refine codeAny_mono (FF.run callerA [] s₁ H ⟨[.ref a], []⟩ [.ref a] [.ref a] (fun v _ => v = .bl true) (fun _ _ _ => False) hr e0 (hbind s₁ (.ref a)) (.cons rfl .nil) ⟨H, [.r (ns.map D.int)], fun s => s = .d (.bl true), NoU, Same.refl H, ⟨rfl, fun i v s h1 h2 => ?_⟩, ⟨ns, rfl, hl, rfl⟩, fun s v q _ i _ e => ?_, fun _ _ _ _ _ z => z.elim⟩) fun r s' h => ?_
  · cases i with
    | zero =>
      cases h1
      cases h2
      exact ⟨⟨a, _, rfl, hS, iss_ints ns⟩, rfl⟩
    | succ i => cases h1
  · subst e
    exact Is.bl_inv i
  cases r with
  | error e => exact (show False from h).elim
  | ok fl =>
    cases fl with
    | next => exact False.elim h
    | brk => exact False.elim h
    | cont => exact False.elim h
    | ret u =>
      obtain ⟨v, H', os, bare, un, hok', r', g⟩ := h
      have g' : v = .bl true := g
      subst g'
      obtain rfl : u = Value.bool true := r'
      refine ⟨rfl, ⟨fun b o e => ?_, fun b o e => un.there b o e (by simp)⟩, os, bare⟩
      rcases three b with z | z | z
      · exact .inl (un.keep b o e z (by intro z; exact absurd (show b ∈ ([] : List Addr) from z) (by simp)) (by simp))
      · obtain ⟨rfl, z⟩ := z
        obtain ⟨e2, _⟩ := hok' b _ (un.frzs b _ _ (Ha z))
        rw [ha] at e
        cases e
        exact .inl e2
      · have e1 := tabG z
        obtain ⟨y, c, h1, h2⟩ := id z
        rw [e] at e1
        cases e1
        obtain ⟨more, e3⟩ := un.tbls b _ (Ht z)
        obtain ⟨tab, e4, _⟩ := (show TabOk H' s'.heap b from hok' b _ e3)
        exact .inr (.inl ⟨((tabs h1 h2).1.tab (tabs h1 h2).2).isCodeTable, rfl, #[], tab, rfl, by rw [e4]; simp⟩)
theorem walk3 {l : PySem.W.OpenLaw} {k : Nat} {q : Program} {loose : List Str} {XP : (Str → Option Value) → Heap → Prop} {YP : World → Heap → Prop} {d : DefRec} {K : Params → PySem.W.Frag} {x : Str} (hn : l.most = some 63) (hdf : d.params.defaults = []) (hr : Room k callerA)
    (hq : ∀ y : Str, (recsOf l.prog).any (fun d => d.name == y) = true → (recsOf q).any (fun d => d.name == y) = true)
    (hY : ∀ (w : World) (h : Heap), YP w h → (K w.params).In h) (hnt : ∀ w : World, PySem.W.noTabs (K w.params) = true)
    (F : ∀ (w : World) (mg : Str → Option Value) (fa : Addr) (h : Heap), (K w.params).In h → h.Ns mainGlobals mg → mg d.name = some (.ref fa) →
      ∃ fd : FuncData, (∀ (s : Shared) (u : Value), BindsTo s fd ⟨[u], []⟩ [(x, u)]) ∧ ∀ base : Heap, (K w.params).In base → base.Ns mainGlobals mg → ∃ mg', FnOk l.prog w (K w.params) mg base CX0 k fa fd [x] (liftSp (K w.params) mg' spLaw3)) :
    PySem.W.WalkO q loose XP YP l.row.toRowW d [] (fun f vs => PySem.call f vs) := by
  refine Att.attach_call hn hdf fun w s₀ s₁ mg mb fa o pm cd doc a vs ns G Y ho hd hcd hmg hobj hints hlen hg => ?_
  have KX := hY w _ Y
  obtain ⟨fd, hb, hF⟩ := F w mg fa _ KX G.T.g hmg
  exact law_callT G.T hq (hnt w) KX hg hobj hints hlen hr hF hb
end L3
namespace L3
open PySem PySem.Spec PyProof.Rows L2
section
variable {X : Cx} {e a b : Expr} {te ta tb : TE3} {pos : Pos}
end
end L3
namespace L3
open PySem PySem.Spec PyProof.Rows L2
/-! ### for i, x in enumerate(..) -/
section
variable {X : Cx} {pos : Pos}
end
end L3
namespace L3
open PySem L2
section
variable {X : Cx}
theorem vals_ints {vs : List Value} {ns : List Int} (h : PyProof.Rows.IntsAre vs ns) : Vals (ns.map V.int) vs := by
  induction h with
  | nil => exact .nil
  | cons n t _ ih => exact .cons ⟨t, rfl⟩ ih
end
end L3
namespace CH
open PySem L2 L3
/-! ### curves: corners as pairs of rationals, and the last slope -/
def qd (q : Rat) : D := .tup [.int q.num, .int (q.den : Int)]
abbrev tp (a b : Int) : D := .tup [.int a, .int b]
abbrev Cs := List (Rat × Rat)
def cd (c : Rat × Rat) : D := .tup [qd c.1, qd c.2]
def tt (cs : Cs) (k : Nat) : Rat := (cs.getD k (0, 0)).1
def vv (cs : Cs) (k : Nat) : Rat := (cs.getD k (0, 0)).2
def slp (cs : Cs) (m : Rat) (k : Nat) : Rat := if k + 1 < cs.length then (vv cs (k + 1) - vv cs k) / (tt cs (k + 1) - tt cs k) else m
def Up (cs : Cs) : Prop := ∀ k, k + 1 < cs.length → tt cs k < tt cs (k + 1)
def SzC (n : Nat) (cs : Cs) : Prop := ∀ k, k < cs.length → Sz n (tt cs k) ∧ Sz n (vv cs k)
end CH
namespace CH
open PySem L2 L3
theorem atR {o : Option D} {d : D} {F : D → Prop} (e : o = some d) (h : F d) : (match (generalizing := false) o with | some d => F d | none => False) := by subst e; exact h
def L4 (k : Nat) (a b c d : Int) : Prop := a.natAbs < 2 ^ k ∧ b.natAbs < 2 ^ k ∧ c.natAbs < 2 ^ k ∧ d.natAbs < 2 ^ k
theorem l4 {k m : Nat} {p q : Rat} (hp : Sz m p) (hq : Sz m q) (h : m ≤ k) : L4 k p.num p.den q.num q.den := ⟨up_lt hp.1 h, up_lt (den_lt hp) h, up_lt hq.1 h, up_lt (den_lt hq) h⟩
/-- a bound that omega doesn't see -/
def Lb (k : Nat) (a : Int) : Prop := a.natAbs < 2 ^ k
theorem num_eq' (q : Rat) : ((q.num : Int) : Rat) = q * (((q.den : Nat) : Int) : Rat) := by rw [Rat.intCast_natCast]; exact num_eq q
theorem one_lt {k : Nat} (h : k ≠ 0) : (1 : Int).natAbs < 2 ^ k := Nat.one_lt_two_pow h
theorem one_c : ((1 : Int) : Rat) = 1 * ((1 : Int) : Rat) := by simp
/-- the corners that are kept, of the first n behind the begin -/
def kp (cs : Cs) (m : Rat) : Nat → Cs
  | 0 => [(tt cs 0, vv cs 0)]
  | n + 1 => if slp cs m n = slp cs m (n + 1) then kp cs m n else kp cs m n ++ [(tt cs (n + 1), vv cs (n + 1))]
theorem tt_l {L M : Cs} {k : Nat} (h : k < L.length) : tt (L ++ M) k = tt L k := by
  unfold tt; rw [List.getD_eq_getElem?_getD, List.getD_eq_getElem?_getD, List.getElem?_append_left h]
theorem vv_l {L M : Cs} {k : Nat} (h : k < L.length) : vv (L ++ M) k = vv L k := by
  unfold vv; rw [List.getD_eq_getElem?_getD, List.getD_eq_getElem?_getD, List.getElem?_append_left h]
theorem tt_r {L : Cs} {c : Rat × Rat} : tt (L ++ [c]) L.length = c.1 := by
  unfold tt; rw [List.getD_eq_getElem?_getD, List.getElem?_append_right (Nat.le_refl _)]; simp
theorem vv_r {L : Cs} {c : Rat × Rat} : vv (L ++ [c]) L.length = c.2 := by
  unfold vv; rw [List.getD_eq_getElem?_getD, List.getElem?_append_right (Nat.le_refl _)]; simp
theorem len_snoc {L : Cs} {c : Rat × Rat} : (L ++ [c]).length = L.length + 1 := by simp
/-- corners in their order -/
structure Ord (cs : Cs) : Prop where
  ne : 0 < cs.length
  t0 : tt cs 0 = 0
  v0 : 0 ≤ vv cs 0
  up : Up cs
  vu : ∀ k, k + 1 < cs.length → vv cs k ≤ vv cs (k + 1)
theorem Ord.snoc {L : Cs} {c : Rat × Rat} (h : Ord L) (ht : tt L (L.length - 1) < c.1) (hv : vv L (L.length - 1) ≤ c.2) : Ord (L ++ [c]) := by
  have n := h.ne
  refine ⟨by rw [len_snoc]; omega, by rw [tt_l n]; exact h.t0, by rw [vv_l n]; exact h.v0, fun k hk => ?_, fun k hk => ?_⟩
  all_goals
    rw [len_snoc] at hk
    by_cases e : k + 1 < L.length
  · rw [tt_l e, tt_l (by omega)]; exact h.up k e
  · have e' : k + 1 = L.length := by omega
    rw [e', tt_r, tt_l (by omega), show k = L.length - 1 by omega]; exact ht
  · rw [vv_l e, vv_l (by omega)]; exact h.vu k e
  · have e' : k + 1 = L.length := by omega
    rw [e', vv_r, vv_l (by omega), show k = L.length - 1 by omega]; exact hv
theorem Ord.one {v : Rat} (h : 0 ≤ v) : Ord [(0, v)] := ⟨Nat.one_pos, rfl, h, fun k hk => by simp at hk, fun k hk => by simp at hk⟩
theorem SzC.snoc {n : Nat} {L : Cs} {c : Rat × Rat} (h : SzC n L) (h1 : Sz n c.1) (h2 : Sz n c.2) : SzC n (L ++ [c]) := fun k hk => by
  rw [len_snoc] at hk
  by_cases e : k < L.length
  · rw [tt_l e, vv_l e]; exact h k e
  · rw [show k = L.length by omega, tt_r, vv_r]; exact ⟨h1, h2⟩
theorem SzC.one {n : Nat} {v : Rat} (h0 : 1 ≤ n) (h : Sz n v) : SzC n [(0, v)] := fun k hk => by
  have : k = 0 := by simp at hk; omega
  subst this
  exact ⟨Sz.zero.mono h0, h⟩
theorem SzC.mono {n m : Nat} {L : Cs} (h : SzC n L) (hk : n ≤ m) : SzC m L := fun k hl => ⟨(h k hl).1.mono hk, (h k hl).2.mono hk⟩
theorem sz_of {a b : Int} {k : Nat} (hb : 0 < b) (h1 : a.natAbs < 2 ^ k) (h2 : b.natAbs < 2 ^ k) : Sz k (Rat.divInt a b) := sz_divInt (by omega) h1 h2
/-- the piece of a time: the last corner of the first n that is not behind it (the begin else) -/
def plc (cs : Cs) (t : Rat) : Nat → Nat
  | 0 => 0
  | n + 1 => if t < tt cs n then plc cs t n else n
/-- the value of a curve at a time -/
def val (cs : Cs) (m t : Rat) : Rat := vv cs (plc cs t cs.length) + slp cs m (plc cs t cs.length) * (t - tt cs (plc cs t cs.length))
/-- numbers above and below that are worth a rational -/
structure Wq (k : Nat) (a b : Int) (q : Rat) : Prop where
  pos : 0 < b
  eq : (a : Rat) = q * b
  la : Lb k a
  lb : Lb k b
theorem Wq.mono {k n : Nat} {a b : Int} {q : Rat} (h : Wq k a b q) (hk : k ≤ n) : Wq n a b q := ⟨h.pos, h.eq, up_lt h.la hk, up_lt h.lb hk⟩
theorem Wq.of {k : Nat} {q : Rat} (h : Sz k q) : Wq k q.num q.den q := ⟨by have := den_pos q; omega, num_eq' q, h.1, den_lt h⟩
theorem Wq.inv {k : Nat} {a b : Int} {q : Rat} (h : Wq k a b q) (hq : 0 < q) : 0 < a ∧ Wq k b a (1 / q) := by
  have hb : (0 : Rat) < (b : Rat) := Rat.intCast_pos.mpr h.pos
  have ha : (0 : Rat) < (a : Rat) := by rw [h.eq]; exact Rat.mul_pos hq hb
  have ha' : 0 < a := Rat.intCast_pos.mp ha
  have q0 : q ≠ 0 := fun z => absurd (z ▸ hq) Rat.lt_irrefl
  refine ⟨ha', ha', ?_, h.lb, h.la⟩
  rw [h.eq]
  grind
theorem Wq.one : Wq 1 1 1 1 := ⟨by decide, one_c, one_lt (by decide), one_lt (by decide)⟩
theorem Wq.l4 {k n : Nat} {a b c d : Int} {p q : Rat} (h : Wq k a b p) (g : Wq k c d q) (hk : k ≤ n) : L4 n a b c d := ⟨up_lt h.la hk, up_lt h.lb hk, up_lt g.la hk, up_lt g.lb hk⟩
def pre (cs : Cs) (n : Nat) : Cs := cs.take (n + 1)
theorem Wq.sz {k : Nat} {a b : Int} {q : Rat} (h : Wq k a b q) : Sz k q := by
  have hb : (b : Rat) ≠ 0 := fun z => absurd (Rat.intCast_eq_zero_iff.mp z) (Int.ne_of_gt h.pos)
  have e : q = Rat.divInt a b := by
    rw [Rat.divInt_eq_div, h.eq]
    grind
  rw [e]
  exact sz_of h.pos h.la h.lb
theorem Wq.same {k n : Nat} {a b : Int} {q : Rat} (h : Wq k a b q) : q.num * b = a * (q.den : Int) := by
  rw [← Rat.intCast_inj, Rat.intCast_mul, Rat.intCast_mul, h.eq, num_eq' q]
  grind
end CH
namespace CH
open PySem PySem.Builtin.Str
/-! ### texts as lists of signs -/
def mkS (l : List Nat) : Str := ⟨l.toArray⟩
theorem mkS_of (x : Str) : mkS x.cps.toList = x := by cases x; rfl
theorem mkS_list (l : List Nat) : (mkS l).cps.toList = l := rfl
theorem mkS_inj {a b : List Nat} (h : mkS a = mkS b) : a = b := by
  have := congrArg (fun x : Str => x.cps.toList) h
  simpa [mkS] using this
theorem mkS_len (l : List Nat) : (mkS l).length = l.length := by simp [mkS, Str.length]
theorem mkS_app (a b : List Nat) : mkS a ++ mkS b = mkS (a ++ b) := by
  show Str.append (mkS a) (mkS b) = mkS (a ++ b)
  simp [mkS, Str.append]
/-- parted at each c -/
def cutAt (c : Nat) : List Nat → List (List Nat)
  | [] => [[]]
  | d :: r => if d = c then [] :: cutAt c r else match cutAt c r with
    | [] => [[d]]
    | p :: ps => (d :: p) :: ps
def posAt (c : Nat) : Nat → List Nat → List Nat
  | _, [] => []
  | k, d :: r => if d = c then k :: posAt c (k + 1) r else posAt c (k + 1) r
theorem cutAt_ne (c : Nat) : ∀ l, ∃ p ps, cutAt c l = p :: ps
  | [] => ⟨[], [], rfl⟩
  | d :: r => by
    unfold cutAt
    split
    · exact ⟨_, _, rfl⟩
    · split
      · exact ⟨_, _, rfl⟩
      · exact ⟨_, _, rfl⟩
theorem occ_pos (x : Str) (c : Nat) : ∀ (m k : Nat) (st : Array Nat × Nat), k + m = x.length + 1 → st.2 ≤ k → st.1.size ≤ k →
    (forIn (m := Id) (List.range' k m) st (StrLaws.occBody x ⟨#[c]⟩ x.length (x.length + 1))).run.fst.toList = st.1.toList ++ posAt c k (x.cps.toList.drop k) := by
  have hn : x.cps.toList.length = x.length := Array.length_toList
  intro m
  induction m with
  | zero =>
    intro k st h1 _ _
    have : x.cps.toList.drop k = [] := List.drop_eq_nil_of_le (by omega)
    rw [this]
    simp [posAt]
  | succ m ih =>
    intro k st h1 h2 h3
    rw [List.range'_succ, List.forIn_cons]
    unfold StrLaws.occBody
    have hk := StrLaws.subAt_one x c k
    by_cases e : x.cps.toList[k]? = some c
    · have hc := hk.mpr e
      rw [if_pos ⟨⟨⟨by omega, h2⟩, hc.1⟩, hc.2⟩]
      have hlt : k < x.cps.toList.length := (List.getElem?_eq_some_iff.mp e).1
      have hd : x.cps.toList.drop k = c :: x.cps.toList.drop (k + 1) := by
        rw [List.drop_eq_getElem_cons hlt]
        congr 1
        exact (List.getElem?_eq_some_iff.mp e).2
      have := ih (k + 1) (st.1.push k, k + (⟨#[c]⟩ : Str).length) (by omega) (Nat.le_refl _) (by simp; omega)
      rw [hd]
      show (forIn (m := Id) (List.range' (k + 1) m) (st.1.push k, k + (⟨#[c]⟩ : Str).length) (StrLaws.occBody x ⟨#[c]⟩ x.length (x.length + 1))).run.fst.toList = _
      rw [this]
      simp [posAt]
    · rw [if_neg fun z => e (hk.mp ⟨z.1.2, z.2⟩)]
      have := ih (k + 1) (st.1, st.2) (by omega) (by show st.2 ≤ k + 1; omega) (by show st.1.size ≤ k + 1; omega)
      show (forIn (m := Id) (List.range' (k + 1) m) (st.1, st.2) (StrLaws.occBody x ⟨#[c]⟩ x.length (x.length + 1))).run.fst.toList = _
      rw [this]
      congr 1
      by_cases hlt : k < x.cps.toList.length
      · rw [List.drop_eq_getElem_cons hlt]
        have hne : x.cps.toList[k] ≠ c := fun z => e (by rw [List.getElem?_eq_getElem hlt, z])
        rw [posAt, if_neg hne]
      · rw [List.drop_eq_nil_of_le (by omega), List.drop_eq_nil_of_le (by omega)]
        rfl
theorem occ_is (x : Str) (c : Nat) : occurrences x ⟨#[c]⟩ 0 x.length (x.length + 1) = posAt c 0 x.cps.toList := by
  rw [StrLaws.occ_eq]
  have := occ_pos x c (x.length + 1) 0 (#[], 0) (by omega) (Nat.le_refl _) (Nat.le_refl _)
  simpa using this
theorem take_more {l : List Nat} {a k d : Nat} {r : List Nat} (h : l.drop k = d :: r) (hak : a ≤ k) : (l.drop a).take (k + 1 - a) = (l.drop a).take (k - a) ++ [d] := by
  have hlt : k < l.length := by
    rcases Nat.lt_or_ge k l.length with z | z
    · exact z
    · rw [List.drop_eq_nil_of_le z] at h; cases h
  have hd : l[k] = d := by
    rw [List.drop_eq_getElem_cons hlt] at h
    exact (List.cons.inj h).1
  have e : k + 1 - a = (k - a) + 1 := by omega
  rw [e, List.take_add_one]
  congr 1
  rw [List.getElem?_drop]
  have e2 : a + (k - a) = k := by omega
  rw [e2, List.getElem?_eq_getElem hlt, hd]
  rfl
theorem parts_is (l : List Nat) (c : Nat) : ∀ (r : List Nat) (k a : Nat), l.drop k = r → a ≤ k → k ≤ l.length → ∃ p ps, cutAt c r = p :: ps ∧
    ((a :: (posAt c k r).map (· + 1)).zip (posAt c k r ++ [l.length])).map (fun z => (l.drop z.1).take (z.2 - z.1)) = ((l.drop a).take (k - a) ++ p) :: ps := by
  intro r
  induction r with
  | nil =>
    intro k a h hak hkl
    have : l.length ≤ k := List.drop_eq_nil_iff.mp h
    have e : k = l.length := by omega
    subst e
    exact ⟨[], [], rfl, by simp [posAt]⟩
  | cons d r ih =>
    intro k a h hak hkl
    have hlt : k < l.length := by
      rcases Nat.lt_or_ge k l.length with z | z
      · exact z
      · rw [List.drop_eq_nil_of_le z] at h; cases h
    have h' : l.drop (k + 1) = r := by
      rw [← List.drop_drop, h]; rfl
    by_cases e : d = c
    · obtain ⟨p, ps, e1, e2⟩ := ih (k + 1) (k + 1) h' (Nat.le_refl _) hlt
      refine ⟨[], cutAt c r, by rw [cutAt, if_pos e], ?_⟩
      have e3 : posAt c k (d :: r) = k :: posAt c (k + 1) r := by rw [posAt, if_pos e]
      rw [e3, List.map_cons, List.cons_append, List.zip_cons_cons, List.map_cons, e2, e1]
      simp
    · obtain ⟨p, ps, e1, e2⟩ := ih (k + 1) a h' (by omega) hlt
      refine ⟨d :: p, ps, by rw [cutAt, if_neg e, e1], ?_⟩
      have e3 : posAt c k (d :: r) = posAt c (k + 1) r := by rw [posAt, if_neg e]
      rw [e3, e2, take_more h hak]
      simp
theorem cut_cons {c d : Nat} {r p : List Nat} {ps : List (List Nat)} (h : cutAt c r = p :: ps) (hd : d ≠ c) : cutAt c (d :: r) = (d :: p) :: ps := by rw [cutAt, if_neg hd, h]
theorem cut_no {c : Nat} : ∀ {p : List Nat}, c ∉ p → cutAt c p = [p]
  | [], _ => rfl
  | d :: r, h => cut_cons (cut_no fun z => h (List.mem_cons_of_mem _ z)) fun z => h (by rw [z]; exact List.mem_cons_self ..)
theorem cut_app {c : Nat} {r : List Nat} : ∀ {p : List Nat}, c ∉ p → cutAt c (p ++ c :: r) = p :: cutAt c r
  | [], _ => by rw [List.nil_append, cutAt, if_pos rfl]
  | d :: q, h => cut_cons (cut_app fun z => h (List.mem_cons_of_mem _ z)) fun z => h (by rw [z]; exact List.mem_cons_self ..)
theorem pos_nil {c : Nat} : ∀ {l : List Nat} {k : Nat}, posAt c k l = [] → c ∉ l
  | [], _, _ => by simp
  | d :: r, k, h => by
    rw [posAt] at h
    split at h
    · cases h
    · rename_i e
      intro z
      rcases List.mem_cons.mp z with z | z
      · exact e z.symm
      · exact pos_nil h z
theorem sub_is (x : Str) (i j : Nat) (h : j ≤ x.length) : strSub x i j = mkS ((x.cps.toList.drop i).take (j - i)) := by
  unfold strSub mkS
  congr 1
  apply Array.ext'
  simp [Array.toList_extract, List.extract_eq_take_drop]
theorem pos_lt (c : Nat) : ∀ (l : List Nat) (k : Nat), ∀ i ∈ posAt c k l, i < k + l.length
  | [], _, i, h => by simp [posAt] at h
  | d :: r, k, i, h => by
    have := pos_lt c r (k + 1)
    rw [posAt] at h
    simp only [List.length_cons]
    split at h
    · rcases List.mem_cons.mp h with z | z
      · omega
      · have := this i z; omega
    · have := this i h; omega
theorem parts_cut (x : Str) (c : Nat) : partsBetween x (posAt c 0 x.cps.toList) 1 = (cutAt c x.cps.toList).map mkS := by
  have hn : x.cps.toList.length = x.length := Array.length_toList
  obtain ⟨p, ps, e1, e2⟩ := parts_is x.cps.toList c x.cps.toList 0 0 rfl (Nat.le_refl _) (Nat.zero_le _)
  have e3 : cutAt c x.cps.toList = ((0 :: (posAt c 0 x.cps.toList).map (· + 1)).zip (posAt c 0 x.cps.toList ++ [x.cps.toList.length])).map (fun z => (x.cps.toList.drop z.1).take (z.2 - z.1)) := by
    rw [e2, e1]; simp
  rw [e3]
  unfold partsBetween
  rw [List.map_map, hn]
  refine List.map_congr_left fun z hz => ?_
  have hz2 := List.of_mem_zip hz
  have : z.2 ≤ x.length := by
    rcases List.mem_append.mp hz2.2 with w | w
    · have := pos_lt c _ _ _ w; omega
    · have : z.2 = x.length := by simpa using w
      omega
  exact sub_is x z.1 z.2 this
theorem kind_one {x : Str} {c : Nat} (hc : c < 256) : (Builtin.Str.strKind x < Builtin.Str.strKind ⟨#[c]⟩) = False := by
  have : Builtin.Str.strKind ⟨#[c]⟩ = 1 := by
    unfold Builtin.Str.strKind
    rw [if_pos]
    simpa using hc
  rw [this]
  unfold Builtin.Str.strKind
  simp only [eq_iff_iff, iff_false]
  repeat' split
  all_goals decide
/-! ### numbers as texts -/
open NumText
theorem digits_all (m : Nat) : ∀ c ∈ (Nat.toDigits 10 m).map Char.toNat, 48 ≤ c ∧ c ≤ 57 := by
  intro c hc
  obtain ⟨ch, hch, e⟩ := List.mem_map.mp hc
  have h := Nat.isDigit_of_mem_toDigits (by decide) (by decide) hch
  rw [← e]
  simp only [Char.isDigit, Bool.and_eq_true, decide_eq_true_eq] at h
  have h1 : (48 : Nat) ≤ ch.val.toNat := h.1
  have h2 : ch.val.toNat ≤ 57 := h.2
  exact ⟨h1, h2⟩
end CH
namespace CH
open PySem PySem.Builtin.Str NumText
def num (m : Nat) : List Nat := (Nat.toDigits 10 m).map Char.toNat
theorem num_all (m : Nat) : AllDigits (num m) := digits_all m
theorem num_len {m k : Nat} (hk : 0 < k) (h : m < 10 ^ k) : (num m).length ≤ k := by unfold num; rw [List.length_map]; exact (Nat.length_toDigits_le_iff (by decide) hk).mpr h
/-- what a number's text is worth -/
def fig (l : List Nat) : Option Nat := if l ≠ [] ∧ l.length ≤ 60 ∧ (∀ c ∈ l, 48 ≤ c ∧ c ≤ 57) ∧ ¬ (l.head? = some 48 ∧ 1 < l.length) then some (digitsVal l) else none
def rdR (l : List Nat) : Option (Nat × Nat) := match cutAt 47 l with
  | [p] => (fig p).map (·, 1)
  | [p, q] => match fig p, fig q with
    | some a, some b => if 2 ≤ b ∧ Nat.gcd a b = 1 then some (a, b) else none
    | _, _ => none
  | _ => none
def shown (a b : Nat) : List Nat := if b = 1 then num a else num a ++ 47 :: num b
/-- a number's text -/
def tx (i : Int) : Str := Str.ofString (toString i)
theorem tx_nat (m : Nat) : tx (m : Int) = mkS (num m) := by
  rw [← mkS_of (tx (m : Int))]
  exact congrArg mkS (PySem.W.KIN.signs_num m)
theorem stroke : (Str.ofString "/") = mkS [47] := by decide +kernel
theorem asc_all {l : List Nat} (h : ∀ c ∈ l, c < 128) : (mkS l).cps.all (· < 128) = true := by
  rw [← Array.all_toList, List.all_eq_true]
  exact fun c hc => decide_eq_true (h c hc)
theorem log2_small {i : Int} (h : i.natAbs < 2 ^ 1000) : i.natAbs.log2 < 1920 := by
  by_cases z : i.natAbs = 0
  · rw [z]; decide
  · exact Nat.lt_trans ((Nat.log2_lt z).mpr h) (by decide)
theorem int_fig {l : List Nat} {n : Nat} (h : fig l = some n) : PySem.intText? (mkS l) = some (n : Int) := by
  unfold fig at h
  split at h
  · rename_i c
    cases h
    exact intText_digits (x := mkS l) c.2.2.1 c.1 (by rw [mkS_len]; omega)
  · cases h
theorem fig_len {l : List Nat} (h : l = [] ∨ 60 < l.length) : fig l = none := by
  unfold fig
  rw [if_neg]
  intro z
  rcases h with h | h
  · exact z.1 h
  · have := z.2.1
    omega
theorem fig_dig {l : List Nat} {c : Nat} (h : c ∈ l) (hc : ¬ (48 ≤ c ∧ c ≤ 57)) : fig l = none := by
  unfold fig
  rw [if_neg]
  exact fun z => hc (z.2.2.1 c h)
theorem fig_head {l : List Nat} (h : l.head? = some 48 ∧ 1 < l.length) : fig l = none := by
  unfold fig
  rw [if_neg]
  exact fun z => z.2.2.2 h
theorem fig_some {l : List Nat} (h1 : ¬ (l = [] ∨ 60 < l.length)) (h2 : ∀ c ∈ l, 48 ≤ c ∧ c ≤ 57) (h3 : ¬ (l.head? = some 48 ∧ 1 < l.length)) : fig l = some (digitsVal l) := by
  unfold fig
  rw [if_pos]
  exact ⟨fun z => h1 (.inl z), by omega, h2, h3⟩
theorem cut_sub (c : Nat) : ∀ (l : List Nat), ∀ p ∈ cutAt c l, p.length ≤ l.length ∧ ∀ d ∈ p, d ∈ l
  | [], p, h => by
    have : p = [] := by simpa [cutAt] using h
    subst this
    exact ⟨Nat.le_refl _, fun d h => h⟩
  | d :: r, p, h => by
    have ih := cut_sub c r
    obtain ⟨a, ps, e⟩ := cutAt_ne c r
    rw [cutAt, e] at h
    rw [e] at ih
    split at h
    · rcases List.mem_cons.mp h with h | h
      · subst h
        exact ⟨Nat.zero_le _, fun d h => by cases h⟩
      · have := ih p h
        exact ⟨by simp only [List.length_cons]; omega, fun z hz => List.mem_cons_of_mem _ (this.2 z hz)⟩
    · rcases List.mem_cons.mp h with h | h
      · subst h
        have := ih a (List.mem_cons_self ..)
        refine ⟨by simp only [List.length_cons]; omega, fun z hz => ?_⟩
        rcases List.mem_cons.mp hz with hz | hz
        · rw [hz]; exact List.mem_cons_self ..
        · exact List.mem_cons_of_mem _ (this.2 z hz)
      · have := ih p (List.mem_cons_of_mem _ h)
        exact ⟨by simp only [List.length_cons]; omega, fun z hz => List.mem_cons_of_mem _ (this.2 z hz)⟩
theorem figs_list : (Str.ofString "0123456789").cps.toList = [48, 49, 50, 51, 52, 53, 54, 55, 56, 57] := by decide +kernel
theorem zero_is {c : Nat} : (⟨#[c]⟩ : Str) = Str.ofString "0" ↔ c = 48 := by
  have e : Str.ofString "0" = ⟨#[48]⟩ := by decide +kernel
  rw [e]
  constructor
  · intro h
    have := congrArg (fun x : Str => x.cps.toList) h
    simpa using this
  · rintro rfl; rfl
end CH
namespace L3
open PySem PySem.Spec PyProof.Rows L2 PySem.Builtin.Str
section
variable {X : Cx} {e a b c o : Expr} {te ta tb tc to : TE3} {pos : Pos} {es : List Expr} {tr : TA3}
/-- a text is asked for -/
def tS (x : S) (k : Str → Prop) : Prop := match x with
  | .d (.str y) => k y
  | _ => False
theorem tS_inv {x : S} {k : Str → Prop} (h : tS x k) : ∃ y, x = .d (.str y) ∧ k y := by
  unfold tS at h
  split at h
  · exact ⟨_, rfl, h⟩
  · exact h.elim
theorem v_callTy {x : Str} {p : Pos} {T : String} {r : List S → (S → Prop) → Prop} (hc : CallR3 X (.type T) r) (hg : Gl X x) (hm : X.mg x = none) (hv : bootBuiltins x = some (.type T)) (ha : PA3 X (e :: es) tr) (hn : x ≠ "__name__" := by decide)
    (hdb : (x == ("__debug__" : Str)) = false := by decide) (he : starEach (e :: es) X.env = (false, eval e X.env) :: starEach es X.env := by exact starE rfl) (hpl : (backTo pos (starEach es X.env)).any (·.1) = false := by exact plainE rfl) :
    PE3 X (.Call (.Name x p) (e :: es) [] pos) (vCB r tr) := ⟨pe_imp (pe_callTy hc hg hm hv ha.out hn hdb he hpl) fun σ H Q hh => by
      obtain ⟨B, z, τ, R, r, ht, q⟩ := hh
      exact ⟨B, _, τ, _, r, ht, fun ss vs H1 e1 i1 h1 => ⟨H1.z, ss, R, e1.sub, i1, h1, fun s v H2 e2 i2 f2 h2 => q s v H2 (e1.trans e2) i2 (fr_up e1 f2) h2⟩⟩⟩
def bStr : List S → (S → Prop) → Prop := fun ss R => match ss with
  | [.d (.int i)] => i.natAbs.log2 < 1920 ∧ R (.d (.str (Str.ofString (toString i))))
  | _ => False
theorem b_str : CallR3 X (.type "str") bStr := callr_imp call_str_int fun xs H Q hh => by
    obtain ⟨z, ss, R, hz, ha, h3, q⟩ := hh
    unfold bStr at h3
    split at h3
    · rename_i i
      obtain ⟨v, rfl, h⟩ := args1 ha
      cases Is.int_inv h
      exact ⟨i, rfl, h3.1, q (.d _) _ ⟨H, z⟩ (Ext.refl hz) (Is.str _) fr_d h3.2⟩
    · exact h3.elim
theorem call_int_text : CallR X (.type "int") (fun xs H Q => ∃ x n, xs = [.str x] ∧ PySem.intText? x = some n ∧ x.length ≤ 640 ∧ Q (.int n) H) := by
  intro pins s σ H xs us Q I r h
  obtain ⟨x, n, rfl, hn, hl, q⟩ := h
  obtain ⟨u, rfl, t, rfl⟩ := vals1 r
  exact PySem.W.KIN.call_text hn hl ⟨.int n, H, I.tok _, ⟨_, rfl⟩, q⟩
def bInt : List S → (S → Prop) → Prop := fun ss R => match ss with
  | [.d (.str x)] => ∃ n, PySem.intText? x = some n ∧ x.length ≤ 640 ∧ R (.d (.int n))
  | [.d (.bl k)] => R (.d (.int (if k then 1 else 0)))
  | _ => False
theorem b_int : CallR3 X (.type "int") bInt := callr_imp (call_int1.or call_int_text) fun xs H Q hh => by
    obtain ⟨z, ss, R, hz, ha, h3, q⟩ := hh
    unfold bInt at h3
    split at h3
    · rename_i x
      obtain ⟨n, hn, hl, h3⟩ := h3
      obtain ⟨v, rfl, h⟩ := args1 ha
      cases Is.str_inv h
      exact .inr ⟨x, n, rfl, hn, hl, q (.d _) _ ⟨H, z⟩ (Ext.refl hz) (Is.int _) fr_d h3⟩
    · rename_i k
      obtain ⟨v, rfl, h⟩ := args1 ha
      cases Is.bl_inv h
      exact .inl (.inr ⟨k, rfl, q (.d _) _ ⟨H, z⟩ (Ext.refl hz) (Is.int _) fr_d h3⟩)
    · exact h3.elim
def bLenS : List S → (S → Prop) → Prop := fun ss R => match ss with
  | [.d (.str x)] => x.length ≤ 1000000 ∧ R (.d (.int x.length))
  | _ => False
theorem b_lenS : CallR3 X (.builtin "len") bLenS := callr_imp call_len_str fun xs H Q hh => by
    obtain ⟨z, ss, R, hz, ha, h3, q⟩ := hh
    unfold bLenS at h3
    split at h3
    · rename_i x
      obtain ⟨v, rfl, h⟩ := args1 ha
      cases Is.str_inv h
      exact ⟨x, rfl, Nat.le_trans h3.1 (by decide), q (.d _) _ ⟨H, z⟩ (Ext.refl hz) (Is.int _) fr_d h3.2⟩
    · exact h3.elim
/-! #### f-texts -/
/-! #### text.split(sign) -/
theorem split_cut (y : Str) {c : Nat} (hc : c < 256) : Txt.split y ⟨#[c]⟩ = (CH.cutAt c y.cps.toList).map CH.mkS := by
  have hn : y.cps.toList.length = y.length := Array.length_toList
  unfold Txt.split
  have h1 : (⟨#[c]⟩ : Str).length = 1 := rfl
  rw [CH.occ_is, h1]
  by_cases h : (decide (y.length < 1) || decide (Builtin.Str.strKind y < Builtin.Str.strKind ⟨#[c]⟩)) = true
  · rw [if_pos h]
    have : y.length < 1 := by
      rcases Bool.or_eq_true_iff.mp h with h | h
      · exact of_decide_eq_true h
      · have := of_decide_eq_true h
        rw [CH.kind_one hc] at this
        exact this.elim
    have e : y.cps.toList = [] := List.eq_nil_of_length_eq_zero (by omega)
    rw [e]
    show [y] = [CH.mkS []]
    rw [← e, CH.mkS_of]
  · rw [if_neg h]
    by_cases h2 : (CH.posAt c 0 y.cps.toList).isEmpty = true
    · rw [if_pos h2, CH.cut_no (CH.pos_nil (List.isEmpty_iff.mp h2))]
      show [y] = [CH.mkS y.cps.toList]
      rw [CH.mkS_of]
    · rw [if_neg h2, CH.parts_cut]
theorem vals_strs : ∀ l : List (Str × Tok), Vals ((l.map (·.1)).map V.str) (strValues l)
  | [] => .nil
  | p :: r => .cons ⟨p.2, rfl⟩ (vals_strs r)
theorem mt_split : MtR X "str.split" (fun x xs H Q => ∃ (y : Str) (c : Nat), x = .str y ∧ xs = [.str ⟨#[c]⟩] ∧ c < 256 ∧ y.length ≤ 100000 ∧ ∀ p, H p = none → X.K.lookup p = none → Q (.ref p) (upd H p (.lst (((CH.cutAt c y.cps.toList).map CH.mkS).map V.str)))) := by
  intro pins s σ H x xs v us Q I rx rs h
  obtain ⟨y, c, rfl, rfl, hc, hl, q⟩ := h
  obtain ⟨t, rfl⟩ := rx
  obtain ⟨u, rfl, t', rfl⟩ := vals1 rs
  have hs : sizeLine = 16777216 := sizeLine_eq
  have hf : H s.heap.objs.size = none := I.hok.fresh (Nat.le_refl _)
  have hk : X.K.lookup s.heap.objs.size = none := by
    cases e : X.K.lookup s.heap.objs.size with
    | none => rfl
    | some o => exact absurd (Heap.lt_size (I.kIn _ _ e)) (Nat.lt_irrefl _)
  have hn : (partsBetween y (occurrences y ⟨#[c]⟩ 0 y.length (y.length + 1)) (⟨#[c]⟩ : Str).length).length ≤ 100002 := by
    have := StrLaws.occ_length_le y ⟨#[c]⟩ 0 y.length (y.length + 1)
    rw [length_partsBetween]
    omega
  have hn2 : (Txt.split y ⟨#[c]⟩).length ≤ 100002 := by
    unfold Txt.split
    split
    · exact Nat.le_of_ble_eq_true rfl
    · split
      · exact Nat.le_of_ble_eq_true rfl
      · exact hn
  have fin : ∀ (l : List (Str × Tok)) (k : Tok), l.map (·.1) = Txt.split y ⟨#[c]⟩ → EP X pins σ Q (.ref s.heap.objs.size) { s with toks := k, heap := s.heap.push { cls := .type "list", data := .seq (strValues l).toArray } } := fun l k e => by
    have rv := vals_strs l
    rw [e, split_cut y hc] at rv
    have hz : (((CH.cutAt c y.cps.toList).map CH.mkS).map V.str).length ≤ sizeLine := by
      rw [← split_cut y hc, List.length_map]
      omega
    exact ⟨.ref s.heap.objs.size, _, I.laid (t' := k) (fun b o e => Heap.get?_push_of_some _ e) (Nat.le_refl _) (show ObjOk X.prog X.w _ _ _ (.lst (((CH.cutAt c y.cps.toList).map CH.mkS).map V.str)) from ⟨hz, _, 0, rv, Heap.get?_push_size _ rfl⟩), rfl, q _ hf hk⟩
  have hz1 : ((⟨#[c]⟩ : Str).length == 0) = false := rfl
  have call := fun {S} (m : Meets _ S) h => PySem.call_meets (prog := X.prog) (w := X.w) (A := X.A) (Q := EP X pins σ Q) (E := X.xe) (s := s) F.slot_str_split (typeIs_str _ _ _) F.entry_str_split (F.args_str_split_2 (.str y t) (.str ⟨#[c]⟩ t')) m h
  cases a1 : (decide (y.length < (⟨#[c]⟩ : Str).length) || decide (Builtin.Str.strKind y < Builtin.Str.strKind ⟨#[c]⟩)) with
  | true =>
    refine call (meets_str_split_cannot_occur y ⟨#[c]⟩ t t' a1) ?_
    exact fin [(y, t)] s.toks (by unfold Txt.split; rw [if_pos a1]; rfl)
  | false =>
    cases a2 : (occurrences y ⟨#[c]⟩ 0 y.length (y.length + 1)).isEmpty with
    | true =>
      refine call (meets_str_split_not_found y ⟨#[c]⟩ t t' a1 hz1 a2) ?_
      exact fin [(y, t)] s.toks (by unfold Txt.split; rw [a1, if_neg Bool.false_ne_true, if_pos a2]; rfl)
    | false =>
      refine call (meets_str_split_sep y ⟨#[c]⟩ t t' a1 hz1 a2 (by omega) (by omega)) ?_
      show wants _ _ _ { s with toks := _, heap := s.heap.push { cls := .type "list", data := .seq (strsFrom s.toks (partsBetween y (occurrences y ⟨#[c]⟩ 0 y.length (y.length + 1)) (⟨#[c]⟩ : Str).length)).toArray } }
      rw [strsFrom_eq]
      exact fin (numbered s.toks _) _ (by rw [numbered_texts]; unfold Txt.split; rw [a1, if_neg Bool.false_ne_true, a2, if_neg Bool.false_ne_true])
def vSplit (to te : TE3) : TE3 := fun τ R => to τ fun x => tS x fun y => te τ fun z => tS z fun sep => ∃ c, sep = ⟨#[c]⟩ ∧ c < 256 ∧ y.length ≤ 100000 ∧ R (.l ((CH.cutAt c y.cps.toList).map fun p => D.str (CH.mkS p)))
theorem iss_strs {K : PySem.W.Frag} {H : Hp} (l : List (List Nat)) : Iss K H ((l.map CH.mkS).map V.str) (l.map fun p => D.str (CH.mkS p)) := by
  refine ⟨by simp, fun i v x h1 h2 => ?_⟩
  rw [List.map_map, List.getElem?_map] at h1
  rw [List.getElem?_map] at h2
  cases e : l[i]? with
  | none => rw [e] at h1; cases h1
  | some p =>
    rw [e] at h1 h2
    cases h1
    cases h2
    exact .str _
theorem v_split {ap cp : Pos} (ho : PE3 X o to) (he : PE3 X e te) (hbase : attributeBase o "split" X.env (eval o X.env) = eval o X.env := by rfl)
    (hfew : ((backTo cp (starEach [e] X.env)).all (fun x => !x.1) && (backToKw cp (keywordEach [] X.env)).all (fun x => x.1.isSome) && decide ([e].length + ([] : List Keyword).length + (if ([] : List Keyword).isEmpty then 0 else 1) < 30)) = true := by rfl)
    (hline : (ap.endLine == cp.line) = true := by rfl) (hs : starEach [e] X.env = (false, eval e X.env) :: starEach [] X.env := by rfl) (hplain : (backTo cp (starEach [] X.env)).any (·.1) = false := by rfl) :
    PE3 X (.Call (.Attribute o "split" ap) [e] [] cp) (vSplit to te) :=
  ⟨pe_imp (pe_bm PySem.F.plainAttrs_str PySem.F.slot_str_split PySem.F.type_str_split mt_split ho.out (pa_cons he.out pa_nil hs) hbase hfew hline hs hplain) fun σ H Q hh => by
    obtain ⟨B, z, τ, R, r, ht, q⟩ := hh
    refine ⟨B, _, τ, _, r, ht, fun x v H1 e1 i1 f1 h1 => ?_⟩
    obtain ⟨y, rfl, h1⟩ := tS_inv h1
    cases Is.str_inv i1
    refine ⟨rfl, B, _, τ, _, r.mono e1, h1, fun s u H2 e2 i2 f2 h2 => ?_⟩
    obtain ⟨sep, rfl, c, rfl, hc, hl, h2⟩ := tS_inv h2
    cases Is.str_inv i2
    refine ⟨y, c, rfl, rfl, hc, hl, fun p hp hk => q (.l _) _ ⟨_, H2.z⟩ ((e1.trans e2).trans (Ext.own e2.sub hp _)) ⟨p, _, rfl, upd_same, iss_strs _⟩ (fun xs a _ h3 => ?_) h2⟩
    cases h3
    exact ⟨(e1.trans e2).hh.free hp, hk, e2.sub.free hp⟩⟩
/-! #### for sign in text -/
def Its (y : Str) : It := ⟨fun i _ => i < y.cps.size, fun i H x H' => H' = H ∧ ∃ c, y.cps[i]? = some c ∧ x = .str ⟨#[c]⟩, fun i _ => y.cps.size ≤ i⟩
theorem turn_str {P : Program} {w : World} {K : PySem.W.Frag} {tg : Expr} (it : Addr) (y : Str) (t : Tok) : Turn P w K tg (Its y) [it] it (fun i h => h.IsStrIter it "str_ascii_iterator" y t i) where
  mem := by simp
  obj := fun i h st b hb => by
    have e := List.mem_singleton.mp hb
    subst e
    obtain ⟨o, e, c, d⟩ := st
    exact ⟨o, e, fun v z => by rw [d] at z; cases z⟩
  keep := fun i h h' st k => by
    obtain ⟨o, e, r⟩ := st
    exact ⟨o, k it (List.mem_singleton.mpr rfl) o e, r⟩
  item := by
    intro X hP hw hK hc i pins s σ H E I hf st hg
    subst hP hw hK
    obtain ⟨f0, f1, f2, f3, f4, f5⟩ := hf it (List.mem_singleton.mpr rfl)
    have hi : y.cps[i]? = some (y.cps[i]'hg) := Array.getElem?_eq_getElem hg
    refine wpAny_pyNext_ascii_item st hi fun h' st' sb => ?_
    have I1 : Inv X pins σ H { s with heap := h', toks := s.toks + 1 } := I.turned (fun b o hb e => (sb.2 b hb).trans e) f0 f1 f3 f4 f5
    obtain ⟨o, e, c, d⟩ := id st'
    exact ⟨_, rfl, go_of (s := { s with heap := h', toks := s.toks + 1 }) e c d (by decide) ⟨.str ⟨#[y.cps[i]'hg]⟩, H, I1, ⟨_, rfl⟩, ⟨rfl, _, hi, rfl⟩, st', fun b hb => (hf b hb).1⟩⟩
  done := by
    intro X hP hw hK hc i pins s σ H E I hf st hg
    subst hP hw hK
    obtain ⟨f0, f1, f2, f3, f4, f5⟩ := hf it (List.mem_singleton.mpr rfl)
    exact wpAny_pyNext_ascii_end (I.ok.hd hc) st (Array.getElem?_eq_none hg) fun h' eb => ⟨rfl, I.turned (t' := s.toks) (fun b o hb e => eb b o hb e) f0 f1 f3 f4 f5⟩
  self := fun _ _ _ _ _ st h => wpAny_pyIter_striter_ascii st h
def iStr (tl : TE) : TI := fun σ H R => tl σ H fun x H1 => ∃ y, x = .str y ∧ y.cps.all (· < 128) = true ∧ R (Its y) H1
theorem pi_str {tg l : Expr} {tl : TE} (hl : PE X l tl) : PI X tg l (iStr tl) := by
  intro pins s σ H R I h
  refine thn (hl pins s σ H _ I h) fun v s1 hh => ?_
  obtain ⟨x, H1, I1, r1, y, rfl, ha, q⟩ := hh
  obtain ⟨t, rfl⟩ := r1
  refine wpAny_pyIter_ascii ha ⟨s1.heap.objs.size, [s1.heap.objs.size], _, _, H1, rfl, I1.kept (t' := s1.toks) fun b o e => Heap.get?_push_of_some _ e, turn_str _ y t, ⟨_, Heap.get?_push_size _ rfl, rfl, rfl⟩, fun b hb => ?_, q⟩
  have e := List.mem_singleton.mp hb
  subst e
  exact I1.fpOk (Nat.le_refl _) (I1.hok.fresh (Nat.le_refl _))
def sForS (j i : Nat) (tb : TS3) : TS3 := fun D3 τ => match τ[j]? with
  | some (some (.d (.str y))) => y.cps.all (· < 128) = true ∧ sTurn i (y.cps.toList.map fun c => D.str ⟨#[c]⟩) tb D3 τ
  | _ => False
theorem s_forS {j i : Nat} {x y : Str} {px py : Pos} {body : List Stmt} {tb : TS3} (h : PS X (.For (.Name x px) (.Name y py) body [] pos) (tFor (iStr (tVar j)) (gName i) (FS X tb))) : PS3 X (.For (.Name x px) (.Name y py) body [] pos) (sForS j i tb) := ⟨ps_imp h fun D2 σ H hh => by
    obtain ⟨B, z, τ, D3, r, ht, c⟩ := hh
    unfold sForS at ht
    split at ht
    · rename_i y hs
      obtain ⟨ha, I, i0, turn, out⟩ := ht
      obtain ⟨v, h1, h2⟩ := r.val j _ hs
      cases Is.str_inv h2
      refine ⟨.str y, h1, y, rfl, ha, fun n m σ1 H1 => m = y.cps.size - n ∧ n ≤ y.cps.size ∧ ∃ z1 τ1, Rep X ⟨cutB τ σ H, z⟩ τ1 σ1 ⟨H1, z1⟩ ∧ I n τ1, ⟨y.cps.size, rfl, Nat.zero_le _, z, _, r.inB, i0⟩, ?_⟩
      rintro n m σ1 H1 ⟨rfl, hn, z1, τ1, r1, ih1⟩
      by_cases hlt : n < y.cps.size
      · refine .inr ⟨hlt, fun σ' H' => ∃ z' τ', Rep X ⟨cutB τ σ H, z⟩ τ' σ' ⟨H', z'⟩ ∧ I (n + 1) τ', fun σ' H' p' => ⟨y.cps.size - (n + 1), by omega, rfl, hlt, p'⟩, fun x H' w => ?_⟩
        obtain ⟨rfl, c', hc', rfl⟩ := w
        have hx : (y.cps.toList.map fun c => D.str ⟨#[c]⟩)[n]? = some (D.str ⟨#[c']⟩) := by
          rw [List.getElem?_map, Array.getElem?_toList, hc']; rfl
        exact ⟨_, _, _, _, r1.setd (.str _), turn n τ1 _ hx ih1, c.inB r.leB fun τ' σ' p' r' h' => ⟨p'.z, τ', r', h'⟩⟩
      · refine .inl ⟨Nat.le_of_not_lt hlt, c.nx _ _ _ (r1.outB r.leB) (out τ1 ?_)⟩
        have e : n = y.cps.size := by omega
        rw [List.length_map, Array.length_toList, ← e]
        exact ih1
    · exact ht.elim⟩
/-! #### in, an item, + -/
def inS (i j : Str) : Bool := !(Builtin.Str.occurrences j i 0 j.length 1).isEmpty
theorem inS_one (c : Nat) (j : Str) : inS ⟨#[c]⟩ j = decide (c ∈ j.cps.toList) := StrLaws.found_one j c
def oNotInS : R3 := fun dx dy R => match dx, dy with
  | .str i, .str j => R (.bl (!inS i j))
  | _, _ => False
theorem o_notinS : OpR3 X (compareOp .NotIn) oNotInS := opr_imp op_notin_str fun x y H Q hh => by
  obtain ⟨z, dx, dy, R, hz, hx, hy, h3, q⟩ := hh
  unfold oNotInS at h3
  split at h3
  · rename_i i j
    exact ⟨i, j, hx.str_inv, hy.str_inv, q _ _ ⟨H, z⟩ (Ext.refl hz) (.bl _) h3⟩
  · exact h3.elim
def oAddS : R3 := fun dx dy R => match dx, dy with
  | .str i, .str j => i.length + j.length ≤ 1000000 ∧ R (.str (i ++ j))
  | _, _ => False
theorem o_addS : OpR3 X (binaryOp .Add) oAddS := opr_imp op_add_str fun x y H Q hh => by
  obtain ⟨z, dx, dy, R, hz, hx, hy, h3, q⟩ := hh
  unfold oAddS at h3
  split at h3
  · rename_i i j
    exact ⟨i, j, hx.str_inv, hy.str_inv, Nat.le_trans h3.1 (by decide), q _ _ ⟨H, z⟩ (Ext.refl hz) (.str _) h3.2⟩
  · exact h3.elim
def vIxS (ta tb : TE3) : TE3 := fun τ R => ta τ fun x => tb τ fun y => tS x fun xs => match y with
  | .d (.int i) => xs.length ≤ 1000000 ∧ ∃ c, atI xs.cps.toList i = some c ∧ R (.d (.str ⟨#[c]⟩))
  | _ => False
theorem v_ixS (ha : PE3 X a ta) (hb : PE3 X b tb) (hs : PlainIx b) : PE3 X (.Subscript a b pos) (vIxS ta tb) := ⟨pe_imp (pe_ix ix_str ha.out hb.out hs) fun σ H Q hh => by
    obtain ⟨B, z, τ, R, r, ht, q⟩ := hh
    refine ⟨B, _, τ, _, r, ht, fun x v H1 e1 i1 f1 h1 => ?_⟩
    refine ⟨B, _, τ, _, r.mono e1, h1, fun y u H2 e2 i2 f2 h2 => ?_⟩
    obtain ⟨xs, rfl, h2⟩ := tS_inv h2
    cases y with
    | l _ => exact h2.elim
    | r _ => exact h2.elim
    | d y =>
    cases y with
    | int i =>
      obtain ⟨hl, c, hc, h2⟩ := h2
      exact ⟨xs, i, c, Is.str_inv i1, Is.int_inv i2, Nat.le_trans hl (by decide), hc, q (.d _) _ _ (e1.trans e2) (Is.str _) fr_d h2⟩
    | _ => exact h2.elim⟩
end
end L3
namespace CH
open PySem PySem.Builtin.Str NumText
theorem range_items (l : List Nat) : ∀ (m a : Nat), a + m ≤ l.length → (((List.range m).map fun j => a + j).filterMap fun i => l[i]?) = (l.drop a).take m
  | 0, a, _ => by simp
  | m + 1, a, h => by
    have ih := range_items l m a (by omega)
    rw [List.range_succ, List.map_append, List.filterMap_append, ih]
    have hl : a + m < l.length := by omega
    rw [List.take_add_one]
    simp [List.getElem?_drop, List.getElem?_eq_getElem hl]
end CH
namespace CH
open PySem PySem.Builtin.Str NumText
theorem slice_gen (l : List Nat) (lo hi : Option Int) (a m : Nat) (h : a + m ≤ l.length) (e : strSliceIndices lo hi 1 l.length = (List.range m).map fun j => a + j) : Txt.slice (mkS l) lo hi = mkS ((l.drop a).take m) := by
  unfold Txt.slice
  rw [mkS_len, e]
  split
  · rename_i z
    have hm : m = l.length := by simpa using z
    have ha : a = 0 := by omega
    subst ha hm
    rw [List.drop_zero, List.take_length]
  · have : (fun i : Nat => (mkS l).cps[i]?) = fun i : Nat => l[i]? := by
      funext i
      show l.toArray[i]? = l[i]?
      simp
    show (⟨(List.filterMap (fun i : Nat => (mkS l).cps[i]?) ((List.range m).map fun j => a + j)).toArray⟩ : Str) = _
    rw [this, range_items l m a h]
    rfl
theorem rng_is {a b : Nat} : sliceRange ((a : Nat) : Int) ((b : Nat) : Int) 1 = (List.range (b - a)).map fun j => a + j := by
  unfold sliceRange
  have e : (if (1 : Int) > 0 then (if ((a : Nat) : Int) < ((b : Nat) : Int) then (((b : Nat) : Int) - ((a : Nat) : Int) + 1 - 1) / 1 else 0) else (if ((a : Nat) : Int) > ((b : Nat) : Int) then (((a : Nat) : Int) - ((b : Nat) : Int) - 1 - 1) / (-1) else 0)).toNat = b - a := by
    rw [if_pos (by decide)]
    split <;> omega
  simp only [e]
  refine List.map_congr_left fun k _ => ?_
  omega
theorem slice_to (l : List Nat) (k : Nat) : Txt.slice (mkS l) none (some (k : Int)) = mkS (l.take k) := by
  have h := slice_gen l none (some (k : Int)) 0 (min k l.length) (by omega) (by
    have := @rng_is 0 (min k l.length)
    unfold strSliceIndices
    simp only [show (1 : Int) > 0 by decide, if_true]
    have e : max 0 (min (if (k : Int) < 0 then (k : Int) + (l.length : Int) else (k : Int)) (l.length : Int)) = ((min k l.length : Nat) : Int) := by
      rw [if_neg (by omega)]; omega
    rw [e]
    exact this)
  rw [h, List.drop_zero]
  congr 1
  rw [List.take_eq_take_iff]
  omega
theorem slice_from (l : List Nat) (k : Nat) : Txt.slice (mkS l) (some (k : Int)) none = mkS (l.drop k) := by
  have h := slice_gen l (some (k : Int)) none (min k l.length) (l.length - min k l.length) (by omega) (by
    have := @rng_is (min k l.length) l.length
    unfold strSliceIndices
    simp only [show (1 : Int) > 0 by decide, if_true]
    have e : max 0 (min (if (k : Int) < 0 then (k : Int) + (l.length : Int) else (k : Int)) (l.length : Int)) = ((min k l.length : Nat) : Int) := by
      rw [if_neg (by omega)]; omega
    rw [e]
    exact this)
  rw [h]
  congr 1
  rw [List.take_of_length_le (by rw [List.length_drop]; omega)]
  by_cases c : k ≤ l.length
  · rw [Nat.min_eq_left c]
  · rw [List.drop_eq_nil_of_le (by omega), List.drop_eq_nil_of_le (by omega)]
end CH
namespace L3
open PySem PySem.Spec PyProof.Rows L2 PySem.Builtin PySem.Builtin.Str
section
variable {X : Cx} {e a b c o : Expr} {te ta tb tc to : TE3} {pos : Pos} {es : List Expr} {tr : TA3}
/-! #### slices of texts -/
theorem sl_str : SlR X (fun x lo hi H Q => ∃ y, x = .str y ∧ y.length ≤ 1000000 ∧ Q (.str (Txt.slice y lo hi)) H) := by
  intro pins s σ H x v vl vu lo hi sl Q I rx hs pl pu h
  obtain ⟨y, rfl, hl, q⟩ := h
  obtain ⟨t, rfl⟩ := rx
  have hz : ∀ l u, (Txt.slice y l u).length ≤ sizeLine := fun l u => Nat.le_trans (Txt.slice_le y l u) (Nat.le_trans hl (by decide))
  refine ⟨"str", _, F.slot_str_getitem.lookup, typeIs_str _ _ _, ?_⟩
  have fin : ∀ (t' : Tok) (k : Tok), EP X pins σ Q (.str (Txt.slice y lo hi) t') { s with toks := k } := fun t' k => ⟨.str _, H, I.tok k, ⟨_, rfl⟩, q⟩
  cases pl with
  | none => cases pu with
    | none => exact wpAny_getItem_str_slice (l := none) (u := none) (st := none) hs rfl (post_val_or_str ⟨hz _ _, fin⟩)
    | int j u => exact wpAny_getItem_str_slice (l := none) (u := some (j, u)) (st := none) hs rfl (post_val_or_str ⟨hz _ _, fin⟩)
  | int i u => cases pu with
    | none => exact wpAny_getItem_str_slice (l := some (i, u)) (u := none) (st := none) hs rfl (post_val_or_str ⟨hz _ _, fin⟩)
    | int j u' => exact wpAny_getItem_str_slice (l := some (i, u)) (u := some (j, u')) (st := none) hs rfl (post_val_or_str ⟨hz _ _, fin⟩)
/-! #### startswith, join -/
def vSlS (te : TE3) (lo hi : TO3) : TE3 := fun τ R => te τ fun x => lo τ fun l => hi τ fun u => tS x fun y => y.length ≤ 1000000 ∧ R (.d (.str (Txt.slice y l u)))
theorem v_slS {lo hi : Option Expr} {tl th : TO3} {p2 : Pos} (he : PE3 X e te) (hl : PO3 X lo tl) (hh : PO3 X hi th) : PE3 X (.Subscript e (.Slice lo hi none p2) pos) (vSlS te tl th) :=
  ⟨pe_imp (pe_slice sl_str he.out hl.out hh.out) fun σ H Q hh => by
    obtain ⟨B, z, τ, R, r, ht, q⟩ := hh
    refine ⟨B, z, τ, _, r, ht, fun x v q1 e1 i1 f1 h1 => ?_⟩
    refine ⟨B, _, τ, _, r.mono e1, h1, fun l q2 e2 h2 => ?_⟩
    refine ⟨B, _, τ, _, (r.mono e1).mono e2, h2, fun u q3 e3 h3 => ?_⟩
    obtain ⟨y, rfl, hy, h3⟩ := tS_inv h3
    exact ⟨y, Is.str_inv i1, hy, q (.d _) _ q3 (e1.trans (e2.trans e3)) (Is.str _) fr_d h3⟩⟩
/-! #### try: return f(..), where f is never refused -/
variable {th : TS3}
end
end L3
namespace L3
open PySem PySem.Spec PyProof.Rows L2 PySem.Builtin PySem.Builtin.Str
section
variable {X : Cx} {a e2 : Expr} {tA : TT} {t2 : TE} {k : Int} {x y z : Str} {j j1 j2 j3 : Nat} {pc p2 pb px ap p3 p4 cp pr pos : Pos}
/-- if A and E == K: return NAME.replace(Y, Z): the number K has been made just ahead, so the texts' tokens are not 0 -/
theorem ps_ifrep (ha : PT X a tA) (h2 : PE X e2 t2) (hN : X.N[j]? = some x) (hv : Vis X.env.scope x) (hyz : (y == z) = false) (hzl : z.length ≤ 10)
    (hm : behindInMarks .Eq (.Constant (.int k) j1 pc) = false := by rfl) (hd : (x == ("__debug__" : Str)) = false := by decide) (hcd : (x == ("__classdict__" : Str)) = false := by decide)
    (hbase : attributeBase (.Name x px) "replace" X.env (eval (.Name x px) X.env) = eval (.Name x px) X.env := by rfl)
    (hfew : ((backTo cp (starEach [.Constant (.str y) j2 p3, .Constant (.str z) j3 p4] X.env)).all (fun x => !x.1) && (backToKw cp (keywordEach [] X.env)).all (fun x => x.1.isSome) && decide ([Expr.Constant (.str y) j2 p3, .Constant (.str z) j3 p4].length + ([] : List Keyword).length + (if ([] : List Keyword).isEmpty then 0 else 1) < 30)) = true := by rfl)
    (hline : (ap.endLine == cp.line) = true := by rfl) :
    PS X (.If (.BoolOp .And [a, .Compare e2 [.Eq] [.Constant (.int k) j1 pc] p2] pb) [.Return (some (.Call (.Attribute (.Name x px) "replace" ap) [.Constant (.str y) j2 p3, .Constant (.str z) j3 p4] [] cp)) pr] [] pos)
      (fun D σ H => tA σ H fun c H1 => if c = true then t2 σ H1 fun v H2 => ∃ i, v = .int i ∧ (if decide (i = k) = true then ∃ w, σ[j]? = some (some (.str w)) ∧ w.length ≤ 1000 ∧ D.rt (.str (Txt.replace w y z)) H2 else D.nx σ H2) else D.nx σ H1) := by
  intro pins s σ H D I h
  refine wpAny_If (isTrue_and (thn (ha pins s σ H _ I h) fun c s1 hh => ?_))
  obtain ⟨H1, I1, q1⟩ := hh
  cases c with
  | false => exact wpAny_execs_nil ⟨σ, H1, I1, q1⟩
  | true =>
    rw [if_pos rfl] at q1
    refine isTrue_and (wpAny_isTrue_Compare1 (thn (h2 pins s1 σ H1 _ I1 q1) fun v s2 hh => ?_) hm)
    obtain ⟨x', H2, I2, r2, i, rfl, q2⟩ := hh
    obtain ⟨t, rfl⟩ := r2
    refine wpAny_Constant_int ?_
    refine eq_int (wpAny_truthy_bool ?_)
    have I3 := I2.tok (s2.toks + 1)
    by_cases c : i = k
    · rw [show (i == k) = true by rw [c]; exact beq_self_eq_true k]
      rw [if_pos (decide_eq_true c)] at q2
      obtain ⟨w, hw, hl, q⟩ := q2
      refine isTrue_and_nil ?_
      obtain ⟨m, hn, hlk⟩ := I3.loc
      obtain ⟨u, r, l⟩ := hlk j x (.str w) hN hw hv
      obtain ⟨tw, rfl⟩ := r
      have call : ∀ (s3 : Shared), s3 = { s2 with toks := s2.toks + 1 } → MethodOn X.prog X.w X.A "replace" cp (.str w tw) (backTo cp (starEach [.Constant (.str y) j2 p3, .Constant (.str z) j3 p4] X.env)) (fun r s' => SP X pins D (.ret r) s') X.xe s3 := fun s3 e => by
        subst e
        refine ⟨"str", "str.replace", PySem.F.plainAttrs_str, PySem.F.slot_str_replace, PySem.F.type_str_replace, typeIs_str _ _ _, (fun _ e => nomatch e), ?_⟩
        refine Calls.callWith_builtin rfl (Calls.evalArgs_plain ?_)
        refine Calls.spliced_cons (Calls.Constant_str (k := j2) (pos := p3) (Calls.spliced_cons (Calls.Constant_str (k := j3) (pos := p4) (Calls.spliced_nil ?_))))
        refine PySem.SC.replace (Nat.succ_ne_zero _) (Nat.succ_ne_zero _) (Nat.ne_of_lt (Nat.lt_succ_self _)) hyz ?_ fun t' k' => ?_
        · have h1 : (w.length + 1) * z.length ≤ (w.length + 1) * 10 := Nat.mul_le_mul_left _ hzl
          omega
        · exact ⟨.str _, σ, H2, I2.tok _, ⟨_, rfl⟩, q⟩
      refine wpAny_execs_cons (wpAny_Return_some (wpAny_Call_method_late hbase hfew hline rfl ?_))
      rcases l with ⟨hk, hmm⟩ | ⟨hk, cc, hc, hcell⟩
      · exact wpAny_Name (wpAny_loadName_local I3.ok.kind hk hn hmm (call _ rfl)) hd
      · rcases hk with hk | hk
        · exact wpAny_Name (wpAny_loadName_cell I3.ok.kind hk hc hcell (call _ rfl)) hd
        · exact wpAny_Name (wpAny_loadName_free I3.ok.kind hk hc hcell (call _ rfl) hcd) hd
    · rw [show (i == k) = false from beq_eq_false_iff_ne.mpr c]
      rw [if_neg (by simpa using c)] at q2
      exact wpAny_execs_nil ⟨σ, H2, I3, q2⟩
end
end L3
namespace L3
open PySem PySem.Spec PyProof.Rows L2 PySem.Builtin PySem.Builtin.Str
section
variable {X : Cx} {tA : TT3} {t2 te to : TE3} {k : Int} {y z : Str} {j : Nat} {st : Stmt} {o e : Expr}
def sIfRep (tA : TT3) (t2 : TE3) (k : Int) (j : Nat) (y z : Str) : TS3 := fun D3 τ => tA τ fun c => if c = true then t2 τ fun s => match s with
    | .d (.int i) => if decide (i = k) = true then (match τ[j]? with
      | some (some (.d (.str w))) => w.length ≤ 1000 ∧ D3.rt (.d (.str (Txt.replace w y z)))
      | _ => False) else D3.nx τ
    | _ => False
  else D3.nx τ
theorem s_ifrep (h : PS X st (fun D σ H => FT X tA σ H fun c H1 => if c = true then FE X t2 σ H1 fun v H2 => ∃ i, v = .int i ∧ (if decide (i = k) = true then ∃ w, σ[j]? = some (some (.str w)) ∧ w.length ≤ 1000 ∧ D.rt (.str (Txt.replace w y z)) H2 else D.nx σ H2) else D.nx σ H1)) :
    PS3 X st (sIfRep tA t2 k j y z) := ⟨ps_imp h fun D2 σ H hh => by
  obtain ⟨B, zz, τ, D3, r, ht, c⟩ := hh
  refine ⟨B, _, τ, _, r, ht, fun b q1 e1 h1 => ?_⟩
  cases b with
  | false =>
    rw [if_neg Bool.false_ne_true] at h1 ⊢
    exact c.nx _ _ _ (r.mono e1) h1
  | true =>
    rw [if_pos rfl] at h1 ⊢
    refine ⟨B, _, τ, _, r.mono e1, h1, fun s v q2 e2 i2 f2 h2 => ?_⟩
    cases s with
    | l _ => exact h2.elim
    | r _ => exact h2.elim
    | d s =>
    cases s with
    | int i =>
      refine ⟨i, Is.int_inv i2, ?_⟩
      have h3 : if decide (i = k) = true then (match τ[j]? with
        | some (some (.d (.str w))) => w.length ≤ 1000 ∧ D3.rt (.d (.str (Txt.replace w y z)))
        | _ => False) else D3.nx τ := h2
      by_cases ck : i = k
      · rw [decide_eq_true ck, if_pos rfl] at h3 ⊢
        split at h3
        · rename_i w hw
          obtain ⟨v', hv1, hv2⟩ := r.val j _ hw
          cases Is.str_inv hv2
          exact ⟨w, hv1, h3.1, c.rt (.d _) _ q2 (r.ext.trans (e1.trans e2)) (Is.str _) fr_d h3.2⟩
        · exact h3.elim
      · rw [decide_eq_false ck, if_neg Bool.false_ne_true] at h3 ⊢
        exact c.nx _ _ _ (r.mono (e1.trans e2)) h3
    | _ => exact h2.elim⟩
/-! #### text.partition(sign) -/
theorem occ_stop (x : Str) (c : Nat) : ∀ (l : List Nat) (st : Array Nat × Nat), 1 ≤ st.1.size → (forIn (m := Id) l st (StrLaws.occBody x ⟨#[c]⟩ x.length 1)).run.fst = st.1
  | [], st, _ => rfl
  | i :: r, st, h => by
    rw [List.forIn_cons]
    unfold StrLaws.occBody
    rw [if_neg (fun z => by have := z.1.1.1; omega)]
    exact occ_stop x c r (st.1, st.2) h
theorem occ_one (x : Str) (c : Nat) : ∀ (m k f : Nat), k + m = x.length + 1 → f ≤ k → (forIn (m := Id) (List.range' k m) ((#[] : Array Nat), f) (StrLaws.occBody x ⟨#[c]⟩ x.length 1)).run.fst.toList = (CH.posAt c k (x.cps.toList.drop k)).take 1 := by
  have hn : x.cps.toList.length = x.length := Array.length_toList
  intro m
  induction m with
  | zero =>
    intro k f h1 _
    have : x.cps.toList.drop k = [] := List.drop_eq_nil_of_le (by omega)
    rw [this]
    rfl
  | succ m ih =>
    intro k f h1 h2
    rw [List.range'_succ, List.forIn_cons]
    unfold StrLaws.occBody
    have hk := StrLaws.subAt_one x c k
    by_cases e : x.cps.toList[k]? = some c
    · have hc := hk.mpr e
      rw [if_pos ⟨⟨⟨Nat.one_pos, h2⟩, hc.1⟩, hc.2⟩]
      have hlt : k < x.cps.toList.length := (List.getElem?_eq_some_iff.mp e).1
      have hd : x.cps.toList.drop k = c :: x.cps.toList.drop (k + 1) := by
        rw [List.drop_eq_getElem_cons hlt]
        congr 1
        exact (List.getElem?_eq_some_iff.mp e).2
      have := occ_stop x c (List.range' (k + 1) m) (#[k], k + (⟨#[c]⟩ : Str).length) (Nat.le_refl _)
      rw [hd]
      show (forIn (m := Id) (List.range' (k + 1) m) (#[k], k + (⟨#[c]⟩ : Str).length) (StrLaws.occBody x ⟨#[c]⟩ x.length 1)).run.fst.toList = _
      rw [this, CH.posAt, if_pos rfl]
      rfl
    · rw [if_neg fun z => e (hk.mp ⟨z.1.2, z.2⟩)]
      have := ih (k + 1) f (by omega) (by omega)
      show (forIn (m := Id) (List.range' (k + 1) m) (#[], f) (StrLaws.occBody x ⟨#[c]⟩ x.length 1)).run.fst.toList = _
      rw [this]
      by_cases hlt : k < x.cps.toList.length
      · rw [List.drop_eq_getElem_cons hlt]
        have hne : x.cps.toList[k] ≠ c := fun z => e (by rw [List.getElem?_eq_getElem hlt, z])
        rw [CH.posAt, if_neg hne]
      · rw [List.drop_eq_nil_of_le (by omega), List.drop_eq_nil_of_le (by omega)]
        rfl
theorem pos_cut {c : Nat} : ∀ {l : List Nat} {k i : Nat} {r : List Nat}, CH.posAt c k l = i :: r → ∃ p q, l = p ++ c :: q ∧ c ∉ p ∧ i = k + p.length
  | [], _, _, _, h => by cases h
  | d :: s, k, i, r, h => by
    rw [CH.posAt] at h
    split at h
    · rename_i e
      cases h
      exact ⟨[], s, by rw [e]; rfl, by simp, by simp⟩
    · rename_i e
      obtain ⟨p, q, h1, h2, h3⟩ := pos_cut h
      refine ⟨d :: p, q, by rw [h1]; rfl, fun z => ?_, by rw [h3, List.length_cons]; omega⟩
      rcases List.mem_cons.mp z with z | z
      · exact e z.symm
      · exact h2 z
theorem mt_part : MtR X "str.partition" (fun x xs H Q => ∃ (l : List Nat) (c : Nat), x = .str (CH.mkS l) ∧ xs = [.str ⟨#[c]⟩] ∧ l.length ≤ 100000 ∧ (c ∉ l → ∀ p, H p = none → Q (.ref p) (upd H p (.tup [.str (CH.mkS l), .str (CH.mkS []), .str (CH.mkS [])]))) ∧
    ∀ a b, l = a ++ c :: b → c ∉ a → ∀ p, H p = none → Q (.ref p) (upd H p (.tup [.str (CH.mkS a), .str (CH.mkS [c]), .str (CH.mkS b)]))) := by
  intro pins s σ H x xs v us Q I rx rs h
  obtain ⟨l, c, rfl, rfl, hl, q1, q2⟩ := h
  obtain ⟨t, rfl⟩ := rx
  obtain ⟨u, rfl, t', rfl⟩ := vals1 rs
  have hs : sizeLine = 16777216 := sizeLine_eq
  have hf : H s.heap.objs.size = none := I.hok.fresh (Nat.le_refl _)
  have fin : ∀ (a b d : Str) (t1 t2 t3 k : Tok), (∀ p, H p = none → Q (.ref p) (upd H p (.tup [.str a, .str b, .str d]))) → EP X pins σ Q (.ref s.heap.objs.size) { s with toks := k, heap := s.heap.push { cls := .type "tuple", data := .seq [.str a t1, .str b t2, .str d t3].toArray } } := fun a b d t1 t2 t3 k q => by
    have rv : Vals [V.str a, V.str b, V.str d] [.str a t1, .str b t2, .str d t3] := .cons ⟨_, rfl⟩ (.cons ⟨_, rfl⟩ (.cons ⟨_, rfl⟩ .nil))
    exact ⟨.ref s.heap.objs.size, _, I.laid (t' := k) (fun b o e => Heap.get?_push_of_some _ e) (Nat.le_refl _) (show ObjOk X.prog X.w _ _ _ (.tup [V.str a, V.str b, V.str d]) from ⟨(show 3 ≤ sizeLine by decide), _, rv, IsTup.new _ _⟩), rfl, q _ hf⟩
  have oc : occurrences (CH.mkS l) ⟨#[c]⟩ 0 (CH.mkS l).length 1 = (CH.posAt c 0 l).take 1 := by
    rw [StrLaws.occ_eq]
    have := occ_one (CH.mkS l) c ((CH.mkS l).length + 1) 0 0 (by omega) (Nat.le_refl _)
    rw [List.drop_zero, CH.mkS_list] at this
    exact this
  refine PySem.call_meets F.slot_str_partition (typeIs_str _ _ _) F.entry_str_partition (F.args_str_partition_2 _ _) (meets_str_partition (CH.mkS l) ⟨#[c]⟩ t t' rfl (by rw [CH.mkS_len]; omega)) ?_
  rw [oc]
  cases hp : CH.posAt c 0 l with
  | nil => exact fin (CH.mkS l) Str.empty Str.empty _ _ _ _ (q1 (CH.pos_nil hp))
  | cons i r =>
    obtain ⟨a, b, e, ha, hi⟩ := pos_cut hp
    have e1 : strSub (CH.mkS l) 0 i = CH.mkS a := by
      rw [CH.sub_is _ _ _ (by rw [CH.mkS_len, hi, e, List.length_append, List.length_cons]; omega), CH.mkS_list, hi, e]
      congr 1
      simp
    have e2 : strSub (CH.mkS l) (i + (⟨#[c]⟩ : Str).length) (CH.mkS l).length = CH.mkS b := by
      rw [CH.sub_is _ _ _ (Nat.le_refl _), CH.mkS_list, CH.mkS_len, hi, e]
      congr 1
      show ((a ++ c :: b).drop (0 + a.length + 1)).take _ = b
      have one : (⟨#[c]⟩ : Str).length = 1 := rfl
      rw [show 0 + a.length + 1 = a.length + 1 by omega, List.drop_append, List.drop_eq_nil_of_le (by omega), List.nil_append, show a.length + 1 - a.length = 1 by omega]
      show b.take _ = b
      rw [List.take_of_length_le]
      rw [one, List.length_append, List.length_cons]
      omega
    show EP X pins σ Q (.ref s.heap.objs.size) { s with toks := s.toks + 1 + 1, heap := s.heap.push { cls := .type "tuple", data := .seq [.str (strSub (CH.mkS l) 0 i) s.toks, .str ⟨#[c]⟩ t', .str (strSub (CH.mkS l) (i + (⟨#[c]⟩ : Str).length) (CH.mkS l).length) (s.toks + 1)].toArray } }
    rw [e1, e2]
    exact fin (CH.mkS a) ⟨#[c]⟩ (CH.mkS b) _ _ _ _ (q2 a b e ha)
def vPart (to te : TE3) : TE3 := fun τ R => to τ fun x => tS x fun y => te τ fun z => tS z fun sep => ∃ (l : List Nat) (c : Nat), y = CH.mkS l ∧ sep = ⟨#[c]⟩ ∧ l.length ≤ 100000 ∧ (c ∉ l → R (.d (.tup [.str (CH.mkS l), .str (CH.mkS []), .str (CH.mkS [])]))) ∧
  ∀ a b, l = a ++ c :: b → c ∉ a → R (.d (.tup [.str (CH.mkS a), .str (CH.mkS [c]), .str (CH.mkS b)]))
theorem iss3 {K : PySem.W.Frag} {H : Hp} (a b d : Str) : Iss K H [V.str a, V.str b, V.str d] [D.str a, D.str b, D.str d] := by
  refine ⟨rfl, fun i v x h1 h2 => ?_⟩
  match i, h1, h2 with
  | 0, h1, h2 => cases h1; cases h2; exact .str _
  | 1, h1, h2 => cases h1; cases h2; exact .str _
  | 2, h1, h2 => cases h1; cases h2; exact .str _
theorem v_part {ap cp : Pos} (ho : PE3 X o to) (he : PE3 X e te) (hbase : attributeBase o "partition" X.env (eval o X.env) = eval o X.env := by rfl)
    (hfew : ((backTo cp (starEach [e] X.env)).all (fun x => !x.1) && (backToKw cp (keywordEach [] X.env)).all (fun x => x.1.isSome) && decide ([e].length + ([] : List Keyword).length + (if ([] : List Keyword).isEmpty then 0 else 1) < 30)) = true := by rfl)
    (hline : (ap.endLine == cp.line) = true := by rfl) (hs : starEach [e] X.env = (false, eval e X.env) :: starEach [] X.env := by rfl) (hplain : (backTo cp (starEach [] X.env)).any (·.1) = false := by rfl) :
    PE3 X (.Call (.Attribute o "partition" ap) [e] [] cp) (vPart to te) :=
  ⟨pe_imp (pe_bm PySem.F.plainAttrs_str PySem.F.slot_str_partition PySem.F.type_str_partition mt_part ho.out (pa_cons he.out pa_nil hs) hbase hfew hline hs hplain) fun σ H Q hh => by
    obtain ⟨B, z, τ, R, r, ht, q⟩ := hh
    refine ⟨B, _, τ, _, r, ht, fun x v H1 e1 i1 f1 h1 => ?_⟩
    obtain ⟨y, rfl, h1⟩ := tS_inv h1
    cases Is.str_inv i1
    refine ⟨rfl, B, _, τ, _, r.mono e1, h1, fun s u H2 e2 i2 f2 h2 => ?_⟩
    obtain ⟨w, rfl, l, c, rfl, rfl, hl, h3, h4⟩ := tS_inv h2
    cases Is.str_inv i2
    have tup : ∀ (a b d : Str), R (.d (.tup [.str a, .str b, .str d])) → ∀ p, H2.h p = none → Q (.ref p) (upd H2.h p (.tup [.str a, .str b, .str d])) := fun a b d hR p hp => by
      have jj := (iss3 (K := X.K) (H := H2.z) a b d).mono (same_new (e2.sub.free hp) (.tup [V.str a, V.str b, V.str d]))
      exact q (.d _) _ _ ((e1.trans e2).trans (Ext.lay e2.sub hp (.tup [V.str a, V.str b, V.str d]))) (Is.tup (SqT.of upd_same) jj.1 jj.2) fr_d hR
    exact ⟨l, c, rfl, rfl, hl, fun z => tup _ _ _ (h3 z), fun a b e ha => tup _ _ _ (h4 a b e ha)⟩⟩
end
end L3
namespace CL
open PySem L2 L3 CH
abbrev s_divisor : Stmt := top 12
abbrev s_read_ratio : Stmt := top 16
abbrev s_check_text : Stmt := top 17
abbrev s_read_figures : Stmt := top 18
abbrev s__law_cell_at : Stmt := top 20
abbrev s__law_lowest : Stmt := top 21
abbrev s__law_is_ratio : Stmt := top 23
abbrev s__law_sign_by : Stmt := top 24
abbrev s__law_number : Stmt := top 25
abbrev s__law_due : Stmt := top 26
abbrev s__law_number_by : Stmt := top 27
abbrev s__law_text_by : Stmt := top 28
abbrev s__law_spoiled : Stmt := top 29
abbrev s__law_refused_alone : Stmt := top 30
abbrev s__law_holds : Stmt := top 31
abbrev s_law : Stmt := top 32

def plainD : D → Bool
  | .ty _ => false
  | .ref _ => false
  | _ => true

def isT : D → Bool
  | .str _ => true
  | _ => false
theorem lenI (l : List Nat) : ((mkS l).length : Int) = (l.length : Int) := by rw [mkS_len]
theorem inFig (c : Nat) : (!inS ⟨#[c]⟩ (Str.ofString "0123456789")) = decide (¬ (48 ≤ c ∧ c ≤ 57)) := by
  rw [inS_one, figs_list]
  by_cases h : 48 ≤ c ∧ c ≤ 57
  · rw [decide_eq_false (not_not_intro h), decide_eq_true]
    · rfl
    · have : c = 48 ∨ c = 49 ∨ c = 50 ∨ c = 51 ∨ c = 52 ∨ c = 53 ∨ c = 54 ∨ c = 55 ∨ c = 56 ∨ c = 57 := by omega
      rcases this with rfl | rfl | rfl | rfl | rfl | rfl | rfl | rfl | rfl | rfl <;> decide
  · rw [decide_eq_true h, decide_eq_false]
    · rfl
    · intro z
      simp only [List.mem_cons, List.not_mem_nil, or_false] at z
      omega

def fgI (l : List Nat) : Int := match fig l with
  | some n => (n : Int)
  | none => -1
theorem fgI_none {l : List Nat} (h : fig l = none) : fgI l = -1 := by unfold fgI; rw [h]
theorem fgI_some {l : List Nat} {n : Nat} (h : fig l = some n) : fgI l = n := by unfold fgI; rw [h]
def dueL (l : List Nat) : D := match rdR l with
  | some (a, b) => .tup [.int (a : Int), .int (b : Int)]
  | none => .non
def dueX : D → D
  | .str y => dueL y.cps.toList
  | _ => .non
structure GT (x : D) : Prop where
  p : plainD x = true
  t : ∀ l, x = .str (mkS l) → l.length ≤ 5000 ∧ ∀ c ∈ l, c < 128
theorem GT.str {l : List Nat} (h : l.length ≤ 5000) (a : ∀ c ∈ l, c < 128) : GT (.str (mkS l)) := ⟨rfl, fun l' e => by
  have := mkS_inj (D.str.inj e)
  subst this
  exact ⟨h, a⟩⟩
theorem GT.other {x : D} (h : plainD x = true) (n : isT x = false) : GT x := ⟨h, fun l e => by subst e; cases n⟩
theorem due_not {x : D} (h : isT x = false) : dueX x = .non := by cases x <;> first | rfl | cases h
theorem sgn_at {w : Str} {i : Int} (h0 : 0 ≤ i) (h1 : i < 96) (hl : w.cps.toList.length = 96) (ha : (w.cps.toList.all fun c => decide (c < 128)) = true) : ∃ s, atI w.cps.toList i = some s ∧ s < 128 := by
  obtain ⟨k, rfl⟩ := Int.eq_ofNat_of_zero_le h0
  have hk : k < w.cps.toList.length := by rw [hl]; omega
  refine ⟨w.cps.toList[k], atI_nat (List.getElem?_eq_getElem hk), ?_⟩
  exact of_decide_eq_true (List.all_eq_true.mp ha _ (List.getElem_mem hk))
theorem empty_is {l : List Nat} : mkS l = Str.ofString "" ↔ l = [] := by
  have e : Str.ofString "" = mkS [] := by decide +kernel
  rw [e]
  exact ⟨fun h => mkS_inj h, fun h => by rw [h]⟩
theorem tl_of {n : Nat} (h : n < 2 ^ 300) : Str.ofString (toString ((n : Nat) : Int)) = mkS (num n) ∧ (∀ c ∈ num n, c < 128) ∧ (num n).length ≤ 100 ∧ ((n : Nat) : Int).natAbs.log2 < 1920 := by
  have b : (2 : Nat) ^ 300 < 10 ^ 100 := by decide +kernel
  have b2 : (2 : Nat) ^ 300 < 2 ^ 1000 := by decide +kernel
  refine ⟨tx_nat n, fun c hc => by have := num_all n c hc; omega, num_len (by decide) (Nat.lt_trans h b), log2_small ?_⟩
  rw [Int.natAbs_natCast]
  exact Nat.lt_trans h b2
theorem low_iff {a b : Nat} (hb : 0 < b) : (qd (Rat.divInt a b) = .tup [.int (a : Int), .int (b : Int)]) ↔ Nat.gcd a b = 1 := by
  have hp := rat_parts (a := (a : Int)) (b := (b : Int)) (by omega)
  have e : cm (a : Int) (b : Int) = g a b := if_neg (by omega)
  have eg : g (a : Int) (b : Int) = ((Nat.gcd a b : Nat) : Int) := rfl
  have gp : 0 < Nat.gcd a b := Nat.gcd_pos_of_pos_right a hb
  rw [e, eg] at hp
  unfold qd
  constructor
  · intro h
    have h2 : (((Rat.divInt a b).den : Nat) : Int) = (b : Int) := by
      injection h with h
      injection h with _ h
      injection h with h _
      injection h
    rw [← hp.2, Int.fdiv_eq_ediv_of_nonneg _ (by omega)] at h2
    have d := Nat.gcd_dvd_right a b
    obtain ⟨m, hm⟩ := d
    have h3 : (b : Int) / ((Nat.gcd a b : Nat) : Int) = (m : Int) := by
      have : (b : Int) = ((Nat.gcd a b : Nat) : Int) * (m : Int) := by exact_mod_cast hm
      rw [this, Int.mul_ediv_cancel_left _ (by omega)]
    rw [h3] at h2
    have hmb : m = b := by omega
    rw [hmb] at hm
    exact Nat.eq_of_mul_eq_mul_right hb (by rw [← hm]; omega)
  · intro h
    rw [h] at hp
    rw [← hp.1, ← hp.2]
    simp

theorem eq2 (a b c d : Int) : eqN 1 (.tup [.int a, .int b]) (.tup [.int c, .int d]) = decide (a = c ∧ b = d) := by
  show (((a == c) && ((b == d) && true)) && true) = _
  by_cases h1 : a = c
  · by_cases h2 : b = d
    · rw [decide_eq_true ⟨h1, h2⟩, h1, h2]; simp
    · rw [decide_eq_false (fun z => h2 z.2)]; simp [h2]
  · rw [decide_eq_false (fun z => h1 z.1)]; simp [h1]
theorem low_ne {n m : Nat} (hm : 0 < m) : (!eqN 1 (qd (Rat.divInt n m)) (.tup [.int (n : Int), .int (m : Int)])) = decide (¬ Nat.gcd n m = 1) := by
  unfold qd
  rw [eq2]
  by_cases h : Nat.gcd n m = 1
  · have e := (low_iff hm).mpr h
    unfold qd at e
    have e1 : (Rat.divInt n m).num = (n : Int) ∧ (((Rat.divInt n m).den : Nat) : Int) = (m : Int) := by
      injection e with e
      injection e with e1 e2
      injection e1 with e1
      injection e2 with e2 _
      injection e2 with e2
      exact ⟨e1, e2⟩
    rw [decide_eq_true e1, decide_eq_false (not_not_intro h)]
    rfl
  · rw [decide_eq_true h, decide_eq_false (fun z => h ((low_iff hm).mp (by unfold qd; rw [z.1, z.2])))]
    rfl
theorem dv_lt : ∀ (l : List Nat) (acc : Nat), (∀ c ∈ l, c ≤ 57) → l.foldl (fun acc c => acc * 10 + (c - 48)) acc < (acc + 1) * 10 ^ l.length
  | [], acc, _ => by simp
  | c :: r, acc, h => by
    have h1 := h c (List.mem_cons_self ..)
    have ih := dv_lt r (acc * 10 + (c - 48)) fun d hd => h d (List.mem_cons_of_mem _ hd)
    rw [List.foldl_cons, List.length_cons, Nat.pow_succ]
    refine Nat.lt_of_lt_of_le ih ?_
    have h2 : acc * 10 + (c - 48) + 1 ≤ (acc + 1) * 10 := by omega
    calc (acc * 10 + (c - 48) + 1) * 10 ^ r.length ≤ (acc + 1) * 10 * 10 ^ r.length := Nat.mul_le_mul_right _ h2
      _ = (acc + 1) * (10 ^ r.length * 10) := by rw [Nat.mul_assoc, Nat.mul_comm 10]
theorem fig_lt {l : List Nat} {n : Nat} (h : fig l = some n) : n < 10 ^ 60 := by
  unfold fig at h
  split at h
  · rename_i c
    cases h
    have := dv_lt l 0 fun d hd => (c.2.2.1 d hd).2
    rw [Nat.zero_add, Nat.one_mul] at this
    exact Nat.lt_of_lt_of_le this (Nat.pow_le_pow_right (by decide) c.2.1)
  · cases h
theorem cut_47 : ∀ (b : List Nat), 47 ∈ b → 2 ≤ (cutAt 47 b).length
  | [], h => by cases h
  | d :: r, h => by
    obtain ⟨p, ps, e⟩ := cutAt_ne 47 r
    rw [cutAt]
    split
    · rw [e]; simp
    · rename_i hd
      have hr : 47 ∈ r := by
        rcases List.mem_cons.mp h with z | z
        · exact absurd z.symm hd
        · exact z
      have := cut_47 r hr
      rw [e] at this ⊢
      exact this

theorem rd_low {l : List Nat} {a b : Nat} (h : rdR l = some (a, b)) : 0 < b ∧ Nat.gcd a b = 1 := by
  unfold rdR at h
  split at h
  · rename_i p _
    cases hf : fig p with
    | none => rw [hf] at h; cases h
    | some n =>
      rw [hf] at h
      cases h
      exact ⟨by decide, Nat.gcd_one_right a⟩
  · split at h
    · split at h
      · rename_i c
        cases h
        exact ⟨by omega, c.2⟩
      · cases h
    · cases h
  · cases h
def joinL (z : List Nat) : List (List Nat) → List Nat
  | [] => []
  | [x] => x
  | x :: y :: r => x ++ z ++ joinL z (y :: r)
theorem joinL_is (z : List Nat) : ∀ ls : List (List Nat), Str.join (mkS z) (ls.map mkS) = mkS (joinL z ls)
  | [] => rfl
  | [x] => rfl
  | x :: y :: r => by
    have := joinL_is z (y :: r)
    show mkS x ++ mkS z ++ Str.join (mkS z) ((y :: r).map mkS) = _
    rw [this, mkS_app, mkS_app, joinL]
theorem joinL_ok {z : List Nat} (hz : ∀ c ∈ z, c < 128) : ∀ {ls : List (List Nat)}, (∀ p ∈ ls, ∀ c ∈ p, c < 128) → ∀ c ∈ joinL z ls, c < 128
  | [], _, c, h => by cases h
  | [x], h, c, hc => h x (List.mem_cons_self ..) c hc
  | x :: y :: r, h, c, hc => by
    rw [joinL] at hc
    rcases List.mem_append.mp hc with w | w
    · rcases List.mem_append.mp w with w | w
      · exact h x (List.mem_cons_self ..) c w
      · exact hz c w
    · exact joinL_ok hz (fun p hp => h p (List.mem_cons_of_mem _ hp)) c w
theorem joinL_len (z : List Nat) : ∀ ls : List (List Nat), (joinL z ls).length ≤ (ls.map (·.length)).sum + ls.length * z.length
  | [] => Nat.zero_le _
  | [x] => by simp [joinL]
  | x :: y :: r => by
    have := joinL_len z (y :: r)
    rw [joinL]
    simp only [List.length_append, List.length_cons, List.map_cons, List.sum_cons, Nat.succ_mul] at this ⊢
    omega
theorem cut_size (c : Nat) : ∀ l : List Nat, ((cutAt c l).map (·.length)).sum + (cutAt c l).length ≤ l.length + 1
  | [] => by simp [cutAt]
  | d :: r => by
    have ih := cut_size c r
    obtain ⟨p, ps, e⟩ := cutAt_ne c r
    rw [cutAt]
    rw [e] at ih ⊢
    split
    · simp only [List.map_cons, List.sum_cons, List.length_cons, List.length_nil] at ih ⊢
      omega
    · simp only [List.map_cons, List.sum_cons, List.length_cons] at ih ⊢
      omega
theorem rep_ok {l : List Nat} (ha : ∀ c ∈ l, c < 128) (hl : l.length ≤ 300) : ∃ l', Txt.replace (mkS l) (Str.ofString "/") (Str.ofString "/0") = mkS l' ∧ (∀ c ∈ l', c < 128) ∧ l'.length ≤ 5000 := by
  have e0 : Str.ofString "/0" = mkS [47, 48] := by decide +kernel
  have e1 : Str.ofString "/" = ⟨#[47]⟩ := by decide +kernel
  rw [e0, e1]
  unfold Txt.replace
  split
  · exact ⟨l, rfl, ha, by omega⟩
  · refine ⟨joinL [47, 48] (cutAt 47 l), ?_, joinL_ok (by decide) (fun p hp c hc => ha c ((cut_sub 47 l p hp).2 c hc)), ?_⟩
    · rw [occ_is, show (⟨#[47]⟩ : Str).length = 1 from rfl, parts_cut, mkS_list, StrLaws.glued_eq_join, joinL_is]
    · have h1 := joinL_len [47, 48] (cutAt 47 l)
      have h2 := cut_size 47 l
      have h3 : (cutAt 47 l).length * [47, 48].length = (cutAt 47 l).length * 2 := rfl
      omega
theorem zero1 : Str.ofString "0" = mkS [48] := by decide +kernel
theorem cdv9 {i j : Int} (h : 0 < j) (k : j < 1000000000) : CDv i j := ⟨by omega, noPy2 (by omega)⟩
theorem fm9 (a : Int) {b : Int} (h : 0 < b) : 0 ≤ a.fmod b ∧ a.fmod b < b := ⟨Int.fmod_nonneg_of_pos a h, Int.fmod_lt_of_pos a h⟩
inductive Sp_divisor (ss : List S) (R : S → Prop) (U_ : Str → Prop) : Prop
  | mk (a b : Int) (h0_ : ss = [.d (.int a), .d (.int b)]) (h1_ : R (.d (.int (g a b)))) : Sp_divisor ss R U_
def sp_divisor : Sp3 := fun ss R U_ => Sp_divisor ss R U_
inductive Sp_read_ratio (ss : List S) (R : S → Prop) (U : Str → Prop) : Prop
  | mk (x : D) (h0_ : ss = [.d x]) (h1_ : plainD x = true) (h2_ : (isT x = false → U "NoText")) (h3_ : (∀ l, x = .str (mkS l) → l.length ≤ 100000 ∧ (∀ c ∈ l, c < 128) ∧ (∀ a b : Nat, rdR l = some (a, b) → R (.d (.tup [.int a, .int b]))) ∧ (rdR l = none → U "NoText"))) : Sp_read_ratio ss R U
def sp_read_ratio : Sp3 := fun ss R U => Sp_read_ratio ss R U
inductive Sp_check_text (ss : List S) (R : S → Prop) (U : Str → Prop) : Prop
  | mk (x : D) (h0_ : ss = [.d x]) (h1_ : plainD x = true) (h2_ : (isT x = true → R (.d .non))) (h3_ : (isT x = false → U "NoText")) : Sp_check_text ss R U
def sp_check_text : Sp3 := fun ss R U => Sp_check_text ss R U
inductive Sp_read_figures (ss : List S) (R : S → Prop) (U : Str → Prop) : Prop
  | mk (l : List Nat) (h0_ : ss = [.d (.str (mkS l))]) (h1_ : l.length ≤ 100000) (h2_ : (∀ c ∈ l, c < 128)) (h3_ : (∀ n, fig l = some n → R (.d (.int n)))) (h4_ : (fig l = none → U "NoText")) : Sp_read_figures ss R U
def sp_read_figures : Sp3 := fun ss R U => Sp_read_figures ss R U
inductive Sp__law_cell_at (ss : List S) (R : S → Prop) (U_ : Str → Prop) : Prop
  | mk (ns : List Int) (k : Int) (h0_ : ss = [.r (ns.map D.int), .d (.int k)]) (h1_ : 0 ≤ k) (h2_ : k ≤ 1000) (h3_ : (∀ c : Int, R (.d (.int c)))) : Sp__law_cell_at ss R U_
def sp__law_cell_at : Sp3 := fun ss R U_ => Sp__law_cell_at ss R U_
inductive Sp__law_lowest (ss : List S) (R : S → Prop) (U_ : Str → Prop) : Prop
  | mk (a b : Int) (h0_ : ss = [.d (.int a), .d (.int b)]) (h1_ : 0 < b) (h2_ : a.natAbs < 2 ^ 13000) (h3_ : b.natAbs < 2 ^ 13000) (h4_ : R (.d (qd (Rat.divInt a b)))) : Sp__law_lowest ss R U_
def sp__law_lowest : Sp3 := fun ss R U_ => Sp__law_lowest ss R U_
inductive Sp__law_is_ratio (ss : List S) (R : S → Prop) (U_ : Str → Prop) : Prop
  | mk (q0 : Rat) (h0_ : ss = [.d (qd q0), .d (qd q0)]) (h1_ : R (.d (.bl true))) : Sp__law_is_ratio ss R U_
def sp__law_is_ratio : Sp3 := fun ss R U_ => Sp__law_is_ratio ss R U_
inductive Sp__law_sign_by (ss : List S) (R : S → Prop) (U_ : Str → Prop) : Prop
  | mk (c : Int) (h0_ : ss = [.d (.int c)]) (h1_ : (∀ s : Nat, s < 128 → R (.d (.str (mkS [s]))))) : Sp__law_sign_by ss R U_
def sp__law_sign_by : Sp3 := fun ss R U_ => Sp__law_sign_by ss R U_
inductive Sp__law_number (ss : List S) (R : S → Prop) (U_ : Str → Prop) : Prop
  | mk (l : List Nat) (h0_ : ss = [.d (.str (mkS l))]) (h1_ : l.length ≤ 100000) (h2_ : (∀ c ∈ l, c < 128)) (h3_ : R (.d (.int (fgI l)))) : Sp__law_number ss R U_
def sp__law_number : Sp3 := fun ss R U_ => Sp__law_number ss R U_
inductive Sp__law_due (ss : List S) (R : S → Prop) (U_ : Str → Prop) : Prop
  | mk (x : D) (h0_ : ss = [.d x]) (h1_ : GT x) (h2_ : R (.d (dueX x))) : Sp__law_due ss R U_
def sp__law_due : Sp3 := fun ss R U_ => Sp__law_due ss R U_
inductive Sp__law_number_by (ss : List S) (R : S → Prop) (U_ : Str → Prop) : Prop
  | mk (c : Int) (h0_ : ss = [.d (.int c)]) (h1_ : (∀ n : Nat, n < 2 ^ 201 → R (.d (.int n)))) : Sp__law_number_by ss R U_
def sp__law_number_by : Sp3 := fun ss R U_ => Sp__law_number_by ss R U_
inductive Sp__law_text_by (ss : List S) (R : S → Prop) (U_ : Str → Prop) : Prop
  | mk (ns : List Int) (h0_ : ss = [.r (ns.map D.int)]) (h1_ : (∀ l : List Nat, (∀ c ∈ l, c < 128) → l.length ≤ 300 → R (.d (.str (mkS l))))) : Sp__law_text_by ss R U_
def sp__law_text_by : Sp3 := fun ss R U_ => Sp__law_text_by ss R U_
inductive Sp__law_spoiled (ss : List S) (R : S → Prop) (U_ : Str → Prop) : Prop
  | mk (l : List Nat) (w c o : Int) (h0_ : ss = [.d (.str (mkS l)), .d (.int w), .d (.int c), .d (.int o)]) (h1_ : (∀ c ∈ l, c < 128)) (h2_ : l.length ≤ 300) (h3_ : (∀ x : D, GT x → R (.d x))) : Sp__law_spoiled ss R U_
def sp__law_spoiled : Sp3 := fun ss R U_ => Sp__law_spoiled ss R U_
inductive Sp__law_refused_alone (ss : List S) (R : S → Prop) (U_ : Str → Prop) : Prop
  | mk (x : D) (h0_ : ss = [.d x]) (h1_ : GT x) (h2_ : dueX x = .non) (h3_ : R (.d (.bl true))) : Sp__law_refused_alone ss R U_
def sp__law_refused_alone : Sp3 := fun ss R U_ => Sp__law_refused_alone ss R U_
inductive Sp__law_holds (ss : List S) (R : S → Prop) (U_ : Str → Prop) : Prop
  | mk (x : D) (h0_ : ss = [.d x]) (h1_ : GT x) (h2_ : R (.d (.bl true))) : Sp__law_holds ss R U_
def sp__law_holds : Sp3 := fun ss R U_ => Sp__law_holds ss R U_
abbrev sp_law : Sp3 := spLaw3
section
variable {P : Program} {w : World} {K : PySem.W.Frag} {mg : Str → Option Value} {base : Heap} {f : Addr} {fd : FuncData}
variable {K_CurveError K_NoRatio K_NoCurve K_NoTime K_NoHouse K_NoWay K_NoText K_NoName K_NoEnd K_NoRow : Addr}
theorem sc_divisor : FnScope ["one", "other", "great", "small", "rest"] ["one", "other"] (defScope s_divisor) := ⟨rfl, rfl, rfl, by decide +kernel, rfl, by decide +kernel, by decide +kernel⟩
set_option maxHeartbeats 4000000 in
theorem ok_divisor (F : Fun K "divisor" "divisor" s_divisor f fd) (z_abs : mg "abs" = none) : FnOk P w K mg base CX0 1 f fd ["one", "other"] (liftSp K mg sp_divisor) := by
  refine fn3 F sc_divisor (fun ss R U h => ?_) (fun cdv A outer s H E ss R U hr h => ?_)
  · unfold sp_divisor at h; obtain ⟨a, b, rfl, _⟩ := h; rfl
  obtain ⟨a, b, rfl, q⟩ := h
  refine ⟨_, (ss_cons (s_set (i := 2) sc_divisor.nd rfl (Or.inl rfl) (v_callB b_abs rfl z_abs PyProof.Rows.boot_abs (a_cons (v_var (pv 0)) a_nil)))
      (ss_cons (s_set (i := 3) sc_divisor.nd rfl (Or.inl rfl) (v_callB b_abs rfl z_abs PyProof.Rows.boot_abs (a_cons (v_var (pv 1)) a_nil)))
      (ss_cons (s_while PassesOwn.never (w_cmp o_ne (v_var (pv 3)) v_int (nomark _)) (ss_cons (s_set (i := 4) sc_divisor.nd rfl (Or.inl rfl) (v_op o_mod (v_var (pv 2)) (v_var (pv 3))))
      (ss_cons (s_set (i := 2) sc_divisor.nd rfl (Or.inl rfl) (v_var (pv 3)))
      (ss_one (s_set (i := 3) sc_divisor.nd rfl (Or.inl rfl) (v_var (pv 4)))))))
      (ss_one (s_retV (pv 2)))))), ?_⟩
  refine ⟨fun m τ => ∃ x y z, τ = [I a, I b, I x, I y, z] ∧ 0 ≤ x ∧ 0 ≤ y ∧ g x y = g a b ∧ m = y.toNat, ⟨_, _, _, _, rfl, ?_, ?_, g_abs a b, rfl⟩, ?_⟩
  · exact abs_nn a
  · exact abs_nn b
  rintro m τ ⟨x, y, z, rfl, h1, h2, h3, rfl⟩
  refine iteN (fun c => ?_) (fun c => ?_)
  · refine ⟨c, (x.fmod y).toNat, ?_, _, _, _, rfl, h2, ?_, ?_, rfl⟩
    · have := Int.fmod_lt_of_pos x (show 0 < y by omega)
      omega
    · exact Int.fmod_nonneg_of_pos x (by omega)
    · rw [← h3, Int.fmod_eq_emod_of_nonneg x h2]
      exact g_turn (by omega)
  · subst c
    rw [g_end h1] at h3
    subst h3
    exact q
theorem sc_check_text : FnScope ["thing"] ["thing"] (defScope s_check_text) := ⟨rfl, rfl, rfl, by decide +kernel, rfl, by decide +kernel, by decide +kernel⟩
set_option maxHeartbeats 4000000 in
theorem ok_check_text (F : Fun K "check_text" "check_text" s_check_text f fd) (z_isinstance : mg "isinstance" = none) (z_str : mg "str" = none) (ec_NoText : ExC K "NoText" K_NoText) (m_NoText : mg "NoText" = some (.ref K_NoText)) : FnOk P w K mg base (CXU P w) 1 f fd ["thing"] (liftSp K mg sp_check_text) := by
  refine fnU F sc_check_text (fun ss R U h => ?_) (fun cdv A outer s H E ss R U hr h xo => ?_)
  · unfold sp_check_text at h; obtain ⟨x, rfl, _⟩ := h; rfl
  obtain ⟨x, rfl, px, q1, q2⟩ := h
  refine ⟨_, (ss_one (s_if (w_not (w_val (v_isi .str (v_var (pv 0)) rfl z_isinstance rfl z_str PyProof.Rows.boot_str))) (ss_one (s_raise xo rfl v_str rfl ec_NoText m_NoText)) ss_nil)), ?_⟩
  cases x with
  | str y => exact ⟨trivial, q1 rfl⟩
  | int y => exact ⟨trivial, q2 rfl⟩
  | bl y => exact ⟨trivial, q2 rfl⟩
  | non => exact ⟨trivial, q2 rfl⟩
  | tup y => exact ⟨trivial, q2 rfl⟩
  | lst y => exact ⟨trivial, q2 rfl⟩
  | ty y => cases px
  | ref y => cases px
theorem sc_read_figures : FnScope ["text", "sign"] ["text"] (defScope s_read_figures) := ⟨rfl, rfl, rfl, by decide +kernel, rfl, by decide +kernel, by decide +kernel⟩
set_option maxHeartbeats 4000000 in
theorem ok_read_figures (F : Fun K "read_figures" "read_figures" s_read_figures f fd) (z_int : mg "int" = none) (z_len : mg "len" = none) (ec_NoText : ExC K "NoText" K_NoText) (m_NoText : mg "NoText" = some (.ref K_NoText)) (gc_FIGURES : GC K mg "FIGURES" (.str "0123456789")) (gc_MOST_FIGURES : GC K mg "MOST_FIGURES" (.int 60)) : FnOk P w K mg base (CXU P w) 1 f fd ["text"] (liftSp K mg sp_read_figures) := by
  refine fnU F sc_read_figures (fun ss R U h => ?_) (fun cdv A outer s H E ss R U hr h xo => ?_)
  · unfold sp_read_figures at h; obtain ⟨l, rfl, _⟩ := h; rfl
  obtain ⟨l, rfl, hl, ha, q1, q2⟩ := h
  refine ⟨_, (ss_gp (s_if (PW3.pt (w_or (w_cmp o_eq (v_callB b_lenS rfl z_len PySem.boot_len (a_cons (v_var (pv 0)) a_nil)) v_int (nomark _)) (w_or1 (w_cmp o_gt (v_callB b_lenS rfl z_len PySem.boot_len (a_cons (v_var (pv 0)) a_nil)) (v_gc rfl gc_MOST_FIGURES) (nomark _))))) (ss_one (s_raise xo rfl v_str rfl ec_NoText m_NoText)) ss_nil)
      (ss_cons (s_forS (ps_for PassesOwn.leaving rfl (pi_str (pv 0)) (pg_name (i := 1) sc_read_figures.nd rfl (Or.inl rfl)) (PSs3.out (ss_one (s_if (w_cmp o_notinS (v_var (pv 1)) (v_gc rfl gc_FIGURES) rfl) (ss_one (s_raise xo rfl v_str rfl ec_NoText m_NoText)) ss_nil)))))
      (ss_gp (s_if (PW3.pt (w_and (w_cmp o_eq (v_ixS (v_var (pv 0)) v_int (fun _ _ => rfl)) v_str (nomark _)) (w_and1 (w_cmp o_gt (v_callB b_lenS rfl z_len PySem.boot_len (a_cons (v_var (pv 0)) a_nil)) v_int (nomark _))))) (ss_one (s_raise xo rfl v_str rfl ec_NoText m_NoText)) ss_nil)
      (ss_one (s_ret (v_callTy b_int rfl z_int PyProof.Rows.boot_int (a_cons (v_var (pv 0)) a_nil))))))), ?_⟩
  have hL : (mkS l).length ≤ 1000000 := by rw [mkS_len]; omega
  refine ⟨¬ (l = [] ∨ 60 < l.length), ?_, fun hg => ?_⟩
  · refine ⟨hL, ?_⟩
    rw [lenI]
    refine iteD (fun e => q2 (fig_len (.inl (List.eq_nil_of_length_eq_zero (by omega))))) (fun e => ?_)
    refine ⟨hL, ?_⟩
    rw [lenI]
    refine iteD (fun e2 => q2 (fig_len (.inr (by omega)))) (fun e2 => ⟨rfl, fun z => ?_⟩)
    rcases z with z | z
    · subst z; exact e rfl
    · omega
  refine ⟨asc_all ha, fun n τ => ∃ z, τ = [some (.d (.str (mkS l))), z] ∧ ∀ i c, i < n → l[i]? = some c → 48 ≤ c ∧ c ≤ 57, ⟨_, rfl, fun i c h => absurd h (Nat.not_lt_zero _)⟩, ?_, ?_⟩
  · rintro n τ x hx ⟨z, rfl, hd⟩
    rw [mkS_list, List.getElem?_map] at hx
    cases hc : l[n]? with
    | none => rw [hc] at hx; cases hx
    | some c =>
      rw [hc] at hx
      cases hx
      show if (!inS ⟨#[c]⟩ (Str.ofString "0123456789")) = true then _ else _
      rw [inFig]
      refine iteD (fun e => q2 (fig_dig (List.mem_of_getElem? hc) e)) (fun e => ⟨_, rfl, fun i d hi he => ?_⟩)
      by_cases y : i < n
      · exact hd i d y he
      · have : i = n := by omega
        subst this
        rw [hc] at he
        cases he
        omega
  rintro τ ⟨z, rfl, hd⟩
  rw [mkS_list, List.length_map] at hd
  have hall : ∀ c ∈ l, 48 ≤ c ∧ c ≤ 57 := fun c hc => by
    obtain ⟨i, hi, e⟩ := List.mem_iff_getElem.mp hc
    exact hd i c hi (by rw [List.getElem?_eq_getElem hi, e])
  refine ⟨¬ (l.head? = some 48 ∧ 1 < l.length), ?_, fun hh => ?_⟩
  · cases l with
    | nil => exact absurd (.inl rfl) hg
    | cons a r =>
      refine ⟨hL, a, (show atI (a :: r) ((0 : Nat) : Int) = some a from atI_nat rfl), ?_⟩
      show if decide ((⟨#[a]⟩ : Str) = Str.ofString "0") = true then _ else _
      refine iteD (fun e => ?_) (fun e => ⟨rfl, fun w => e (zero_is.mpr (by simpa using w.1))⟩)
      refine ⟨hL, ?_⟩
      rw [lenI]
      refine iteD (fun e2 => q2 (fig_head ⟨by simpa using zero_is.mp e, by omega⟩)) (fun e2 => ⟨rfl, fun w => by omega⟩)
  have hf := fig_some hg hall hh
  exact ⟨_, int_fig hf, by rw [mkS_len]; omega, q1 _ hf⟩
theorem sc_read_ratio : FnScope ["text", "parts", "top", "bottom"] ["text"] (defScope s_read_ratio) := ⟨rfl, rfl, rfl, by decide +kernel, rfl, by decide +kernel, by decide +kernel⟩
set_option maxHeartbeats 4000000 in
theorem ok_read_ratio (F : Fun K "read_ratio" "read_ratio" s_read_ratio f fd) (C_check_text : Cal P w K mg base (CXU P w) 1 "check_text" ["thing"] sp_check_text) (C_read_figures : Cal P w K mg base (CXU P w) 1 "read_figures" ["text"] sp_read_figures) (C_divisor : Cal P w K mg base (CXU P w) 1 "divisor" ["one", "other"] sp_divisor) (z_len : mg "len" = none) (ec_NoText : ExC K "NoText" K_NoText) (m_NoText : mg "NoText" = some (.ref K_NoText)) : FnOk P w K mg base (CXU P w) 2 f fd ["text"] (liftSp K mg sp_read_ratio) := by
  refine fnU F sc_read_ratio (fun ss R U h => ?_) (fun cdv A outer s H E ss R U hr h xo => ?_)
  · unfold sp_read_ratio at h; obtain ⟨x, rfl, _⟩ := h; rfl
  obtain ⟨x, rfl, px, q0, q1⟩ := h
  refine ⟨_, (ss_cons (s_expr (v_callU xo C_check_text (hr.mono (by decide)) rfl (a_cons (v_var (pv 0)) a_nil)))
      (ss_cons (s_set (i := 1) sc_read_ratio.nd rfl (Or.inl rfl) (v_split (v_var (pv 0)) v_str))
      (ss_cons (s_if (w_cmp o_gt (v_callB b_len rfl z_len PySem.boot_len (a_cons (v_var (pv 1)) a_nil)) v_int (nomark _)) (ss_one (s_raise xo rfl v_str rfl ec_NoText m_NoText)) ss_nil)
      (ss_cons (s_set (i := 2) sc_read_ratio.nd rfl (Or.inl rfl) (v_callU xo C_read_figures (hr.mono (by decide)) rfl (a_cons (v_ix (v_var (pv 1)) v_int (fun _ _ => rfl)) a_nil)))
      (ss_cons (s_if (w_cmp o_eq (v_callB b_len rfl z_len PySem.boot_len (a_cons (v_var (pv 1)) a_nil)) v_int (nomark _)) (ss_one (s_ret (v_tup (a_cons (v_var (pv 2)) (a_cons v_int a_nil))))) ss_nil)
      (ss_cons (s_set (i := 3) sc_read_ratio.nd rfl (Or.inl rfl) (v_callU xo C_read_figures (hr.mono (by decide)) rfl (a_cons (v_ix (v_var (pv 1)) v_int (fun _ _ => rfl)) a_nil)))
      (ss_gp (s_if (PW3.pt (w_or (w_cmp o_lt (v_var (pv 3)) v_int (nomark _)) (w_or1 (w_cmp o_ne (v_callU xo C_divisor (hr.mono (by decide)) rfl (a_cons (v_var (pv 2)) (a_cons (v_var (pv 3)) a_nil))) v_int (nomark _))))) (ss_one (s_raise xo rfl v_str rfl ec_NoText m_NoText)) ss_nil)
      (ss_one (s_ret (v_tup (a_cons (v_var (pv 2)) (a_cons (v_var (pv 3)) a_nil)))))))))))), ?_⟩
  cases hx : isT x with
  | false => exact ⟨x, rfl, px, fun z => absurd (hx.symm.trans z) Bool.false_ne_true, fun _ => q0 hx⟩
  | true =>
    cases x with
    | str y =>
      obtain ⟨l, rfl⟩ : ∃ l, y = mkS l := ⟨_, (mkS_of y).symm⟩
      obtain ⟨hl, ha, q2, q3⟩ := q1 l rfl
      refine ⟨_, rfl, rfl, fun _ => ?_, fun z => by cases z⟩
      refine ⟨47, stroke, by decide, by rw [mkS_len]; exact hl, ?_⟩
      rw [mkS_list]
      obtain ⟨p, ps, e⟩ := cutAt_ne 47 l
      have sub := cut_sub 47 l
      rw [e] at sub
      have sp := sub p (List.mem_cons_self ..)
      have r0 : ∀ z, cutAt 47 l = z → rdR l = (match z with
        | [p] => (fig p).map (·, 1)
        | [p, q] => match fig p, fig q with
          | some a, some b => if 2 ≤ b ∧ Nat.gcd a b = 1 then some (a, b) else none
          | _, _ => none
        | _ => none) := fun z hz => by subst hz; rfl
      have r1 := r0 _ e
      rw [e]
      cases ps with
      | nil =>
        simp only at r1
        refine ⟨p, rfl, by omega, fun d hd => ha d (sp.2 d hd), fun n hn => ?_, fun hn => q3 (by rw [r1, hn]; rfl)⟩
        exact ⟨Nat.le_of_ble_eq_true rfl, q2 n 1 (by rw [r1, hn]; rfl)⟩
      | cons p2 ps =>
        have sp2 := sub p2 (List.mem_cons_of_mem _ (List.mem_cons_self ..))
        cases ps with
        | cons p3 ps =>
          simp only at r1
          refine iteD (fun c => q3 r1) (fun c => absurd (show (2 : Int) < ((p :: p2 :: p3 :: ps).map fun p => D.str (mkS p)).length by rw [List.length_map]; simp only [List.length_cons]; omega) c)
        | nil =>
          simp only at r1
          refine ⟨p, rfl, by omega, fun d hd => ha d (sp.2 d hd), fun n hn => ?_, fun hn => q3 (by rw [r1, hn])⟩
          refine ⟨p2, rfl, by omega, fun d hd => ha d (sp2.2 d hd), fun k hk => ?_, fun hk => q3 (by rw [r1, hn, hk])⟩
          rw [hn, hk] at r1
          simp only at r1
          refine ⟨2 ≤ k ∧ Nat.gcd n k = 1, ?_, fun hh => ⟨Nat.le_of_ble_eq_true rfl, q2 n k (by rw [r1, if_pos hh])⟩⟩
          refine iteD (fun c => q3 (by rw [r1, if_neg (fun z => by omega)])) (fun c => ?_)
          refine ⟨n, k, rfl, ?_⟩
          have eg : g (n : Int) (k : Int) = ((Nat.gcd n k : Nat) : Int) := rfl
          rw [eg]
          refine iteN (fun c2 => q3 (by rw [r1, if_neg (fun z => c2 (by rw [z.2]; rfl))])) (fun c2 => ⟨rfl, by omega, by omega⟩)
    | _ => cases hx
theorem sc__law_cell_at : FnScope ["_law_script", "_law_k"] ["_law_script", "_law_k"] (defScope s__law_cell_at) := ⟨rfl, rfl, rfl, by decide +kernel, rfl, by decide +kernel, by decide +kernel⟩
set_option maxHeartbeats 4000000 in
theorem ok__law_cell_at (F : Fun K "_law_cell_at" "_law_cell_at" s__law_cell_at f fd) (z_len : mg "len" = none) : FnOk P w K mg base CX0 1 f fd ["_law_script", "_law_k"] (liftSp K mg sp__law_cell_at) := by
  refine fn3 F sc__law_cell_at (fun ss R U h => ?_) (fun cdv A outer s H E ss R U hr h => ?_)
  · unfold sp__law_cell_at at h; obtain ⟨ns, k, rfl, _⟩ := h; rfl
  obtain ⟨ns, k, rfl, k0, k1, q⟩ := h
  refine ⟨_, (ss_cons (s_if (w_cmp o_lt (v_var (pv 1)) (v_callB b_len rfl z_len PySem.boot_len (a_cons (v_var (pv 0)) a_nil)) (nomark _)) (ss_one (s_ret (v_ix (v_var (pv 0)) (v_var (pv 1)) (fun _ _ => rfl)))) ss_nil)
      (ss_one (s_ret (v_op o_add (v_op o_mul v_int (v_var (pv 1))) v_int)))), ?_⟩
  refine iteD (fun c => ?_) (fun c => ?_)
  · rw [List.length_map] at c
    refine atR (atI_ints k0 c) ?_
    exact q _
  · exact ⟨mulOk (m := 10) (n := 20) (by decide) (by omega) (by decide), q _⟩
theorem sc__law_lowest : FnScope ["_law_top", "_law_bottom", "_law_one", "_law_other", "_law_rest"] ["_law_top", "_law_bottom"] (defScope s__law_lowest) := ⟨rfl, rfl, rfl, by decide +kernel, rfl, by decide +kernel, by decide +kernel⟩
set_option maxHeartbeats 4000000 in
theorem ok__law_lowest (F : Fun K "_law_lowest" "_law_lowest" s__law_lowest f fd) (z_abs : mg "abs" = none) : FnOk P w K mg base CX0 1 f fd ["_law_top", "_law_bottom"] (liftSp K mg sp__law_lowest) := by
  refine fn3 F sc__law_lowest (fun ss R U h => ?_) (fun cdv A outer s H E ss R U hr h => ?_)
  · unfold sp__law_lowest at h; obtain ⟨a, b, rfl, _⟩ := h; rfl
  obtain ⟨a, b, rfl, hb, h1, h2, q⟩ := h
  refine ⟨_, (ss_cons (s_set (i := 2) sc__law_lowest.nd rfl (Or.inl rfl) (v_callB b_abs rfl z_abs PyProof.Rows.boot_abs (a_cons (v_var (pv 0)) a_nil)))
      (ss_cons (s_set (i := 3) sc__law_lowest.nd rfl (Or.inl rfl) (v_var (pv 1)))
      (ss_cons (s_while PassesOwn.never (w_cmp o_gt (v_var (pv 3)) v_int (nomark _)) (ss_cons (s_set (i := 4) sc__law_lowest.nd rfl (Or.inl rfl) (v_op o_mod (v_var (pv 2)) (v_var (pv 3))))
      (ss_cons (s_set (i := 2) sc__law_lowest.nd rfl (Or.inl rfl) (v_var (pv 3)))
      (ss_one (s_set (i := 3) sc__law_lowest.nd rfl (Or.inl rfl) (v_var (pv 4)))))))
      (ss_one (s_ret (v_tup (a_cons (v_op o_fdiv (v_var (pv 0)) (v_var (pv 2))) (a_cons (v_op o_fdiv (v_var (pv 1)) (v_var (pv 2))) a_nil)))))))), ?_⟩
  have hb0 : b ≠ 0 := by clear h1 h2; omega
  have hp := rat_parts (a := a) hb0
  have hc := cm_ne (a := a) hb0
  have e : cm a b = g a b := if_neg (by clear h1 h2; omega)
  rw [e] at hp hc
  have ga := g_abs a b
  rw [if_neg (show ¬ b < 0 by clear h1 h2; omega)] at ga
  refine ⟨fun m τ => ∃ x y z, τ = [I a, I b, I x, I y, z] ∧ 0 ≤ x ∧ 0 ≤ y ∧ g x y = g a b ∧ m = y.toNat, ⟨_, _, _, _, rfl, abs_nn a, Int.le_of_lt hb, ga, rfl⟩, ?_⟩
  rintro m τ ⟨x, y, z, rfl, k1, k2, k3, rfl⟩
  refine iteD (fun c => ?_) (fun c => ?_)
  · clear h1 h2
    have c : 0 < y := c
    refine ⟨by omega, (x.fmod y).toNat, ?_, _, _, _, rfl, k2, ?_, ?_, rfl⟩
    · have := Int.fmod_lt_of_pos x (show 0 < y by omega)
      omega
    · exact Int.fmod_nonneg_of_pos x (by omega)
    · rw [← k3, Int.fmod_eq_emod_of_nonneg x k2]
      exact g_turn (by omega)
  · have c : y = 0 := by have : ¬ 0 < y := c; omega
    subst c
    rw [g_end k1] at k3
    subst k3
    refine ⟨⟨hc, noPy h1⟩, ⟨hc, noPy h2⟩, (by show 2 ≤ 1000; decide), ?_⟩
    show R (.d (.tup [.int (a.fdiv (g a b)), .int (b.fdiv (g a b))]))
    rw [hp.1, hp.2]
    exact q
theorem sc__law_is_ratio : FnScope ["_law_found", "_law_due_here", "_law_number_here"] ["_law_found", "_law_due_here"] (defScope s__law_is_ratio) := ⟨rfl, rfl, rfl, by decide +kernel, rfl, by decide +kernel, by decide +kernel⟩
set_option maxHeartbeats 4000000 in
theorem ok__law_is_ratio (F : Fun K "_law_is_ratio" "_law_is_ratio" s__law_is_ratio f fd) (z_isinstance : mg "isinstance" = none) (z_tuple : mg "tuple" = none) (z_len : mg "len" = none) (z_bool : mg "bool" = none) (z_int : mg "int" = none) : FnOk P w K mg base CX0 1 f fd ["_law_found", "_law_due_here"] (liftSp K mg sp__law_is_ratio) := by
  refine fn3 F sc__law_is_ratio (fun ss R U h => ?_) (fun cdv A outer s H E ss R U hr h => ?_)
  · unfold sp__law_is_ratio at h; obtain ⟨q0, rfl, _⟩ := h; rfl
  obtain ⟨q0, rfl, q⟩ := h
  refine ⟨_, (ss_gd (s_if (PW3.pt (w_or (w_not (w_val (v_isi .tuple (v_var (pv 0)) rfl z_isinstance rfl z_tuple PyProof.Rows.boot_tuple))) (w_or1 (w_cmp o_ne (v_callB b_len rfl z_len PySem.boot_len (a_cons (v_var (pv 0)) a_nil)) v_int (nomark _))))) (ss_one (s_ret v_bl)) ss_nil)
      (ss_cons (s_forN (ps_for PassesOwn.never rfl (pi_seq (pv 0)) (pg_name (i := 2) sc__law_is_ratio.nd rfl (Or.inl rfl)) (PSs3.out (ss_one (s_if (PW3.pt (w_or (w_not (w_val (v_isi .int (v_var (pv 2)) rfl z_isinstance rfl z_int PyProof.Rows.boot_int))) (w_or1 (w_val (v_isi .bool (v_var (pv 2)) rfl z_isinstance rfl z_bool PyProof.Rows.boot_bool))))) (ss_one (s_ret v_bl)) ss_nil)))))
      (ss_one (s_ret (v_cmp (o_eqT 1 (hu_ hr (by decide))) (v_var (pv 0)) (v_var (pv 1)) (nomark _)))))), ?_⟩
  refine ⟨⟨trivial, rfl⟩, ?_⟩
  refine ⟨fun n τ => ∃ z, τ = [some (.d (qd q0)), some (.d (qd q0)), z], ⟨_, rfl⟩, ?_, ?_⟩
  · rintro n τ x hx ⟨z, rfl⟩
    have ex : ∃ i, x = .int i := by
      match n, hx with
      | 0, hx => exact ⟨_, (Option.some.inj hx).symm⟩
      | 1, hx => exact ⟨_, (Option.some.inj hx).symm⟩
    obtain ⟨i, rfl⟩ := ex
    exact ⟨trivial, ⟨trivial, ⟨_, rfl⟩⟩⟩
  rintro τ ⟨z, rfl⟩
  have e : eqN 1 (qd q0) (qd q0) = true := eqN_refl 1 _ rfl
  refine ⟨rfl, rfl, ?_⟩
  show R (.d (.bl (eqN 1 (qd q0) (qd q0))))
  rw [e]
  exact q
theorem sc__law_sign_by : FnScope ["_law_cell", "_law_some"] ["_law_cell"] (defScope s__law_sign_by) := ⟨rfl, rfl, rfl, by decide +kernel, rfl, by decide +kernel, by decide +kernel⟩
set_option maxHeartbeats 4000000 in
theorem ok__law_sign_by (F : Fun K "_law_sign_by" "_law_sign_by" s__law_sign_by f fd) : FnOk P w K mg base CX0 1 f fd ["_law_cell"] (liftSp K mg sp__law_sign_by) := by
  refine fn3 F sc__law_sign_by (fun ss R U h => ?_) (fun cdv A outer s H E ss R U hr h => ?_)
  · unfold sp__law_sign_by at h; obtain ⟨c, rfl, _⟩ := h; rfl
  obtain ⟨c, rfl, q⟩ := h
  refine ⟨_, (ss_cons (s_set (i := 1) sc__law_sign_by.nd rfl (Or.inl rfl) v_str)
      (ss_cons (s_set (i := 1) sc__law_sign_by.nd rfl (Or.inl rfl) (v_op o_addS (v_var (pv 1)) v_str))
      (ss_one (s_ret (v_ixS (v_var (pv 1)) (v_op o_mod (v_var (pv 0)) v_int) (fun _ _ => rfl)))))), ?_⟩
  have f0 := Int.fmod_nonneg_of_pos c (show (0 : Int) < 96 by decide)
  have f1 := Int.fmod_lt_of_pos c (show (0 : Int) < 96 by decide)
  refine ⟨by decide +kernel, ?_⟩
  refine ⟨by decide, ?_⟩
  refine ⟨by decide +kernel, ?_⟩
  exact Exists.imp (fun s h => ⟨h.1, q s h.2⟩) (sgn_at f0 f1 (by decide +kernel) (by decide +kernel))
theorem sc__law_number : FnScope ["_law_text", "_law_sign"] ["_law_text"] (defScope s__law_number) := ⟨rfl, rfl, rfl, by decide +kernel, rfl, by decide +kernel, by decide +kernel⟩
set_option maxHeartbeats 4000000 in
theorem ok__law_number (F : Fun K "_law_number" "_law_number" s__law_number f fd) (z_int : mg "int" = none) (z_len : mg "len" = none) : FnOk P w K mg base CX0 1 f fd ["_law_text"] (liftSp K mg sp__law_number) := by
  refine fn3 F sc__law_number (fun ss R U h => ?_) (fun cdv A outer s H E ss R U hr h => ?_)
  · unfold sp__law_number at h; obtain ⟨l, rfl, _⟩ := h; rfl
  obtain ⟨l, rfl, hl, ha, q⟩ := h
  refine ⟨_, (ss_gp (s_if (PW3.pt (w_or (w_cmp o_eq (v_var (pv 0)) v_str (nomark _)) (w_or (w_cmp o_gt (v_callB b_lenS rfl z_len PySem.boot_len (a_cons (v_var (pv 0)) a_nil)) v_int (nomark _)) (w_or1 (PW3.pt (w_and (w_cmp o_gt (v_callB b_lenS rfl z_len PySem.boot_len (a_cons (v_var (pv 0)) a_nil)) v_int (nomark _)) (w_and1 (w_cmp o_eq (v_ixS (v_var (pv 0)) v_int (fun _ _ => rfl)) v_str (nomark _))))))))) (ss_one (s_ret (v_neg v_int))) ss_nil)
      (ss_cons (s_forS (ps_for PassesOwn.never rfl (pi_str (pv 0)) (pg_name (i := 1) sc__law_number.nd rfl (Or.inl rfl)) (PSs3.out (ss_one (s_if (w_cmp o_notinS (v_var (pv 1)) v_str rfl) (ss_one (s_ret (v_neg v_int))) ss_nil)))))
      (ss_one (s_ret (v_callTy b_int rfl z_int PyProof.Rows.boot_int (a_cons (v_var (pv 0)) a_nil)))))), ?_⟩
  have hL : (mkS l).length ≤ 1000000 := by rw [mkS_len]; omega
  have bad : fig l = none → R (.d (.int (-1))) := fun h => by rw [fgI_none h] at q; exact q
  refine ⟨¬ (l = [] ∨ 60 < l.length) ∧ ¬ (l.head? = some 48 ∧ 1 < l.length), ?_, fun hg => ?_⟩
  · refine iteD (fun e => bad (fig_len (.inl (empty_is.mp e)))) (fun e => ?_)
    have e' : ¬ l = [] := fun z => e (empty_is.mpr z)
    refine ⟨hL, ?_⟩
    rw [lenI]
    refine iteD (fun e2 => bad (fig_len (.inr (by omega)))) (fun e2 => ?_)
    refine ⟨hL, ?_⟩
    rw [lenI]
    refine iteD (fun e3 => ?_) (fun e3 => ⟨rfl, fun z => z.elim e' (by omega), fun z => by omega⟩)
    cases l with
    | nil => exact absurd rfl e'
    | cons a r =>
      refine ⟨hL, a, (show atI (a :: r) ((0 : Nat) : Int) = some a from atI_nat rfl), ?_⟩
      show if decide ((⟨#[a]⟩ : Str) = Str.ofString "0") = true then _ else _
      refine iteD (fun e4 => bad (fig_head ⟨by simpa using zero_is.mp e4, by omega⟩)) (fun e4 => ⟨rfl, fun z => z.elim e' (by omega), fun w => e4 (zero_is.mpr (by simpa using w.1))⟩)
  refine ⟨asc_all ha, fun n τ => ∃ z, τ = [some (.d (.str (mkS l))), z] ∧ ∀ i c, i < n → l[i]? = some c → 48 ≤ c ∧ c ≤ 57, ⟨_, rfl, fun i c h => absurd h (Nat.not_lt_zero _)⟩, ?_, ?_⟩
  · rintro n τ x hx ⟨z, rfl, hd⟩
    rw [mkS_list, List.getElem?_map] at hx
    cases hc : l[n]? with
    | none => rw [hc] at hx; cases hx
    | some c =>
      rw [hc] at hx
      cases hx
      show if (!inS ⟨#[c]⟩ (Str.ofString "0123456789")) = true then _ else _
      rw [inFig]
      refine iteD (fun e => bad (fig_dig (List.mem_of_getElem? hc) e)) (fun e => ⟨_, rfl, fun i d hi he => ?_⟩)
      by_cases y : i < n
      · exact hd i d y he
      · have : i = n := by omega
        subst this
        rw [hc] at he
        cases he
        omega
  rintro τ ⟨z, rfl, hd⟩
  rw [mkS_list, List.length_map] at hd
  have hall : ∀ c ∈ l, 48 ≤ c ∧ c ≤ 57 := fun c hc => by
    obtain ⟨i, hi, e⟩ := List.mem_iff_getElem.mp hc
    exact hd i c hi (by rw [List.getElem?_eq_getElem hi, e])
  have hf := fig_some hg.1 hall hg.2
  rw [fgI_some hf] at q
  exact ⟨_, int_fig hf, by rw [mkS_len]; omega, q⟩
theorem sc__law_due : FnScope ["_law_text", "_law_parts", "_law_top", "_law_bottom"] ["_law_text"] (defScope s__law_due) := ⟨rfl, rfl, rfl, by decide +kernel, rfl, by decide +kernel, by decide +kernel⟩
set_option maxHeartbeats 4000000 in
theorem ok__law_due (F : Fun K "_law_due" "_law_due" s__law_due f fd) (C__law_number : Cal P w K mg base (CXU P w) 1 "_law_number" ["_law_text"] sp__law_number) (C__law_lowest : Cal P w K mg base (CXU P w) 1 "_law_lowest" ["_law_top", "_law_bottom"] sp__law_lowest) (z_isinstance : mg "isinstance" = none) (z_str : mg "str" = none) : FnOk P w K mg base CX0 2 f fd ["_law_text"] (liftSp K mg sp__law_due) := by
  refine fn3 F sc__law_due (fun ss R U h => ?_) (fun cdv A outer s H E ss R U hr h => ?_)
  · unfold sp__law_due at h; obtain ⟨x, rfl, _⟩ := h; rfl
  obtain ⟨x, rfl, gx, q⟩ := h
  refine ⟨_, (ss_cons (s_if (w_not (w_val (v_isi .str (v_var (pv 0)) rfl z_isinstance rfl z_str PyProof.Rows.boot_str))) (ss_one (s_ret v_non)) ss_nil)
      (ss_cons (s_set (i := 1) sc__law_due.nd rfl (Or.inl rfl) (v_part (v_var (pv 0)) v_str))
      (ss_cons (s_set (i := 2) sc__law_due.nd rfl (Or.inl rfl) (v_callU exok_no C__law_number (hr.mono (by decide)) rfl (a_cons (v_ix (v_var (pv 1)) v_int (fun _ _ => rfl)) a_nil)))
      (ss_cons (s_if (w_cmp o_eq (v_ix (v_var (pv 1)) v_int (fun _ _ => rfl)) v_str (nomark _)) (ss_cons (s_if (w_cmp o_lt (v_var (pv 2)) v_int (nomark _)) (ss_one (s_ret v_non)) ss_nil)
      (ss_one (s_ret (v_tup (a_cons (v_var (pv 2)) (a_cons v_int a_nil)))))) ss_nil)
      (ss_cons (s_set (i := 3) sc__law_due.nd rfl (Or.inl rfl) (v_callU exok_no C__law_number (hr.mono (by decide)) rfl (a_cons (v_ix (v_var (pv 1)) v_int (fun _ _ => rfl)) a_nil)))
      (ss_gp (s_if (PW3.pt (w_or (w_cmp o_lt (v_var (pv 2)) v_int (nomark _)) (w_or (w_cmp o_lt (v_var (pv 3)) v_int (nomark _)) (w_or1 (w_cmp (o_neT 1 (hu_ hr (by decide))) (v_callU exok_no C__law_lowest (hr.mono (by decide)) rfl (a_cons (v_var (pv 2)) (a_cons (v_var (pv 3)) a_nil))) (v_tup (a_cons (v_var (pv 2)) (a_cons (v_var (pv 3)) a_nil))) (nomark _)))))) (ss_one (s_ret v_non)) ss_nil)
      (ss_one (s_ret (v_tup (a_cons (v_var (pv 2)) (a_cons (v_var (pv 3)) a_nil))))))))))), ?_⟩
  cases x with
  | str y =>
    obtain ⟨l, rfl⟩ : ∃ l, y = mkS l := ⟨_, (mkS_of y).symm⟩
    obtain ⟨hl, ha⟩ := gx.t l rfl
    have q : R (.d (dueL l)) := q
    refine ⟨trivial, ?_⟩
    refine ⟨l, 47, rfl, stroke, by omega, fun hn => ?_, fun a b e na => ?_⟩
    · refine ⟨l, rfl, by omega, ha, ?_⟩
      have rd : rdR l = (fig l).map (·, 1) := by unfold rdR; rw [cut_no hn]
      unfold dueL at q
      rw [rd] at q
      cases hf : fig l with
      | none =>
        rw [hf] at q
        rw [fgI_none hf]
        exact q
      | some n =>
        rw [hf] at q
        rw [fgI_some hf]
        exact ⟨(by show 2 ≤ 1000; decide), q⟩
    · have la : a.length ≤ l.length ∧ b.length ≤ l.length := by rw [e, List.length_append, List.length_cons]; omega
      have aa : ∀ c ∈ a, c < 128 := fun c hc => ha c (by rw [e]; exact List.mem_append_left _ hc)
      have ab : ∀ c ∈ b, c < 128 := fun c hc => ha c (by rw [e]; exact List.mem_append_right _ (List.mem_cons_of_mem _ hc))
      refine ⟨a, rfl, by omega, aa, ?_⟩
      refine ⟨b, rfl, by omega, ab, ?_⟩
      have rd : rdR l = match fig a, fig b with
          | some a, some b => if 2 ≤ b ∧ Nat.gcd a b = 1 then some (a, b) else none
          | _, _ => none := by
        by_cases hb : 47 ∈ b
        · have fb : fig b = none := fig_dig hb (by decide)
          rw [fb]
          obtain ⟨p, ps, ec⟩ := cutAt_ne 47 b
          have hps : ps ≠ [] := fun z => by
            have h1 := cut_47 b hb
            rw [ec, z] at h1
            exact absurd h1 (by show ¬ 2 ≤ 1; decide)
          unfold rdR
          rw [e, cut_app na, ec]
          cases ps with
          | nil => exact absurd rfl hps
          | cons _ _ => cases fig a <;> rfl
        · unfold rdR
          rw [e, cut_app na, cut_no hb]
          try rfl
      unfold dueL at q
      rw [rd] at q
      refine ⟨∃ n m, fig a = some n ∧ fig b = some m ∧ 2 ≤ m ∧ Nat.gcd n m = 1, ?_, fun hP => ?_⟩
      · cases hfa : fig a with
        | none =>
          rw [hfa] at q
          rw [fgI_none hfa]
          exact q
        | some n =>
          rw [fgI_some hfa]
          cases hfb : fig b with
          | none =>
            rw [hfa, hfb] at q
            rw [fgI_none hfb]
            exact q
          | some m =>
            rw [hfa, hfb] at q
            rw [fgI_some hfb]
            refine iteD (fun c => ?_) (fun c => ?_)
            · simp only at q
              rw [if_neg (fun z => by omega)] at q
              exact q
            have m2 : 2 ≤ m := by omega
            have b1 : n < 10 ^ 60 := fig_lt hfa
            have b2 : m < 10 ^ 60 := fig_lt hfb
            have bb : (10 : Nat) ^ 60 < 2 ^ 13000 := by decide +kernel
            refine ⟨_, _, rfl, by omega, by rw [Int.natAbs_natCast]; exact Nat.lt_trans b1 bb, by rw [Int.natAbs_natCast]; exact Nat.lt_trans b2 bb, ?_⟩
            clear bb b1 b2
            refine ⟨(by show 2 ≤ 1000; decide), rfl, rfl, ?_⟩
            show if (!eqN 1 (qd (Rat.divInt n m)) (.tup [.int (n : Int), .int (m : Int)])) = true then _ else _
            rw [low_ne (by omega)]
            refine iteD (fun c => ?_) (fun c => ⟨rfl, n, m, rfl, rfl, m2, Decidable.not_not.mp c⟩)
            simp only at q
            rw [if_neg (fun z => c z.2)] at q
            exact q
      · obtain ⟨n, m, hfa, hfb, m2, hg⟩ := hP
        rw [hfa, hfb] at q
        simp only at q
        rw [if_pos ⟨m2, hg⟩] at q
        rw [fgI_some hfa, fgI_some hfb]
        exact ⟨(by show 2 ≤ 1000; decide), q⟩
  | int y => exact ⟨trivial, q⟩
  | bl y => exact ⟨trivial, q⟩
  | non => exact ⟨trivial, q⟩
  | tup y => exact ⟨trivial, q⟩
  | lst y => exact ⟨trivial, q⟩
  | ty y => cases gx.p
  | ref y => cases gx.p
theorem sc__law_number_by : FnScope ["_law_cell"] ["_law_cell"] (defScope s__law_number_by) := ⟨rfl, rfl, rfl, by decide +kernel, rfl, by decide +kernel, by decide +kernel⟩
set_option maxHeartbeats 4000000 in
theorem ok__law_number_by (F : Fun K "_law_number_by" "_law_number_by" s__law_number_by f fd) : FnOk P w K mg base CX0 1 f fd ["_law_cell"] (liftSp K mg sp__law_number_by) := by
  refine fn3 F sc__law_number_by (fun ss R U h => ?_) (fun cdv A outer s H E ss R U hr h => ?_)
  · unfold sp__law_number_by at h; obtain ⟨c, rfl, _⟩ := h; rfl
  obtain ⟨c, rfl, q⟩ := h
  refine ⟨_, (ss_cons (s_if (w_cmp o_eq (v_op o_mod (v_var (pv 0)) v_int) v_int (nomark _)) (ss_one (s_ret (v_op o_mod (v_op o_fdiv (v_var (pv 0)) v_int) v_int))) ss_nil)
      (ss_cons (s_if (w_cmp o_eq (v_op o_mod (v_var (pv 0)) v_int) v_int (nomark _)) (ss_one (s_ret (v_op o_mod (v_op o_fdiv (v_var (pv 0)) v_int) (v_op o_pow v_int v_int)))) ss_nil)
      (ss_cons (s_if (w_cmp o_eq (v_op o_mod (v_var (pv 0)) v_int) v_int (nomark _)) (ss_one (s_ret (v_op o_add (v_op o_pow v_int v_int) (v_op o_mod (v_op o_fdiv (v_var (pv 0)) v_int) (v_op o_pow v_int v_int))))) ss_nil)
      (ss_one (s_ret (v_op o_mod (v_op o_fdiv (v_var (pv 0)) v_int) v_int)))))), ?_⟩
  have p60 : (10 : Int) ^ (60 : Int).toNat = 1000000000000000000000000000000000000000000000000000000000000 := by decide +kernel
  have big : ((2 ^ 201 : Nat) : Int) = 3213876088517980551083924184682325205044405987565585670602752 := by decide +kernel
  have fin : ∀ v : Int, 0 ≤ v → v < 3213876088517980551083924184682325205044405987565585670602752 → R (.d (.int v)) := fun v h0 h1 => by
    obtain ⟨n, rfl⟩ := Int.eq_ofNat_of_zero_le h0
    exact q n (by rw [← big] at h1; omega)
  clear q big
  have f13 := fm9 (c.fdiv 3) (show (0 : Int) < 13 by decide)
  have f60 := fm9 (c.fdiv 3) (show (0 : Int) < 1000000000000000000000000000000000000000000000000000000000000 by decide)
  have g60 := fm9 (c.fdiv 21) (show (0 : Int) < 1000000000000000000000000000000000000000000000000000000000000 by decide)
  have f1000 := fm9 (c.fdiv 21) (show (0 : Int) < 1000 by decide)
  refine ⟨by decide, ?_⟩
  refine iteD (fun _ => ⟨(cdv9 (by decide) (by decide)), by decide, fin _ f13.1 (by omega)⟩) (fun _ => ?_)
  refine ⟨by decide, ?_⟩
  refine iteD (fun _ => ?_) (fun _ => ?_)
  · refine ⟨(cdv9 (by decide) (by decide)), ⟨by decide, by decide, by decide⟩, by decide +kernel, ?_⟩
    rw [p60]
    exact fin _ f60.1 (by omega)
  refine ⟨by decide, ?_⟩
  refine iteD (fun _ => ?_) (fun _ => ⟨(cdv9 (by decide) (by decide)), by decide, fin _ f1000.1 (by omega)⟩)
  refine ⟨⟨by decide, by decide, by decide⟩, (cdv9 (by decide) (by decide)), ⟨by decide, by decide, by decide⟩, by decide +kernel, ?_⟩
  rw [p60]
  exact fin _ (by omega) (by omega)
theorem sc__law_text_by : FnScope ["_law_script", "_law_top", "_law_bottom", "_law_way"] ["_law_script"] (defScope s__law_text_by) := ⟨rfl, rfl, rfl, by decide +kernel, rfl, by decide +kernel, by decide +kernel⟩
set_option maxHeartbeats 4000000 in
theorem ok__law_text_by (F : Fun K "_law_text_by" "_law_text_by" s__law_text_by f fd) (C__law_number_by : Cal P w K mg base (CXU P w) 1 "_law_number_by" ["_law_cell"] sp__law_number_by) (C__law_cell_at : Cal P w K mg base (CXU P w) 1 "_law_cell_at" ["_law_script", "_law_k"] sp__law_cell_at) (z_str : mg "str" = none) (z_len : mg "len" = none) : FnOk P w K mg base CX0 2 f fd ["_law_script"] (liftSp K mg sp__law_text_by) := by
  refine fn3 F sc__law_text_by (fun ss R U h => ?_) (fun cdv A outer s H E ss R U hr h => ?_)
  · unfold sp__law_text_by at h; obtain ⟨ns, rfl, _⟩ := h; rfl
  obtain ⟨ns, rfl, q⟩ := h
  refine ⟨_, (ss_cons (s_set (i := 1) sc__law_text_by.nd rfl (Or.inl rfl) (v_callU exok_no C__law_number_by (hr.mono (by decide)) rfl (a_cons (v_callU exok_no C__law_cell_at (hr.mono (by decide)) rfl (a_cons (v_var (pv 0)) (a_cons v_int a_nil))) a_nil)))
      (ss_cons (s_set (i := 2) sc__law_text_by.nd rfl (Or.inl rfl) (v_callU exok_no C__law_number_by (hr.mono (by decide)) rfl (a_cons (v_callU exok_no C__law_cell_at (hr.mono (by decide)) rfl (a_cons (v_var (pv 0)) (a_cons v_int a_nil))) a_nil)))
      (ss_cons (s_set (i := 3) sc__law_text_by.nd rfl (Or.inl rfl) (v_op o_mod (v_callU exok_no C__law_cell_at (hr.mono (by decide)) rfl (a_cons (v_var (pv 0)) (a_cons v_int a_nil))) v_int))
      (ss_cons (s_if (w_cmp o_eq (v_var (pv 3)) v_int (nomark _)) (ss_one (s_ret (v_callTy b_str rfl z_str PyProof.Rows.boot_str (a_cons (v_var (pv 1)) a_nil)))) ss_nil)
      (ss_cut (s_if (PW3.pt (w_and (w_cmp o_eq (v_var (pv 3)) v_int (nomark _)) (w_and1 (w_cmp o_lt (v_callB b_lenS rfl z_len PySem.boot_len (a_cons (v_callTy b_str rfl z_str PyProof.Rows.boot_str (a_cons (v_var (pv 1)) a_nil)) a_nil)) v_int (nomark _))))) (ss_one (s_set (i := 2) sc__law_text_by.nd rfl (Or.inl rfl) (v_op o_mul (v_var (pv 1)) (v_op o_mod (v_var (pv 2)) v_int)))) ss_nil)
      (ss_one (s_ret (v_op o_addS (v_op o_addS (v_callTy b_str rfl z_str PyProof.Rows.boot_str (a_cons (v_var (pv 1)) a_nil)) v_str) (v_callTy b_str rfl z_str PyProof.Rows.boot_str (a_cons (v_var (pv 2)) a_nil)))))))))), ?_⟩
  refine ⟨ns, 1, rfl, by decide, by decide, fun c1 => ?_⟩
  refine ⟨c1, rfl, fun a ha => ?_⟩
  refine ⟨ns, 2, rfl, by decide, by decide, fun c2 => ?_⟩
  refine ⟨c2, rfl, fun b hb => ?_⟩
  refine ⟨ns, 3, rfl, by decide, by decide, fun c3 => ?_⟩
  refine ⟨by decide, ?_⟩
  generalize c3.fmod 5 = w
  have p1 : (2 : Nat) ^ 201 < 2 ^ 300 := by decide +kernel
  obtain ⟨ta, xa, la, ga⟩ := tl_of (Nat.lt_trans ha p1)
  refine iteD (fun _ => ?_) (fun _ => ?_)
  · refine ⟨ga, ?_⟩
    rw [ta]
    exact q _ xa (by omega)
  refine ⟨fun τ => ∃ m : Nat, τ = [some (.r (ns.map D.int)), I a, I m, I w] ∧ m < 2 ^ 300, ?_, ?_⟩
  · refine iteD (fun _ => ?_) (fun _ => ⟨b, rfl, Nat.lt_trans hb p1⟩)
    refine ⟨ga, by rw [ta, mkS_len]; omega, ?_⟩
    refine iteD (fun _ => ?_) (fun _ => ⟨b, rfl, Nat.lt_trans hb p1⟩)
    have f10 := fm9 (b : Int) (show (0 : Int) < 10 by decide)
    refine ⟨by decide, mulOk (m := 201) (n := 10) (by rw [Int.natAbs_natCast]; exact ha) (by omega) (by decide), ?_⟩
    obtain ⟨r, hr⟩ := Int.eq_ofNat_of_zero_le f10.1
    rw [hr] at f10 ⊢
    refine ⟨a * r, by rw [Int.natCast_mul]; rfl, ?_⟩
    have h1 : a * r ≤ a * 10 := Nat.mul_le_mul_left _ (by omega)
    have h2 : a * 10 < 2 ^ 201 * 10 := Nat.mul_lt_mul_of_pos_right ha (by decide)
    have h3 : (2 : Nat) ^ 201 * 10 < 2 ^ 300 := by decide +kernel
    exact Nat.lt_of_le_of_lt h1 (Nat.lt_trans h2 h3)
  rintro τ ⟨m, rfl, hm⟩
  obtain ⟨tb, xb, lb, gb⟩ := tl_of hm
  refine ⟨ga, ?_⟩
  rw [ta, stroke]
  refine ⟨by rw [mkS_len, mkS_len]; show _ + 1 ≤ _; omega, gb, ?_⟩
  rw [tb, mkS_app]
  refine ⟨by rw [mkS_len, mkS_len, List.length_append]; show _ + 1 + _ ≤ _; omega, ?_⟩
  show R (.d (.str (mkS _ ++ mkS _)))
  rw [mkS_app]
  refine q _ (fun c hc => ?_) (by rw [List.length_append, List.length_append]; show _ + 1 + _ ≤ _; omega)
  rcases List.mem_append.mp hc with z | z
  · rcases List.mem_append.mp z with z | z
    · exact xa c z
    · have : c = 47 := by simpa using z
      omega
  · exact xb c z
theorem sc__law_spoiled : FnScope ["_law_text", "_law_way", "_law_cell", "_law_other", "_law_at"] ["_law_text", "_law_way", "_law_cell", "_law_other"] (defScope s__law_spoiled) := ⟨rfl, rfl, rfl, by decide +kernel, rfl, by decide +kernel, by decide +kernel⟩
set_option maxHeartbeats 4000000 in
theorem ok__law_spoiled (F : Fun K "_law_spoiled" "_law_spoiled" s__law_spoiled f fd) (C__law_sign_by : Cal P w K mg base (CXU P w) 1 "_law_sign_by" ["_law_cell"] sp__law_sign_by) (z_len : mg "len" = none) : FnOk P w K mg base CX0 2 f fd ["_law_text", "_law_way", "_law_cell", "_law_other"] (liftSp K mg sp__law_spoiled) := by
  refine fn3 F sc__law_spoiled (fun ss R U h => ?_) (fun cdv A outer s H E ss R U hr h => ?_)
  · unfold sp__law_spoiled at h; obtain ⟨l, w, c, o, rfl, _⟩ := h; rfl
  obtain ⟨l, w, c, o, rfl, ha, hl, q⟩ := h
  refine ⟨_, (ss_cons (s_set (i := 4) sc__law_spoiled.nd rfl (Or.inl rfl) (v_op o_mod (v_var (pv 2)) (v_op o_add (v_callB b_lenS rfl z_len PySem.boot_len (a_cons (v_var (pv 0)) a_nil)) v_int)))
      (ss_cons (s_if (w_cmp o_eq (v_var (pv 1)) v_int (nomark _)) (ss_one (s_ret (v_op o_addS (v_op o_addS (v_slS (v_var (pv 0)) p_no (p_yes (v_var (pv 4)))) (v_callU exok_no C__law_sign_by (hr.mono (by decide)) rfl (a_cons (v_var (pv 3)) a_nil))) (v_slS (v_var (pv 0)) (p_yes (v_var (pv 4))) p_no)))) ss_nil)
      (ss_cons (s_if (w_cmp o_eq (v_var (pv 1)) v_int (nomark _)) (ss_one (s_ret (v_op o_addS (v_slS (v_var (pv 0)) p_no (p_yes (v_var (pv 4)))) (v_slS (v_var (pv 0)) (p_yes (v_op o_add (v_var (pv 4)) v_int)) p_no)))) ss_nil)
      (ss_cons (s_if (w_cmp o_eq (v_var (pv 1)) v_int (nomark _)) (ss_one (s_ret (v_op o_addS (v_op o_addS (v_slS (v_var (pv 0)) p_no (p_yes (v_var (pv 4)))) (v_callU exok_no C__law_sign_by (hr.mono (by decide)) rfl (a_cons (v_var (pv 3)) a_nil))) (v_slS (v_var (pv 0)) (p_yes (v_op o_add (v_var (pv 4)) v_int)) p_no)))) ss_nil)
      (ss_cut (s_ifrep (ps_ifrep (PT3.out (w_cmp o_eq (v_var (pv 1)) v_int (nomark _))) (PE3.out (v_op o_mod (v_var (pv 3)) v_int)) (j := 0) rfl (Or.inl rfl) (by decide +kernel) (by decide +kernel)))
      (ss_cons (s_if (w_cmp o_eq (v_var (pv 1)) v_int (nomark _)) (ss_one (s_ret (v_op o_addS v_str (v_var (pv 0))))) ss_nil)
      (ss_cons (s_if (w_cmp o_eq (v_var (pv 1)) v_int (nomark _)) (ss_one (s_ret (v_ix (v_lst (a_cons v_non (a_cons v_bl (a_cons v_int (a_cons (v_tup (a_cons v_int (a_cons v_int a_nil))) (a_cons (v_lst (a_cons (v_var (pv 0)) a_nil)) (a_cons v_bl a_nil))))))) (v_op o_mod (v_var (pv 3)) v_int) (fun _ _ => rfl)))) ss_nil)
      (ss_one (s_retV (pv 0)))))))))), ?_⟩
  have hL : (mkS l).length ≤ 1000000 := by rw [mkS_len]; omega
  have lI := lenI l
  have f := fm9 c (show (0 : Int) < (l.length : Int) + 1 by omega)
  have qs : ∀ l' : List Nat, (∀ c ∈ l', c < 128) → l'.length ≤ 5000 → R (.d (.str (mkS l'))) := fun l' a' h' => q _ (GT.str h' a')
  refine ⟨hL, ?_⟩
  rw [lI]
  refine ⟨by omega, ?_⟩
  obtain ⟨k, hk⟩ := Int.eq_ofNat_of_zero_le f.1
  rw [hk] at f ⊢
  have kl : k ≤ l.length := by omega
  have tk := slice_to l k
  have dk := slice_from l k
  have dk1 : Txt.slice (mkS l) (some ((k : Int) + 1)) none = mkS (l.drop (k + 1)) := slice_from l (k + 1)
  have ta : ∀ c ∈ l.take k, c < 128 := fun c hc => ha c (List.mem_of_mem_take hc)
  have da : ∀ j, ∀ c ∈ l.drop j, c < 128 := fun j c hc => ha c (List.mem_of_mem_drop hc)
  have tkl : (l.take k).length ≤ 300 := by rw [List.length_take]; omega
  have dkl : ∀ j, (l.drop j).length ≤ 300 := fun j => by rw [List.length_drop]; omega
  have app : ∀ (a b : List Nat), (∀ c ∈ a, c < 128) → (∀ c ∈ b, c < 128) → ∀ c ∈ a ++ b, c < 128 := fun a b h1 h2 c hc => (List.mem_append.mp hc).elim (h1 c) (h2 c)
  have one : ∀ s : Nat, s < 128 → ∀ c ∈ [s], c < 128 := fun s hs c hc => by rw [List.mem_singleton.mp hc]; exact hs
  have sum : ∀ (a b : List Nat), a.length ≤ 700 → b.length ≤ 700 → (mkS a).length + (mkS b).length ≤ 1000000 := fun a b h1 h2 => by rw [mkS_len, mkS_len]; omega
  refine iteD (fun _ => ?_) (fun _ => ?_)
  · refine ⟨hL, o, rfl, fun s hs => ?_⟩
    rw [tk]
    refine ⟨sum _ _ (by omega) (by show 1 ≤ 700; decide), ?_⟩
    refine ⟨hL, ?_⟩
    rw [dk, mkS_app]
    refine ⟨sum _ _ (by rw [List.length_append]; show _ + 1 ≤ 700; omega) (by have := dkl k; omega), ?_⟩
    show R (.d (.str (mkS _ ++ mkS _)))
    rw [mkS_app]
    exact qs _ (app _ _ (app _ _ ta (one s hs)) (da k)) (by rw [List.length_append, List.length_append]; have := dkl k; show _ + 1 + _ ≤ _; omega)
  refine iteD (fun _ => ?_) (fun _ => ?_)
  · refine ⟨hL, hL, ?_⟩
    rw [tk, dk1]
    refine ⟨sum _ _ (by omega) (by have := dkl (k + 1); omega), ?_⟩
    show R (.d (.str (mkS _ ++ mkS _)))
    rw [mkS_app]
    exact qs _ (app _ _ ta (da (k + 1))) (by rw [List.length_append]; have := dkl (k + 1); omega)
  refine iteD (fun _ => ?_) (fun _ => ?_)
  · refine ⟨hL, o, rfl, fun s hs => ?_⟩
    rw [tk]
    refine ⟨sum _ _ (by omega) (by show 1 ≤ 700; decide), ?_⟩
    refine ⟨hL, ?_⟩
    rw [dk1, mkS_app]
    refine ⟨sum _ _ (by rw [List.length_append]; show _ + 1 ≤ 700; omega) (by have := dkl (k + 1); omega), ?_⟩
    show R (.d (.str (mkS _ ++ mkS _)))
    rw [mkS_app]
    exact qs _ (app _ _ (app _ _ ta (one s hs)) (da (k + 1))) (by rw [List.length_append, List.length_append]; have := dkl (k + 1); show _ + 1 + _ ≤ _; omega)
  refine ⟨fun τ => τ = [some (.d (.str (mkS l))), I w, I c, I o, I (k : Int)], ?_, ?_⟩
  · refine iteD (fun _ => ?_) (fun _ => rfl)
    refine ⟨by decide, ?_⟩
    refine iteD (fun _ => ?_) (fun _ => rfl)
    obtain ⟨l', e', a', h'⟩ := rep_ok ha hl
    refine ⟨by rw [mkS_len]; omega, ?_⟩
    rw [e']
    exact qs l' a' h'
  rintro τ rfl
  refine iteD (fun _ => ?_) (fun _ => ?_)
  · rw [zero1]
    refine ⟨sum _ _ (by show 1 ≤ 700; decide) (by omega), ?_⟩
    show R (.d (.str (mkS _ ++ mkS _)))
    rw [mkS_app]
    exact qs _ (app _ _ (one 48 (by decide)) ha) (by rw [List.length_append]; show 1 + _ ≤ _; omega)
  refine iteD (fun _ => ?_) (fun _ => qs l ha (by omega))
  have m0 := Int.fmod_nonneg_of_pos o (show (0 : Int) < 6 by decide)
  have m1 := Int.fmod_lt_of_pos o (show (0 : Int) < 6 by decide)
  refine ⟨(by show 2 ≤ 1000; decide), (by show 1 ≤ 1000; decide), (by show 6 ≤ 1000; decide), nz6, ?_⟩
  generalize o.fmod 6 = m at m0 m1
  have hm : m = 0 ∨ m = 1 ∨ m = 2 ∨ m = 3 ∨ m = 4 ∨ m = 5 := by omega
  rcases hm with rfl | rfl | rfl | rfl | rfl | rfl <;> exact q _ (GT.other rfl rfl)
theorem sc__law_refused_alone : FnScope ["_law_text", "e"] ["_law_text"] (defScope s__law_refused_alone) := ⟨rfl, rfl, rfl, by decide +kernel, rfl, by decide +kernel, by decide +kernel⟩
set_option maxHeartbeats 4000000 in
theorem ok__law_refused_alone (F : Fun K "_law_refused_alone" "_law_refused_alone" s__law_refused_alone f fd) (C_read_ratio : Cal P w K mg base (CXU P w) 2 "read_ratio" ["text"] sp_read_ratio) (z_isinstance : mg "isinstance" = none) (z_ValueError : mg "ValueError" = none) (m_CurveError : mg "CurveError" = some (.ref K_CurveError)) (hn_CurveError : HnC K K_CurveError) (m_NoText : mg "NoText" = some (.ref K_NoText)) (mr_NoText_CurveError : PySem.W.mroIn K K_NoText (.ref K_CurveError) = some true) (kT_NoText_ValueError : PySem.W.kitOne K (.ref K_NoText) (.type "ValueError") = some true) (xi_NoText : ExI K K_NoText) (kt_NoText_NoText : PySem.W.kitOne K (.ref K_NoText) (.ref K_NoText) = some true) (m_NoWay : mg "NoWay" = some (.ref K_NoWay)) (kt_NoText_NoWay : PySem.W.kitOne K (.ref K_NoText) (.ref K_NoWay) = some false) (m_NoTime : mg "NoTime" = some (.ref K_NoTime)) (kt_NoText_NoTime : PySem.W.kitOne K (.ref K_NoText) (.ref K_NoTime) = some false) (m_NoRow : mg "NoRow" = some (.ref K_NoRow)) (kt_NoText_NoRow : PySem.W.kitOne K (.ref K_NoText) (.ref K_NoRow) = some false) (m_NoRatio : mg "NoRatio" = some (.ref K_NoRatio)) (kt_NoText_NoRatio : PySem.W.kitOne K (.ref K_NoText) (.ref K_NoRatio) = some false) (m_NoName : mg "NoName" = some (.ref K_NoName)) (kt_NoText_NoName : PySem.W.kitOne K (.ref K_NoText) (.ref K_NoName) = some false) (m_NoHouse : mg "NoHouse" = some (.ref K_NoHouse)) (kt_NoText_NoHouse : PySem.W.kitOne K (.ref K_NoText) (.ref K_NoHouse) = some false) (m_NoEnd : mg "NoEnd" = some (.ref K_NoEnd)) (kt_NoText_NoEnd : PySem.W.kitOne K (.ref K_NoText) (.ref K_NoEnd) = some false) (m_NoCurve : mg "NoCurve" = some (.ref K_NoCurve)) (kt_NoText_NoCurve : PySem.W.kitOne K (.ref K_NoText) (.ref K_NoCurve) = some false) : FnOk P w K mg base CX0 3 f fd ["_law_text"] (liftSp K mg sp__law_refused_alone) := by
  refine fn3 F sc__law_refused_alone (fun ss R U h => ?_) (fun cdv A outer s H E ss R U hr h => ?_)
  · unfold sp__law_refused_alone at h; obtain ⟨x, rfl, _⟩ := h; rfl
  obtain ⟨x, rfl, gx, hd, q⟩ := h
  refine ⟨_, (ss_cut (s_tryE1 (i := 1) (y0 := "NoText") rfl rfl (fun _ _ z => z) C_read_ratio (hr.mono (by decide)) rfl (a_cons (v_var (pv 0)) a_nil) sc__law_refused_alone.nd rfl (Or.inl rfl) rfl rfl m_CurveError hn_CurveError (hok1 m_NoText mr_NoText_CurveError) m_NoText (fun ea oe hO => (ss_gd (s_if (PW3.pt (w_or (w_val (v_isx hO xi_NoText kt_NoText_NoCurve (pv 1) rfl m_NoCurve rfl z_isinstance)) (w_or (w_val (v_isx hO xi_NoText kt_NoText_NoEnd (pv 1) rfl m_NoEnd rfl z_isinstance)) (w_or (w_val (v_isx hO xi_NoText kt_NoText_NoHouse (pv 1) rfl m_NoHouse rfl z_isinstance)) (w_or1 (w_val (v_isx hO xi_NoText kt_NoText_NoName (pv 1) rfl m_NoName rfl z_isinstance))))))) (ss_one (s_ret v_bl)) ss_nil)
      (ss_gd (s_if (PW3.pt (w_or (w_val (v_isx hO xi_NoText kt_NoText_NoRatio (pv 1) rfl m_NoRatio rfl z_isinstance)) (w_or (w_val (v_isx hO xi_NoText kt_NoText_NoRow (pv 1) rfl m_NoRow rfl z_isinstance)) (w_or (w_val (v_isx hO xi_NoText kt_NoText_NoTime (pv 1) rfl m_NoTime rfl z_isinstance)) (w_or1 (w_val (v_isx hO xi_NoText kt_NoText_NoWay (pv 1) rfl m_NoWay rfl z_isinstance))))))) (ss_one (s_ret v_bl)) ss_nil)
      (ss_one (s_ret (v_and (v_isx hO xi_NoText kt_NoText_NoText (pv 1) rfl m_NoText rfl z_isinstance) (v_one (v_isxT (T := "ValueError") hO xi_NoText kT_NoText_ValueError (pv 1) rfl z_ValueError boot_ValueError rfl z_isinstance)))))))))
      (ss_one (s_ret v_bl))), ?_⟩
  refine ⟨fun _ => False, ⟨x, rfl, gx.p, fun _ => ⟨rfl, fun ea => ?_⟩, fun l e => ?_⟩, fun _ z => z.elim⟩
  · refine ⟨⟨rfl, rfl, rfl, rfl, rfl⟩, ⟨rfl, rfl, rfl, rfl, rfl⟩, ?_⟩
    exact ⟨rfl, rfl, q⟩
  · obtain ⟨hl, ha⟩ := gx.t l e
    subst e
    have hd : dueL l = .non := hd
    unfold dueL at hd
    refine ⟨by omega, ha, fun a b hab => ?_, fun _ => ⟨rfl, fun ea => ?_⟩⟩
    · rw [hab] at hd
      cases hd
    · refine ⟨⟨rfl, rfl, rfl, rfl, rfl⟩, ⟨rfl, rfl, rfl, rfl, rfl⟩, ?_⟩
      exact ⟨rfl, rfl, q⟩
theorem sc__law_holds : FnScope ["_law_text", "_law_due_here", "_law_refused", "_law_found"] ["_law_text"] (defScope s__law_holds) := ⟨rfl, rfl, rfl, by decide +kernel, rfl, by decide +kernel, by decide +kernel⟩
set_option maxHeartbeats 4000000 in
theorem ok__law_holds (F : Fun K "_law_holds" "_law_holds" s__law_holds f fd) (C__law_due : Cal P w K mg base (CXU P w) 2 "_law_due" ["_law_text"] sp__law_due) (C_read_ratio : Cal P w K mg base (CXU P w) 2 "read_ratio" ["text"] sp_read_ratio) (C__law_is_ratio : Cal P w K mg base (CXU P w) 1 "_law_is_ratio" ["_law_found", "_law_due_here"] sp__law_is_ratio) (C__law_refused_alone : Cal P w K mg base (CXU P w) 3 "_law_refused_alone" ["_law_text"] sp__law_refused_alone) (m_NoText : mg "NoText" = some (.ref K_NoText)) (hn_NoText : HnC K K_NoText) (mr_NoText_NoText : PySem.W.mroIn K K_NoText (.ref K_NoText) = some true) : FnOk P w K mg base CX0 4 f fd ["_law_text"] (liftSp K mg sp__law_holds) := by
  refine fn3 F sc__law_holds (fun ss R U h => ?_) (fun cdv A outer s H E ss R U hr h => ?_)
  · unfold sp__law_holds at h; obtain ⟨x, rfl, _⟩ := h; rfl
  obtain ⟨x, rfl, gx, q⟩ := h
  refine ⟨_, (ss_cons (s_set (i := 1) sc__law_holds.nd rfl (Or.inl rfl) (v_callU exok_no C__law_due (hr.mono (by decide)) rfl (a_cons (v_var (pv 0)) a_nil)))
      (ss_cons (s_set (i := 2) sc__law_holds.nd rfl (Or.inl rfl) v_bl)
      (ss_cons (s_set (i := 3) sc__law_holds.nd rfl (Or.inl rfl) v_non)
      (ss_cut (s_tryA (i := 3) (ok := fun y => y = "NoText") rfl rfl (fun _ _ z => z) C_read_ratio (hr.mono (by decide)) rfl (a_cons (v_var (pv 0)) a_nil) sc__law_holds.nd rfl (Or.inl rfl) rfl m_NoText hn_NoText (hok1 m_NoText mr_NoText_NoText) (fun ea => (ss_one (s_set (i := 2) sc__law_holds.nd rfl (Or.inl rfl) v_bl))))
      (ss_cons (s_if (w_cmp o_isN (v_var (pv 1)) v_non (nomark _)) (ss_one (s_ret (v_and (v_var (pv 2)) (v_one (v_callU exok_no C__law_refused_alone (hr.mono (by decide)) rfl (a_cons (v_var (pv 0)) a_nil)))))) ss_nil)
      (ss_one (s_ret (v_and (v_not (v_var (pv 2))) (v_one (v_callU exok_no C__law_is_ratio (hr.mono (by decide)) rfl (a_cons (v_var (pv 3)) (a_cons (v_var (pv 1)) a_nil)))))))))))), ?_⟩
  refine ⟨x, rfl, gx, ?_⟩
  refine ⟨fun τ => (dueX x = .non ∧ τ = [some (.d x), some (.d (dueX x)), B' true, some (.d .non)]) ∨ ∃ a b : Nat, dueX x = .tup [.int a, .int b] ∧ 0 < b ∧ Nat.gcd a b = 1 ∧ τ = [some (.d x), some (.d (dueX x)), B' false, some (.d (.tup [.int a, .int b]))], ?_, ?_⟩
  · refine ⟨x, rfl, gx.p, fun h => ⟨rfl, Or.inl ⟨due_not h, rfl⟩⟩, fun l e => ?_⟩
    obtain ⟨hl, ha⟩ := gx.t l e
    have hd : dueX x = dueL l := by rw [e]; rfl
    refine ⟨by omega, ha, fun a b hab => Or.inr ⟨a, b, ?_, (rd_low hab).1, (rd_low hab).2, rfl⟩, fun hn => ⟨rfl, Or.inl ⟨?_, rfl⟩⟩⟩
    · rw [hd]; unfold dueL; rw [hab]
    · rw [hd]; unfold dueL; rw [hn]
  rintro τ (⟨hd, rfl⟩ | ⟨a, b, hd, b0, hg, rfl⟩)
  · rw [hd]
    exact ⟨x, rfl, gx, hd, q⟩
  · rw [hd]
    exact ⟨Rat.divInt a b, by rw [(low_iff b0).mpr hg]; rfl, q⟩
theorem sc_law : FnScope ["_law_script", "_law_text", "_law_spoiled_here"] ["_law_script"] (defScope s_law) := ⟨rfl, rfl, rfl, by decide +kernel, rfl, by decide +kernel, by decide +kernel⟩
set_option maxHeartbeats 4000000 in
theorem ok_law (F : Fun K "law" "law" s_law f fd) (C__law_text_by : Cal P w K mg base (CXU P w) 2 "_law_text_by" ["_law_script"] sp__law_text_by) (C__law_spoiled : Cal P w K mg base (CXU P w) 2 "_law_spoiled" ["_law_text", "_law_way", "_law_cell", "_law_other"] sp__law_spoiled) (C__law_cell_at : Cal P w K mg base (CXU P w) 1 "_law_cell_at" ["_law_script", "_law_k"] sp__law_cell_at) (C__law_holds : Cal P w K mg base (CXU P w) 4 "_law_holds" ["_law_text"] sp__law_holds) : FnOk P w K mg base CX0 5 f fd ["_law_script"] (liftSp K mg sp_law) := by
  refine fn3 F sc_law (fun ss R U h => ?_) (fun cdv A outer s H E ss R U hr h => ?_)
  · obtain ⟨ns, rfl, _⟩ := h; rfl
  obtain ⟨ns, rfl, hl, q⟩ := h
  refine ⟨_, (ss_cons (s_set (i := 1) sc_law.nd rfl (Or.inl rfl) (v_callU exok_no C__law_text_by (hr.mono (by decide)) rfl (a_cons (v_var (pv 0)) a_nil)))
      (ss_cons (s_set (i := 2) sc_law.nd rfl (Or.inl rfl) (v_callU exok_no C__law_spoiled (hr.mono (by decide)) rfl (a_cons (v_var (pv 1)) (a_cons (v_op o_mod (v_callU exok_no C__law_cell_at (hr.mono (by decide)) rfl (a_cons (v_var (pv 0)) (a_cons v_int a_nil))) v_int) (a_cons (v_callU exok_no C__law_cell_at (hr.mono (by decide)) rfl (a_cons (v_var (pv 0)) (a_cons v_int a_nil))) (a_cons (v_callU exok_no C__law_cell_at (hr.mono (by decide)) rfl (a_cons (v_var (pv 0)) (a_cons v_int a_nil))) a_nil))))))
      (ss_one (s_ret (v_and (v_callU exok_no C__law_holds (hr.mono (by decide)) rfl (a_cons (v_var (pv 2)) a_nil)) (v_one (v_callU exok_no C__law_holds (hr.mono (by decide)) rfl (a_cons (v_var (pv 1)) a_nil)))))))), ?_⟩
  refine ⟨ns, rfl, fun l ha ll => ?_⟩
  refine ⟨ns, 0, rfl, by decide, by decide, fun c0 => ?_⟩
  refine ⟨by decide, ?_⟩
  refine ⟨ns, 4, rfl, by decide, by decide, fun c4 => ?_⟩
  refine ⟨ns, 5, rfl, by decide, by decide, fun c5 => ?_⟩
  refine ⟨l, _, c4, c5, rfl, ha, ll, fun x gx => ?_⟩
  refine ⟨x, rfl, gx, ?_⟩
  exact ⟨_, rfl, GT.str (by omega) ha, q⟩
end
theorem all_mk {l : PySem.W.OpenLaw} {w : World} {K : PySem.W.Frag} {h : Heap} {mg : Str → Option Value} {fa f0 f1 f2 f3 f4 f5 f6 f7 f8 f9 f10 f11 f12 f13 f14 f15 : Addr} (X : K.In h) (G : h.Ns mainGlobals mg) (hfa : mg "law" = some (.ref fa))
    {od0 an0 od1 an1 od2 an2 od3 an3 od4 an4 od5 an5 od6 an6 od7 an7 od8 an8 od9 an9 od10 an10 od11 an11 od12 an12 od13 an13 od14 an14 od15 an15 : Option Addr} {sl0 sl1 sl2 sl3 sl4 sl5 sl6 sl7 sl8 sl9 sl10 sl11 sl12 sl13 sl14 sl15 : Array (Option Value)} {oc0 kV0 dc0 pm0 cd0 ct0 oc1 kV1 dc1 pm1 cd1 ct1 oc2 kV2 dc2 pm2 cd2 ct2 oc3 kV3 dc3 pm3 cd3 ct3 oc4 kV4 dc4 pm4 cd4 ct4 oc5 kV5 dc5 pm5 cd5 ct5 oc6 kV6 dc6 pm6 cd6 ct6 oc7 kV7 dc7 pm7 cd7 ct7 oc8 kV8 dc8 pm8 cd8 ct8 oc9 kV9 dc9 pm9 cd9 ct9 oc10 kV10 dc10 pm10 cd10 ct10 oc11 kV11 dc11 pm11 cd11 ct11 oc12 kV12 dc12 pm12 cd12 ct12 oc13 kV13 dc13 pm13 cd13 ct13 oc14 kV14 dc14 pm14 cd14 ct14 oc15 kV15 dc15 pm15 cd15 ct15 : Value}
    {gt_FIGURES_0}
    {gt_MOST_FIGURES_1}
    {K_CurveError K_NoRatio K_NoCurve K_NoTime K_NoHouse K_NoWay K_NoText K_NoName K_NoEnd K_NoRow : Addr}
    (a0 : PySem.W.nsIn K mainGlobals "divisor" = some (some (.ref f0))) (l0 : K.lookup f0 = some ⟨oc0, od0, .func (PySem.W.fnOf "divisor" "divisor" (defArgs s_divisor) (defBody s_divisor) (defScope s_divisor) .none kV0 dc0 pm0 an0 cd0 ct0), sl0⟩) (c0 : PySem.W.codeIn K cd0 "divisor" = true) (k0 : PySem.W.keepIn K (.ref f0) = true)
    (a1 : PySem.W.nsIn K mainGlobals "check_text" = some (some (.ref f1))) (l1 : K.lookup f1 = some ⟨oc1, od1, .func (PySem.W.fnOf "check_text" "check_text" (defArgs s_check_text) (defBody s_check_text) (defScope s_check_text) .none kV1 dc1 pm1 an1 cd1 ct1), sl1⟩) (c1 : PySem.W.codeIn K cd1 "check_text" = true) (k1 : PySem.W.keepIn K (.ref f1) = true)
    (a2 : PySem.W.nsIn K mainGlobals "read_figures" = some (some (.ref f2))) (l2 : K.lookup f2 = some ⟨oc2, od2, .func (PySem.W.fnOf "read_figures" "read_figures" (defArgs s_read_figures) (defBody s_read_figures) (defScope s_read_figures) .none kV2 dc2 pm2 an2 cd2 ct2), sl2⟩) (c2 : PySem.W.codeIn K cd2 "read_figures" = true) (k2 : PySem.W.keepIn K (.ref f2) = true)
    (a3 : PySem.W.nsIn K mainGlobals "read_ratio" = some (some (.ref f3))) (l3 : K.lookup f3 = some ⟨oc3, od3, .func (PySem.W.fnOf "read_ratio" "read_ratio" (defArgs s_read_ratio) (defBody s_read_ratio) (defScope s_read_ratio) .none kV3 dc3 pm3 an3 cd3 ct3), sl3⟩) (c3 : PySem.W.codeIn K cd3 "read_ratio" = true) (k3 : PySem.W.keepIn K (.ref f3) = true)
    (a4 : PySem.W.nsIn K mainGlobals "_law_cell_at" = some (some (.ref f4))) (l4 : K.lookup f4 = some ⟨oc4, od4, .func (PySem.W.fnOf "_law_cell_at" "_law_cell_at" (defArgs s__law_cell_at) (defBody s__law_cell_at) (defScope s__law_cell_at) .none kV4 dc4 pm4 an4 cd4 ct4), sl4⟩) (c4 : PySem.W.codeIn K cd4 "_law_cell_at" = true) (k4 : PySem.W.keepIn K (.ref f4) = true)
    (a5 : PySem.W.nsIn K mainGlobals "_law_lowest" = some (some (.ref f5))) (l5 : K.lookup f5 = some ⟨oc5, od5, .func (PySem.W.fnOf "_law_lowest" "_law_lowest" (defArgs s__law_lowest) (defBody s__law_lowest) (defScope s__law_lowest) .none kV5 dc5 pm5 an5 cd5 ct5), sl5⟩) (c5 : PySem.W.codeIn K cd5 "_law_lowest" = true) (k5 : PySem.W.keepIn K (.ref f5) = true)
    (a6 : PySem.W.nsIn K mainGlobals "_law_is_ratio" = some (some (.ref f6))) (l6 : K.lookup f6 = some ⟨oc6, od6, .func (PySem.W.fnOf "_law_is_ratio" "_law_is_ratio" (defArgs s__law_is_ratio) (defBody s__law_is_ratio) (defScope s__law_is_ratio) .none kV6 dc6 pm6 an6 cd6 ct6), sl6⟩) (c6 : PySem.W.codeIn K cd6 "_law_is_ratio" = true) (k6 : PySem.W.keepIn K (.ref f6) = true)
    (a7 : PySem.W.nsIn K mainGlobals "_law_sign_by" = some (some (.ref f7))) (l7 : K.lookup f7 = some ⟨oc7, od7, .func (PySem.W.fnOf "_law_sign_by" "_law_sign_by" (defArgs s__law_sign_by) (defBody s__law_sign_by) (defScope s__law_sign_by) .none kV7 dc7 pm7 an7 cd7 ct7), sl7⟩) (c7 : PySem.W.codeIn K cd7 "_law_sign_by" = true) (k7 : PySem.W.keepIn K (.ref f7) = true)
    (a8 : PySem.W.nsIn K mainGlobals "_law_number" = some (some (.ref f8))) (l8 : K.lookup f8 = some ⟨oc8, od8, .func (PySem.W.fnOf "_law_number" "_law_number" (defArgs s__law_number) (defBody s__law_number) (defScope s__law_number) .none kV8 dc8 pm8 an8 cd8 ct8), sl8⟩) (c8 : PySem.W.codeIn K cd8 "_law_number" = true) (k8 : PySem.W.keepIn K (.ref f8) = true)
    (a9 : PySem.W.nsIn K mainGlobals "_law_due" = some (some (.ref f9))) (l9 : K.lookup f9 = some ⟨oc9, od9, .func (PySem.W.fnOf "_law_due" "_law_due" (defArgs s__law_due) (defBody s__law_due) (defScope s__law_due) .none kV9 dc9 pm9 an9 cd9 ct9), sl9⟩) (c9 : PySem.W.codeIn K cd9 "_law_due" = true) (k9 : PySem.W.keepIn K (.ref f9) = true)
    (a10 : PySem.W.nsIn K mainGlobals "_law_number_by" = some (some (.ref f10))) (l10 : K.lookup f10 = some ⟨oc10, od10, .func (PySem.W.fnOf "_law_number_by" "_law_number_by" (defArgs s__law_number_by) (defBody s__law_number_by) (defScope s__law_number_by) .none kV10 dc10 pm10 an10 cd10 ct10), sl10⟩) (c10 : PySem.W.codeIn K cd10 "_law_number_by" = true) (k10 : PySem.W.keepIn K (.ref f10) = true)
    (a11 : PySem.W.nsIn K mainGlobals "_law_text_by" = some (some (.ref f11))) (l11 : K.lookup f11 = some ⟨oc11, od11, .func (PySem.W.fnOf "_law_text_by" "_law_text_by" (defArgs s__law_text_by) (defBody s__law_text_by) (defScope s__law_text_by) .none kV11 dc11 pm11 an11 cd11 ct11), sl11⟩) (c11 : PySem.W.codeIn K cd11 "_law_text_by" = true) (k11 : PySem.W.keepIn K (.ref f11) = true)
    (a12 : PySem.W.nsIn K mainGlobals "_law_spoiled" = some (some (.ref f12))) (l12 : K.lookup f12 = some ⟨oc12, od12, .func (PySem.W.fnOf "_law_spoiled" "_law_spoiled" (defArgs s__law_spoiled) (defBody s__law_spoiled) (defScope s__law_spoiled) .none kV12 dc12 pm12 an12 cd12 ct12), sl12⟩) (c12 : PySem.W.codeIn K cd12 "_law_spoiled" = true) (k12 : PySem.W.keepIn K (.ref f12) = true)
    (a13 : PySem.W.nsIn K mainGlobals "_law_refused_alone" = some (some (.ref f13))) (l13 : K.lookup f13 = some ⟨oc13, od13, .func (PySem.W.fnOf "_law_refused_alone" "_law_refused_alone" (defArgs s__law_refused_alone) (defBody s__law_refused_alone) (defScope s__law_refused_alone) .none kV13 dc13 pm13 an13 cd13 ct13), sl13⟩) (c13 : PySem.W.codeIn K cd13 "_law_refused_alone" = true) (k13 : PySem.W.keepIn K (.ref f13) = true)
    (a14 : PySem.W.nsIn K mainGlobals "_law_holds" = some (some (.ref f14))) (l14 : K.lookup f14 = some ⟨oc14, od14, .func (PySem.W.fnOf "_law_holds" "_law_holds" (defArgs s__law_holds) (defBody s__law_holds) (defScope s__law_holds) .none kV14 dc14 pm14 an14 cd14 ct14), sl14⟩) (c14 : PySem.W.codeIn K cd14 "_law_holds" = true) (k14 : PySem.W.keepIn K (.ref f14) = true)
    (a15 : PySem.W.nsIn K mainGlobals "law" = some (some (.ref f15))) (l15 : K.lookup f15 = some ⟨oc15, od15, .func (PySem.W.fnOf "law" "law" (defArgs s_law) (defBody s_law) (defScope s_law) .none kV15 dc15 pm15 an15 cd15 ct15), sl15⟩) (c15 : PySem.W.codeIn K cd15 "law" = true) (k15 : PySem.W.keepIn K (.ref f15) = true)
    (z0 : PySem.W.nsIn K mainGlobals "abs" = some none)
    (z1 : PySem.W.nsIn K mainGlobals "isinstance" = some none)
    (z2 : PySem.W.nsIn K mainGlobals "str" = some none)
    (z3 : PySem.W.nsIn K mainGlobals "int" = some none)
    (z4 : PySem.W.nsIn K mainGlobals "len" = some none)
    (z5 : PySem.W.nsIn K mainGlobals "tuple" = some none)
    (z6 : PySem.W.nsIn K mainGlobals "bool" = some none)
    (z7 : PySem.W.nsIn K mainGlobals "ValueError" = some none)
    (n_CurveError : PySem.W.nsIn K mainGlobals "CurveError" = some (some (.ref K_CurveError)))
    (n_NoRatio : PySem.W.nsIn K mainGlobals "NoRatio" = some (some (.ref K_NoRatio)))
    (n_NoCurve : PySem.W.nsIn K mainGlobals "NoCurve" = some (some (.ref K_NoCurve)))
    (n_NoTime : PySem.W.nsIn K mainGlobals "NoTime" = some (some (.ref K_NoTime)))
    (n_NoHouse : PySem.W.nsIn K mainGlobals "NoHouse" = some (some (.ref K_NoHouse)))
    (n_NoWay : PySem.W.nsIn K mainGlobals "NoWay" = some (some (.ref K_NoWay)))
    (n_NoText : PySem.W.nsIn K mainGlobals "NoText" = some (some (.ref K_NoText)))
    (n_NoName : PySem.W.nsIn K mainGlobals "NoName" = some (some (.ref K_NoName)))
    (n_NoEnd : PySem.W.nsIn K mainGlobals "NoEnd" = some (some (.ref K_NoEnd)))
    (n_NoRow : PySem.W.nsIn K mainGlobals "NoRow" = some (some (.ref K_NoRow)))
    (x_NoText : PySem.W.excIn K K_NoText [.type "ValueError", .type "Exception", .type "BaseException", .type "object"] "ValueError.__new__" = true)
    (n_FIGURES : PySem.W.nsIn K mainGlobals "FIGURES" = some (some (.str "0123456789" gt_FIGURES_0)))
    (n_MOST_FIGURES : PySem.W.nsIn K mainGlobals "MOST_FIGURES" = some (some (.int 60 gt_MOST_FIGURES_1)))
    (h0_CurveError : PySem.W.instIn K (.ref K_CurveError) (.type "tuple") = some false)
    (h1_CurveError : (PySem.W.clsIn K K_CurveError).isSome = true)
    (h2_CurveError : PySem.W.mroIn K K_CurveError (.type "BaseException") = some true)
    (mr_NoText_CurveError : PySem.W.mroIn K K_NoText (.ref K_CurveError) = some true)
    (kT_NoText_ValueError : PySem.W.kitOne K (.ref K_NoText) (.type "ValueError") = some true)
    (i0_NoText : PySem.W.findIn K (.ref K_NoText) "__getattribute__" = some (some (.builtin "BaseException.__getattribute__")))
    (i1_NoText : PySem.W.findIn K (.ref K_NoText) "__getattr__" = some none)
    (i2_NoText : (PySem.W.clsIn K K_NoText).isSome = true)
    (i3_NoText : PySem.W.findIn K (.ref K_NoText) "__class__" = some (some (.builtin "object.__class__")))
    (i4_NoText : PySem.W.specialIn K (.builtin "object.__class__") "__get__" = some (some (.builtin "getset_descriptor.__get__")))
    (i5_NoText : PySem.W.takesIn K (.builtin "object.__class__") = some true)
    (i6_NoText : PySem.W.mroIn K K_NoText (.type "object") = some true)
    (i7_NoText : PySem.W.mroIn K K_NoText (.type "BaseException") = some true)
    (kt_NoText_NoText : PySem.W.kitOne K (.ref K_NoText) (.ref K_NoText) = some true)
    (kt_NoText_NoWay : PySem.W.kitOne K (.ref K_NoText) (.ref K_NoWay) = some false)
    (kt_NoText_NoTime : PySem.W.kitOne K (.ref K_NoText) (.ref K_NoTime) = some false)
    (kt_NoText_NoRow : PySem.W.kitOne K (.ref K_NoText) (.ref K_NoRow) = some false)
    (kt_NoText_NoRatio : PySem.W.kitOne K (.ref K_NoText) (.ref K_NoRatio) = some false)
    (kt_NoText_NoName : PySem.W.kitOne K (.ref K_NoText) (.ref K_NoName) = some false)
    (kt_NoText_NoHouse : PySem.W.kitOne K (.ref K_NoText) (.ref K_NoHouse) = some false)
    (kt_NoText_NoEnd : PySem.W.kitOne K (.ref K_NoText) (.ref K_NoEnd) = some false)
    (kt_NoText_NoCurve : PySem.W.kitOne K (.ref K_NoText) (.ref K_NoCurve) = some false)
    (h0_NoText : PySem.W.instIn K (.ref K_NoText) (.type "tuple") = some false)
    (h1_NoText : (PySem.W.clsIn K K_NoText).isSome = true)
    (h2_NoText : PySem.W.mroIn K K_NoText (.type "BaseException") = some true)
    (mr_NoText_NoText : PySem.W.mroIn K K_NoText (.ref K_NoText) = some true)
    : ∃ fd : FuncData, (∀ (s : Shared) (v : Value), BindsTo s fd ⟨[v], []⟩ [("_law_script", v)]) ∧ ∀ base : Heap, K.In base → base.Ns mainGlobals mg → ∃ mg', FnOk l.prog w K mg base CX0 5 fa fd ["_law_script"] (liftSp K mg' spLaw3) := by
  have e := hfa.symm.trans (PySem.W.mg_of X G a15)
  cases e
  have y0 := PySem.W.mg_none_of X G z0
  have y1 := PySem.W.mg_none_of X G z1
  have y2 := PySem.W.mg_none_of X G z2
  have y3 := PySem.W.mg_none_of X G z3
  have y4 := PySem.W.mg_none_of X G z4
  have y5 := PySem.W.mg_none_of X G z5
  have y6 := PySem.W.mg_none_of X G z6
  have y7 := PySem.W.mg_none_of X G z7
  have ec_NoText : ExC K "NoText" K_NoText := ⟨n_NoText, x_NoText⟩
  have m_NoText := PySem.W.mg_of X G n_NoText
  have gc_FIGURES : GC K mg "FIGURES" (.str "0123456789") := KD.of (PySem.W.mg_of X G n_FIGURES) KD.str
  have gc_MOST_FIGURES : GC K mg "MOST_FIGURES" (.int 60) := KD.of (PySem.W.mg_of X G n_MOST_FIGURES) KD.int
  have m_CurveError := PySem.W.mg_of X G n_CurveError
  have hn_CurveError : HnC K K_CurveError := ⟨h0_CurveError, h1_CurveError, h2_CurveError⟩
  have xi_NoText : ExI K K_NoText := ⟨i0_NoText, i1_NoText, i2_NoText, i3_NoText, i4_NoText, i5_NoText, i6_NoText, i7_NoText⟩
  have m_NoWay := PySem.W.mg_of X G n_NoWay
  have m_NoTime := PySem.W.mg_of X G n_NoTime
  have m_NoRow := PySem.W.mg_of X G n_NoRow
  have m_NoRatio := PySem.W.mg_of X G n_NoRatio
  have m_NoName := PySem.W.mg_of X G n_NoName
  have m_NoHouse := PySem.W.mg_of X G n_NoHouse
  have m_NoEnd := PySem.W.mg_of X G n_NoEnd
  have m_NoCurve := PySem.W.mg_of X G n_NoCurve
  have hn_NoText : HnC K K_NoText := ⟨h0_NoText, h1_NoText, h2_NoText⟩
  have F0 := fun_mk (st := s_divisor) l0 c0 k0
  have F1 := fun_mk (st := s_check_text) l1 c1 k1
  have F2 := fun_mk (st := s_read_figures) l2 c2 k2
  have F3 := fun_mk (st := s_read_ratio) l3 c3 k3
  have F4 := fun_mk (st := s__law_cell_at) l4 c4 k4
  have F5 := fun_mk (st := s__law_lowest) l5 c5 k5
  have F6 := fun_mk (st := s__law_is_ratio) l6 c6 k6
  have F7 := fun_mk (st := s__law_sign_by) l7 c7 k7
  have F8 := fun_mk (st := s__law_number) l8 c8 k8
  have F9 := fun_mk (st := s__law_due) l9 c9 k9
  have F10 := fun_mk (st := s__law_number_by) l10 c10 k10
  have F11 := fun_mk (st := s__law_text_by) l11 c11 k11
  have F12 := fun_mk (st := s__law_spoiled) l12 c12 k12
  have F13 := fun_mk (st := s__law_refused_alone) l13 c13 k13
  have F14 := fun_mk (st := s__law_holds) l14 c14 k14
  have F15 := fun_mk (st := s_law) l15 c15 k15
  refine ⟨PySem.W.fnOf "law" "law" (defArgs s_law) (defBody s_law) (defScope s_law) .none kV15 dc15 pm15 an15 cd15 ct15, fun s v => .of_eq rfl, fun base _ _ => ⟨mg, ?_⟩⟩
  have Q_divisor : Cal l.prog w K mg base (CXU l.prog w) 1 "divisor" ["one", "other"] sp_divisor := ⟨⟨_, _, (FnOk.anyCX (ok_divisor (P := l.prog) (w := w) (mg := mg) (base := base) F0 y0)), PySem.W.mg_of X G a0, k0, F0.binds (ps := ["one", "other"]) fun _ _ _ _ _ _ us hl => by obtain ⟨x0, x1, rfl⟩ := lenE2 hl; rfl⟩⟩
  have Q_check_text : Cal l.prog w K mg base (CXU l.prog w) 1 "check_text" ["thing"] sp_check_text := ⟨⟨_, _, ok_check_text (P := l.prog) (w := w) (mg := mg) (base := base) F1 y1 y2 ec_NoText m_NoText, PySem.W.mg_of X G a1, k1, F1.binds (ps := ["thing"]) fun _ _ _ _ _ _ us hl => by obtain ⟨x0, rfl⟩ := lenE1 hl; rfl⟩⟩
  have Q_read_figures : Cal l.prog w K mg base (CXU l.prog w) 1 "read_figures" ["text"] sp_read_figures := ⟨⟨_, _, ok_read_figures (P := l.prog) (w := w) (mg := mg) (base := base) F2 y3 y4 ec_NoText m_NoText gc_FIGURES gc_MOST_FIGURES, PySem.W.mg_of X G a2, k2, F2.binds (ps := ["text"]) fun _ _ _ _ _ _ us hl => by obtain ⟨x0, rfl⟩ := lenE1 hl; rfl⟩⟩
  have Q_read_ratio : Cal l.prog w K mg base (CXU l.prog w) 2 "read_ratio" ["text"] sp_read_ratio := ⟨⟨_, _, ok_read_ratio (P := l.prog) (w := w) (mg := mg) (base := base) F3 Q_check_text Q_read_figures Q_divisor y4 ec_NoText m_NoText, PySem.W.mg_of X G a3, k3, F3.binds (ps := ["text"]) fun _ _ _ _ _ _ us hl => by obtain ⟨x0, rfl⟩ := lenE1 hl; rfl⟩⟩
  have Q__law_cell_at : Cal l.prog w K mg base (CXU l.prog w) 1 "_law_cell_at" ["_law_script", "_law_k"] sp__law_cell_at := ⟨⟨_, _, (FnOk.anyCX (ok__law_cell_at (P := l.prog) (w := w) (mg := mg) (base := base) F4 y4)), PySem.W.mg_of X G a4, k4, F4.binds (ps := ["_law_script", "_law_k"]) fun _ _ _ _ _ _ us hl => by obtain ⟨x0, x1, rfl⟩ := lenE2 hl; rfl⟩⟩
  have Q__law_lowest : Cal l.prog w K mg base (CXU l.prog w) 1 "_law_lowest" ["_law_top", "_law_bottom"] sp__law_lowest := ⟨⟨_, _, (FnOk.anyCX (ok__law_lowest (P := l.prog) (w := w) (mg := mg) (base := base) F5 y0)), PySem.W.mg_of X G a5, k5, F5.binds (ps := ["_law_top", "_law_bottom"]) fun _ _ _ _ _ _ us hl => by obtain ⟨x0, x1, rfl⟩ := lenE2 hl; rfl⟩⟩
  have Q__law_is_ratio : Cal l.prog w K mg base (CXU l.prog w) 1 "_law_is_ratio" ["_law_found", "_law_due_here"] sp__law_is_ratio := ⟨⟨_, _, (FnOk.anyCX (ok__law_is_ratio (P := l.prog) (w := w) (mg := mg) (base := base) F6 y1 y5 y4 y6 y3)), PySem.W.mg_of X G a6, k6, F6.binds (ps := ["_law_found", "_law_due_here"]) fun _ _ _ _ _ _ us hl => by obtain ⟨x0, x1, rfl⟩ := lenE2 hl; rfl⟩⟩
  have Q__law_sign_by : Cal l.prog w K mg base (CXU l.prog w) 1 "_law_sign_by" ["_law_cell"] sp__law_sign_by := ⟨⟨_, _, (FnOk.anyCX (ok__law_sign_by (P := l.prog) (w := w) (mg := mg) (base := base) F7)), PySem.W.mg_of X G a7, k7, F7.binds (ps := ["_law_cell"]) fun _ _ _ _ _ _ us hl => by obtain ⟨x0, rfl⟩ := lenE1 hl; rfl⟩⟩
  have Q__law_number : Cal l.prog w K mg base (CXU l.prog w) 1 "_law_number" ["_law_text"] sp__law_number := ⟨⟨_, _, (FnOk.anyCX (ok__law_number (P := l.prog) (w := w) (mg := mg) (base := base) F8 y3 y4)), PySem.W.mg_of X G a8, k8, F8.binds (ps := ["_law_text"]) fun _ _ _ _ _ _ us hl => by obtain ⟨x0, rfl⟩ := lenE1 hl; rfl⟩⟩
  have Q__law_due : Cal l.prog w K mg base (CXU l.prog w) 2 "_law_due" ["_law_text"] sp__law_due := ⟨⟨_, _, (FnOk.anyCX (ok__law_due (P := l.prog) (w := w) (mg := mg) (base := base) F9 Q__law_number Q__law_lowest y1 y2)), PySem.W.mg_of X G a9, k9, F9.binds (ps := ["_law_text"]) fun _ _ _ _ _ _ us hl => by obtain ⟨x0, rfl⟩ := lenE1 hl; rfl⟩⟩
  have Q__law_number_by : Cal l.prog w K mg base (CXU l.prog w) 1 "_law_number_by" ["_law_cell"] sp__law_number_by := ⟨⟨_, _, (FnOk.anyCX (ok__law_number_by (P := l.prog) (w := w) (mg := mg) (base := base) F10)), PySem.W.mg_of X G a10, k10, F10.binds (ps := ["_law_cell"]) fun _ _ _ _ _ _ us hl => by obtain ⟨x0, rfl⟩ := lenE1 hl; rfl⟩⟩
  have Q__law_text_by : Cal l.prog w K mg base (CXU l.prog w) 2 "_law_text_by" ["_law_script"] sp__law_text_by := ⟨⟨_, _, (FnOk.anyCX (ok__law_text_by (P := l.prog) (w := w) (mg := mg) (base := base) F11 Q__law_number_by Q__law_cell_at y2 y4)), PySem.W.mg_of X G a11, k11, F11.binds (ps := ["_law_script"]) fun _ _ _ _ _ _ us hl => by obtain ⟨x0, rfl⟩ := lenE1 hl; rfl⟩⟩
  have Q__law_spoiled : Cal l.prog w K mg base (CXU l.prog w) 2 "_law_spoiled" ["_law_text", "_law_way", "_law_cell", "_law_other"] sp__law_spoiled := ⟨⟨_, _, (FnOk.anyCX (ok__law_spoiled (P := l.prog) (w := w) (mg := mg) (base := base) F12 Q__law_sign_by y4)), PySem.W.mg_of X G a12, k12, F12.binds (ps := ["_law_text", "_law_way", "_law_cell", "_law_other"]) fun _ _ _ _ _ _ us hl => by obtain ⟨x0, x1, x2, x3, rfl⟩ := lenE4 hl; rfl⟩⟩
  have Q__law_refused_alone : Cal l.prog w K mg base (CXU l.prog w) 3 "_law_refused_alone" ["_law_text"] sp__law_refused_alone := ⟨⟨_, _, (FnOk.anyCX (ok__law_refused_alone (P := l.prog) (w := w) (mg := mg) (base := base) F13 Q_read_ratio y1 y7 m_CurveError hn_CurveError m_NoText mr_NoText_CurveError kT_NoText_ValueError xi_NoText kt_NoText_NoText m_NoWay kt_NoText_NoWay m_NoTime kt_NoText_NoTime m_NoRow kt_NoText_NoRow m_NoRatio kt_NoText_NoRatio m_NoName kt_NoText_NoName m_NoHouse kt_NoText_NoHouse m_NoEnd kt_NoText_NoEnd m_NoCurve kt_NoText_NoCurve)), PySem.W.mg_of X G a13, k13, F13.binds (ps := ["_law_text"]) fun _ _ _ _ _ _ us hl => by obtain ⟨x0, rfl⟩ := lenE1 hl; rfl⟩⟩
  have Q__law_holds : Cal l.prog w K mg base (CXU l.prog w) 4 "_law_holds" ["_law_text"] sp__law_holds := ⟨⟨_, _, (FnOk.anyCX (ok__law_holds (P := l.prog) (w := w) (mg := mg) (base := base) F14 Q__law_due Q_read_ratio Q__law_is_ratio Q__law_refused_alone m_NoText hn_NoText mr_NoText_NoText)), PySem.W.mg_of X G a14, k14, F14.binds (ps := ["_law_text"]) fun _ _ _ _ _ _ us hl => by obtain ⟨x0, rfl⟩ := lenE1 hl; rfl⟩⟩
  exact ok_law (P := l.prog) (w := w) (mg := mg) (base := base) F15 Q__law_text_by Q__law_spoiled Q__law_cell_at Q__law_holds
end CL
open PySem PySem.W PyProof.Rows
local macro_rules | `(tactic| o_head $H) => `(tactic| (
    refine holds_open (q := CL.qv) (loose := []) (N := 30100)
      (Xt := (fun s => xlAt CL.qv [] s && recOk (RowW.records (OpenRow.toRowW (OpenLaw.row PySem.Challenge.rw_curvehouse_k49_texts_near_ratios))) s))
      (XP := XL CL.qv []) (Yf := Hook.obs $H) (Ya := Hook.val $H)
      (YP := Hook.says $H) ?hl (Hook.of $H) (Hook.keeps $H)
      (fun s e => xl_of s (Bool.and_eq_true_iff.mp e).1) XL.keeps (by rfl) (by rfl) (by rfl)
      (fun s e => recFacts_of (Bool.and_eq_true_iff.mp e).2) (by rfl) (by first | assumption | decide +kernel)
      (by decide +kernel) ⟨rfl, rfl, rfl, rfl, rfl, by decide +kernel⟩ ?hw ?hc
    case hl =>
      refine CL.lo CL.op CL.lA ?_
      intro w os
      kernel_rfl))
set_option maxRecDepth 100000 in
set_option maxHeartbeats 0 in
theorem PySem.Challenge.cw_curvehouse_k49_texts_near_ratios_holds : PySem.Challenge.rw_curvehouse_k49_texts_near_ratios.Holds := by
  w_on; o_law; k_head; (case hw => w_witness2)
  k_fill
  refine L3.walk3 (l := PySem.Challenge.rw_curvehouse_k49_texts_near_ratios) (k := 5) (x := "_law_script") rfl rfl ⟨rfl, by decide, by decide⟩ (fun _ h => h) (fun w h Y => PySem.W.kIn_of Y) (fun w => ?nt) ?F
  case nt => kernel_rfl
  case F =>
    intro w mg fa h KX G hmg
    refine' CL.all_mk KX G hmg ?a0 ?l0 ?c0 ?k0 ?a1 ?l1 ?c1 ?k1 ?a2 ?l2 ?c2 ?k2 ?a3 ?l3 ?c3 ?k3 ?a4 ?l4 ?c4 ?k4 ?a5 ?l5 ?c5 ?k5 ?a6 ?l6 ?c6 ?k6 ?a7 ?l7 ?c7 ?k7 ?a8 ?l8 ?c8 ?k8 ?a9 ?l9 ?c9 ?k9 ?a10 ?l10 ?c10 ?k10 ?a11 ?l11 ?c11 ?k11 ?a12 ?l12 ?c12 ?k12 ?a13 ?l13 ?c13 ?k13 ?a14 ?l14 ?c14 ?k14 ?a15 ?l15 ?c15 ?k15 ?z0 ?z1 ?z2 ?z3 ?z4 ?z5 ?z6 ?z7 ?n_CurveError ?n_NoRatio ?n_NoCurve ?n_NoTime ?n_NoHouse ?n_NoWay ?n_NoText ?n_NoName ?n_NoEnd ?n_NoRow ?x_NoText ?n_FIGURES ?n_MOST_FIGURES ?h0_CurveError ?h1_CurveError ?h2_CurveError ?mr_NoText_CurveError ?kT_NoText_ValueError ?i0_NoText ?i1_NoText ?i2_NoText ?i3_NoText ?i4_NoText ?i5_NoText ?i6_NoText ?i7_NoText ?kt_NoText_NoText ?kt_NoText_NoWay ?kt_NoText_NoTime ?kt_NoText_NoRow ?kt_NoText_NoRatio ?kt_NoText_NoName ?kt_NoText_NoHouse ?kt_NoText_NoEnd ?kt_NoText_NoCurve ?h0_NoText ?h1_NoText ?h2_NoText ?mr_NoText_NoText
    (case a0 => k_is)
    (case l0 => k_is)
    (case c0 => k_is)
    (case k0 => k_is)
    (case a1 => k_is)
    (case l1 => k_is)
    (case c1 => k_is)
    (case k1 => k_is)
    (case a2 => k_is)
    (case l2 => k_is)
    (case c2 => k_is)
    (case k2 => k_is)
    (case a3 => k_is)
    (case l3 => k_is)
    (case c3 => k_is)
    (case k3 => k_is)
    (case a4 => k_is)
    (case l4 => k_is)
    (case c4 => k_is)
    (case k4 => k_is)
    (case a5 => k_is)
    (case l5 => k_is)
    (case c5 => k_is)
    (case k5 => k_is)
    (case a6 => k_is)
    (case l6 => k_is)
    (case c6 => k_is)
    (case k6 => k_is)
    (case a7 => k_is)
    (case l7 => k_is)
    (case c7 => k_is)
    (case k7 => k_is)
    (case a8 => k_is)
    (case l8 => k_is)
    (case c8 => k_is)
    (case k8 => k_is)
    (case a9 => k_is)
    (case l9 => k_is)
    (case c9 => k_is)
    (case k9 => k_is)
    (case a10 => k_is)
    (case l10 => k_is)
    (case c10 => k_is)
    (case k10 => k_is)
    (case a11 => k_is)
    (case l11 => k_is)
    (case c11 => k_is)
    (case k11 => k_is)
    (case a12 => k_is)
    (case l12 => k_is)
    (case c12 => k_is)
    (case k12 => k_is)
    (case a13 => k_is)
    (case l13 => k_is)
    (case c13 => k_is)
    (case k13 => k_is)
    (case a14 => k_is)
    (case l14 => k_is)
    (case c14 => k_is)
    (case k14 => k_is)
    (case a15 => k_is)
    (case l15 => k_is)
    (case c15 => k_is)
    (case k15 => k_is)
    (case z0 => k_is)
    (case z1 => k_is)
    (case z2 => k_is)
    (case z3 => k_is)
    (case z4 => k_is)
    (case z5 => k_is)
    (case z6 => k_is)
    (case z7 => k_is)
    (case n_CurveError => k_is)
    (case n_NoRatio => k_is)
    (case n_NoCurve => k_is)
    (case n_NoTime => k_is)
    (case n_NoHouse => k_is)
    (case n_NoWay => k_is)
    (case n_NoText => k_is)
    (case n_NoName => k_is)
    (case n_NoEnd => k_is)
    (case n_NoRow => k_is)
    (case x_NoText => kernel_rfl)
    (case n_FIGURES => k_is)
    (case n_MOST_FIGURES => k_is)
    (case h0_CurveError => kernel_rfl)
    (case h1_CurveError => kernel_rfl)
    (case h2_CurveError => kernel_rfl)
    (case mr_NoText_CurveError => kernel_rfl)
    (case kT_NoText_ValueError => kernel_rfl)
    (case i0_NoText => kernel_rfl)
    (case i1_NoText => kernel_rfl)
    (case i2_NoText => kernel_rfl)
    (case i3_NoText => kernel_rfl)
    (case i4_NoText => kernel_rfl)
    (case i5_NoText => kernel_rfl)
    (case i6_NoText => kernel_rfl)
    (case i7_NoText => kernel_rfl)
    (case kt_NoText_NoText => kernel_rfl)
    (case kt_NoText_NoWay => kernel_rfl)
    (case kt_NoText_NoTime => kernel_rfl)
    (case kt_NoText_NoRow => kernel_rfl)
    (case kt_NoText_NoRatio => kernel_rfl)
    (case kt_NoText_NoName => kernel_rfl)
    (case kt_NoText_NoHouse => kernel_rfl)
    (case kt_NoText_NoEnd => kernel_rfl)
    (case kt_NoText_NoCurve => kernel_rfl)
    (case h0_NoText => kernel_rfl)
    (case h1_NoText => kernel_rfl)
    (case h2_NoText => kernel_rfl)
    (case mr_NoText_NoText => kernel_rfl)
