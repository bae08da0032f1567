import PyProof.Rows.All
import Wide.All
import OpenK.AllK
import Wide.FinOn
import Lean
import PyProof.EqAt
import PyProof.EqKinds
import PyProof.TupleCall
import PySem.Challenge.RW_curvehouse_k35_shared_as_one
set_option Elab.async false
section
set_option maxRecDepth 100000
set_option maxHeartbeats 0
open PySem PySem.W PyProof.Rows
def CL.top (i : Nat) : Stmt := PySem.Challenge.pw_curvehouse_k35_shared_as_one.main.body.getD i (.Pass ⟨0, 0, 0, 0⟩)
noncomputable def CL.qv : Program := { PySem.Challenge.pw_curvehouse_k35_shared_as_one with main := { PySem.Challenge.pw_curvehouse_k35_shared_as_one.main with body := [CL.top 1, CL.top 2, CL.top 3, CL.top 4, CL.top 6, CL.top 7, CL.top 9, CL.top 10, CL.top 11, CL.top 12, CL.top 13, CL.top 14, CL.top 15, CL.top 16, CL.top 18, CL.top 19, CL.top 20, CL.top 21, CL.top 22, CL.top 23, CL.top 24, CL.top 25, CL.top 26, CL.top 27, CL.top 28, CL.top 29, CL.top 31, CL.top 32, CL.top 33, CL.top 34, CL.top 35, CL.top 36, CL.top 38, CL.top 39, CL.top 41, CL.top 42, CL.top 44, CL.top 46, CL.top 47, CL.top 48, CL.top 49, CL.top 50, CL.top 51, CL.top 52, CL.top 53] } }
def CL.grow : List Obj → Nat → BT → BT
  | [], _, T => T
  | x :: l, i, T => CL.grow l (i + 1) (T.ins i x)
noncomputable def CL.b0 (P : Params) : BT := CL.grow (boot_heap P).objs.toList 0 .nil
theorem CL.b0_abs (P : Params) : absHeap (CL.b0 P) 11 (boot_heap P).life = boot_heap P := by kernel_rfl
theorem CL.b0_sz (P : Params) : (boot_heap P).objs.size = 11 := by kernel_rfl
theorem CL.b0_ns (P : Params) : (boot_heap P).isNs mainGlobals = true := by kernel_rfl
noncomputable def CL.tT (tb : String → Option Builtin) (p : Program) (w : World) (k : Nat) (an : Option Value) : Nat → SharedT → Thread → Option SharedT
  | 0, _, _ => none
  | m + 1, a, c => match through c, stepOk k an c with
    | true, _ => some a
    | false, false => none
    | false, true => match stepT (denote tb) p w a c with
      | none => none
      | some (a', c') => CL.tT tb p w k an m a' c'
theorem CL.tT_of {tb : String → Option Builtin} {p : Program} {w : World} {k : Nat} {an : Option Value} : ∀ {m : Nat} {a r : SharedT} {c : Thread}, CL.tT tb p w k an m a c = some r → topRun tb p w k an m a.abs c = some r.abs
  | 0, _, _, _, h => by cases h
  | m + 1, a, r, c, h => by
    unfold CL.tT at h
    unfold topRun
    cases e1 : through c with
    | true => rw [e1] at h; cases h; rfl
    | false =>
      cases e2 : stepOk k an c with
      | false => rw [e1, e2] at h; cases h
      | true =>
        rw [e1, e2] at h
        dsimp only at h ⊢
        cases e3 : stepT (denote tb) p w a c with
        | none => rw [e3] at h; cases h
        | some x =>
          obtain ⟨a', c'⟩ := x
          rw [e3] at h
          rw [stepT_spec e3]
          exact CL.tT_of h
noncomputable def CL.s0 (w : World) (os : OsState) : SharedT := ⟨CL.b0 w.params, 11, (boot_heap w.params).life, Array.mk [], boot_drawn, boot_toks, os⟩
theorem CL.s0_abs (w : World) (os : OsState) : (CL.s0 w os).abs = ⟨boot_heap w.params, Array.mk [], boot_drawn, boot_toks, os⟩ := by
  unfold CL.s0 SharedT.abs
  dsimp only
  rw [CL.b0_abs]
noncomputable def CL.an (w : World) : Option Value := (boot_heap w.params).nsMap mainGlobals "__annotations__"
noncomputable def CL.fin (p : Program) (w : World) (N : Nat) (os : OsState) : Option SharedT := CL.tT treeTable p w 11 (CL.an w) N (CL.s0 w os) (topStub p)
noncomputable def CL.ok (p : Program) (w : World) (s : Shared) : Bool :=
  staticsOk (importedModules p.main.body) (boot_heap w.params) s.heap && namesBound p s.heap &&
  gensDone s && laidKept (boot_heap w.params) s.heap
theorem CL.lo {p q : Program} {Xt : Shared → Bool} {α : Type} {Yf : Shared → α} {Ya : World → α} {N : Nat}
    (o : ∀ w : World, (fencedOpening treeTable p w N).map (fun s => (s.heap, s.gens, s.drawn, s.toks)) = some (boot_heap w.params, Array.mk [], boot_drawn, boot_toks))
    (a : ∀ (w : World) (os : OsState), (CL.fin p w N os).map (fun s => (CL.ok p w s.abs, openSeen q [] (importedModules p.main.body) Xt true s.abs)) = some (true, openGood q []))
    (b : ∀ (w : World) (os : OsState), (CL.fin p w N os).map (fun s => Yf s.abs) = some (Ya w)) : LeftO p q [] Xt Yf Ya N true := by
  intro w
  obtain ⟨s, e, e'⟩ := Option.map_eq_some_iff.mp (o w)
  obtain ⟨h, gs, d, k, os⟩ := s
  simp only [Prod.mk.injEq] at e'
  obtain ⟨e1, e2, e3, e4⟩ := e'
  subst e1 e2 e3 e4
  obtain ⟨s, hs, hv⟩ := Option.map_eq_some_iff.mp (a w os)
  have hb := b w os
  rw [hs] at hb
  have hy : Yf s.abs = Ya w := Option.some.inj hb
  have r := CL.tT_of hs
  rw [CL.s0_abs] at r
  obtain ⟨v1, v2⟩ := Prod.mk.inj hv
  have t : topFrom treeTable p w N ⟨boot_heap w.params, Array.mk [], boot_drawn, boot_toks, os⟩ = some s.abs := by
    unfold topFrom
    dsimp only
    rw [CL.b0_ns, CL.b0_sz]
    change Option.bind (topRun treeTable p w 11 (CL.an w) N _ _) _ = _
    rw [r]
    show (match CL.ok p w s.abs with | true => some s.abs | false => none) = some s.abs
    rw [v1]
  unfold openEnds
  rw [e]
  show (topFrom treeTable p w N _).map _ = _
  rw [t, ← v2, ← hy]
  rfl
theorem CL.op (w : World) : (fencedOpening treeTable ((OpenLaw.row PySem.Challenge.rw_curvehouse_k35_shared_as_one).toRowW.prog) w 30100).map (fun s => (s.heap, s.gens, s.drawn, s.toks)) = some (boot_heap w.params, Array.mk [], boot_drawn, boot_toks) := boot_open (by kernel_rfl) (by decide +kernel) (fun s => by kernel_rfl) w
theorem CL.lA (w : World) (os : OsState) : (CL.fin ((OpenLaw.row PySem.Challenge.rw_curvehouse_k35_shared_as_one).toRowW.prog) w 30100 os).map (fun s => (CL.ok ((OpenLaw.row PySem.Challenge.rw_curvehouse_k35_shared_as_one).toRowW.prog) w s.abs, openSeen CL.qv [] (importedModules ((OpenLaw.row PySem.Challenge.rw_curvehouse_k35_shared_as_one).toRowW.prog).main.body) (fun s => xlAt CL.qv [] s && recOk (RowW.records (OpenRow.toRowW (OpenLaw.row PySem.Challenge.rw_curvehouse_k35_shared_as_one))) s) true s.abs)) = some (true, openGood CL.qv []) := by kernel_rfl
end
set_option linter.all false
set_option maxRecDepth 100000
/-! THE HAND LAYER, for ints, bools, texts, own classes, LISTS and tuples (index, slices, in, append, pop ..), calls, loops. Paste it whole ahead of your own text; what your proof does not reach may be deleted. -/
namespace L2
open PySem PySem.Spec PyProof.Rows

/-- a key: an int or a str -/
abbrev Key := Sum Int Str
def keyIs : Key → Value → Bool
  | .inl k, v => Value.isInt k v
  | .inr x, v => Value.isStrOf x v
def keyH (w : World) : Key → Int
  | .inl k => hashInt k
  | .inr x => hashStr w x
theorem keyIs_shape : ∀ {k : Key} {v : Value}, keyIs k v = true → (∃ i t, k = Sum.inl i ∧ v = Value.int i t) ∨ (∃ x t, k = Sum.inr x ∧ v = Value.str x t)
  | .inl i, v, h => by
    obtain ⟨t, e⟩ := Value.isInt_shape (k := i) (v := v) h
    exact .inl ⟨i, t, rfl, e⟩
  | .inr x, v, h => by
    obtain ⟨t, e⟩ := Value.isStrOf_shape (x := x) (v := v) h
    exact .inr ⟨x, t, rfl, e⟩
theorem key_ll (a b : Int) : decide ((Sum.inl a : Key) = Sum.inl b) = (a == b) := by
  by_cases e : a = b
  · subst e; simp
  · have h : ¬ (Sum.inl a : Key) = Sum.inl b := fun q => e (Sum.inl.inj q)
    rw [decide_eq_false h]
    exact (beq_eq_false_iff_ne.mpr e).symm
theorem key_rr (a b : Str) : decide ((Sum.inr a : Key) = Sum.inr b) = decide (a = b) := by
  by_cases e : a = b
  · subst e; simp
  · have h : ¬ (Sum.inr a : Key) = Sum.inr b := fun q => e (Sum.inr.inj q)
    rw [decide_eq_false h, decide_eq_false e]
theorem key_lr (a : Int) (b : Str) : decide ((Sum.inl a : Key) = Sum.inr b) = false := decide_eq_false (fun q => nomatch q)
theorem key_rl (a : Str) (b : Int) : decide ((Sum.inr a : Key) = Sum.inl b) = false := decide_eq_false (fun q => nomatch q)

def mixKind (prog : Program) (w : World) : PySem.KeyKind prog w Key where
  is := keyIs
  hash := keyH w
  inj := fun v a b ha hb => by
    rcases keyIs_shape ha with ⟨i, t, rfl, rfl⟩ | ⟨x, t, rfl, rfl⟩
    · rcases keyIs_shape hb with ⟨j, u, rfl, e⟩ | ⟨y, u, rfl, e⟩
      · injection e with e1 _; rw [e1]
      · exact nomatch e
    · rcases keyIs_shape hb with ⟨j, u, rfl, e⟩ | ⟨y, u, rfl, e⟩
      · exact nomatch e
      · injection e with e1 _; rw [e1]
  byValue := fun k v h => by
    rcases keyIs_shape h with ⟨i, t, rfl, rfl⟩ | ⟨x, t, rfl, rfl⟩ <;> rfl
  pyHash := fun hv h => by
    rcases keyIs_shape hv with ⟨i, t, rfl, rfl⟩ | ⟨x, t, rfl, rfl⟩
    · exact wpAny_pyHash_int h
    · exact wpAny_pyHash_str h
  eqBool := fun hu hv h => by
    rcases keyIs_shape hu with ⟨i, t, rfl, rfl⟩ | ⟨x, t, rfl, rfl⟩
    · rcases keyIs_shape hv with ⟨j, u, rfl, rfl⟩ | ⟨y, u, rfl, rfl⟩
      · rw [key_ll] at h; exact wpAny_eqBool_int h
      · rw [key_lr] at h; exact SeqAt.EqAt.int_str i t y u _ _ _ _ h
    · rcases keyIs_shape hv with ⟨j, u, rfl, rfl⟩ | ⟨y, u, rfl, rfl⟩
      · rw [key_rl] at h; exact SeqAt.EqAt.str_int x t j u _ _ _ _ h
      · rw [key_rr] at h; exact wpAny_eqBool_str h
  «strs» := fun k x t v h => by
    rcases keyIs_shape h with ⟨i, u, rfl, e⟩ | ⟨y, u, rfl, e⟩
    · exact nomatch e
    · injection e with e1 _
      subst e1
      cases v <;> rfl

end L2

namespace L2
open PySem PySem.Spec PyProof.Rows

/-- a value, without the heap -/
inductive V where
  | non | bl (b : Bool) | int (i : Int) | str (x : Str) | byt (b : Array UInt8) | flt (b : UInt64) | ref (a : Addr) | ty (n : String)
  deriving DecidableEq

def RelV : V → Value → Prop
  | .non, u => u = Value.none
  | .bl b, u => u = Value.bool b
  | .int i, u => ∃ t, u = Value.int i t
  | .str x, u => ∃ t, u = Value.str x t
  | .byt b, u => ∃ t, u = Value.bytes b t
  | .flt b, u => ∃ t, u = Value.float b t
  | .ref a, u => u = Value.ref a
  | .ty n, u => u = Value.type n

abbrev Vals : List V → List Value → Prop := Paired RelV
theorem Vals.length {xs : List V} {us : List Value} (r : Vals xs us) : xs.length = us.length := Paired.length r
theorem Vals.get : ∀ {xs : List V} {us : List Value} {i : Nat} {x : V}, Vals xs us → xs[i]? = some x → ∃ u, us[i]? = some u ∧ RelV x u
  | _, _, _, _, .nil, e => by simp at e
  | _, _, 0, _, .cons r _, e => by simp at e; subst e; exact ⟨_, rfl, r⟩
  | _, _, i + 1, x, .cons _ t, e => by
    obtain ⟨u, h1, h2⟩ := Vals.get (i := i) (x := x) t (by simpa using e)
    exact ⟨u, by simpa using h1, h2⟩
theorem Vals.set {x : V} {u : Value} (r : RelV x u) : ∀ {xs : List V} {us : List Value} (i : Nat), Vals xs us → Vals (xs.set i x) (us.set i u)
  | _, _, _, .nil => .nil
  | _, _, 0, .cons _ t => .cons r t
  | _, _, i + 1, .cons q t => .cons q (Vals.set r i t)
theorem Vals.append : ∀ {xs ys : List V} {us ws : List Value}, Vals xs us → Vals ys ws → Vals (xs ++ ys) (us ++ ws)
  | _, _, _, _, .nil, s => s
  | _, _, _, _, .cons r t, s => .cons r (Vals.append t s)
theorem Vals.take : ∀ {xs : List V} {us : List Value} (n : Nat), Vals xs us → Vals (xs.take n) (us.take n)
  | _, _, 0, _ => .nil
  | _, _, _ + 1, .nil => .nil
  | _, _, n + 1, .cons r t => .cons r (Vals.take n t)
theorem Vals.drop : ∀ {xs : List V} {us : List Value} (n : Nat), Vals xs us → Vals (xs.drop n) (us.drop n)
  | _, _, 0, r => r
  | _, _, _ + 1, .nil => .nil
  | _, _, n + 1, .cons _ t => Vals.drop n t

def RelO : Option V → Option Value → Prop
  | some v, some u => RelV v u
  | none, none => True
  | _, _ => False
def KV {κ : Type} : List (κ × V) → List (κ × Value) → Prop := Paired fun (p : κ × V) (q : κ × Value) => p.1 = q.1 ∧ RelV p.2 q.2

/-- a key of a dict (00_mix): an int or a text -/
def kV : Key → V
  | .inl i => .int i
  | .inr x => .str x

/-- what stands at a tracked address -/
inductive HO where
  /-- a list -/
  | lst (xs : List V)
  /-- a tuple (never changes) -/
  | tup (xs : List V)
  /-- a dict whose keys are ints and texts; one whose keys are tuples of ints and texts (the empty one is both) -/
  | dK (kvs : List (Key × V)) | dT (kvs : List (List Key × V))
  /-- a set of ints: its members, its size -/
  | set (S : Int → Bool) (n : Nat)
  /-- an instance of the class at C, its dict at dx, its attributes -/
  | ins (C dx : Addr) (fs : List (Str × V))
  /-- the dict of the instance at x -/
  | own (x : Addr)
  /-- the dict of an exception -/
  | xd (fs : List (Str × V))
  /-- a bound method, f of x -/
  | met (f x : Addr)
  /-- a range object lo, lo + 1, .. below hi -/
  | rng (lo hi : Int)
  /-- a thing that is known to the object (the script; a dict while a loop walks it): read, never written while it is so -/
  | frz (o : Obj) (u : HO)
  /-- a code object's table -/
  | tbl (ps : Array Value)
  /-- any other thing, by what is true of its one object (a def of one's own: SetO a S n := HO.ext fun h => ..) -/
  | ext (φ : Heap → Prop)

abbrev Hp := Addr → Option HO
def upd (H : Hp) (a : Addr) (o : HO) : Hp := fun b => if b = a then some o else H b
theorem upd_same {H : Hp} {a : Addr} {o : HO} : upd H a o a = some o := by unfold upd; rw [if_pos rfl]
theorem upd_ne {H : Hp} {a b : Addr} {o : HO} (h : b ≠ a) : upd H a o b = H b := by unfold upd; rw [if_neg h]
theorem ne_of_none {H : Hp} {a b : Addr} {o : HO} (h : H a = some o) (h' : H b = none) : a ≠ b := by
  intro e; subst e; rw [h] at h'; cases h'

/-- a code object's table: the codes that it knows lie there, frozen -/
def TabOk (H : Hp) (h : Heap) (a : Addr) : Prop := ∃ tab : Array Value, h.get? a = some { cls := .none, data := .fields tab } ∧ TriplesOk tab.toList ∧
  ∀ (pos : Pos) (cv : Value), codeAmong pos tab.toList = some cv → ∃ (c : Addr) (oc : Obj) (fs : Array Value) (nm : Str) (t : Nat), cv = .ref c ∧ H c = some (.frz oc (.own a)) ∧ oc.data = .fields fs ∧ fs[1]? = some (.str nm t)
theorem TabOk.stay {H H' : Hp} {h h' : Heap} {a : Addr} (x : TabOk H h a) (k : ∀ o, h.get? a = some o → h'.get? a = some o) (hf : ∀ b o u, H b = some (.frz o u) → H' b = some (.frz o u)) : TabOk H' h' a := by
  obtain ⟨tab, e, tr, q⟩ := x
  refine ⟨tab, k _ e, tr, fun pos cv z => ?_⟩
  obtain ⟨c, oc, fs, nm, t, z1, z2, z3⟩ := q pos cv z
  exact ⟨c, oc, fs, nm, t, z1, hf _ _ _ z2, z3⟩
section
variable (P : Program) (w : World)
def ObjOk (H : Hp) (h : Heap) (a : Addr) : HO → Prop
  | .lst xs => xs.length ≤ sizeLine ∧ ∃ (its : List Value) (n : Nat), Vals xs its ∧ h.get? a = some { cls := .type "list", data := .seq its.toArray n }
  | .tup xs => xs.length ≤ sizeLine ∧ ∃ its : List Value, Vals xs its ∧ IsTup h a its.toArray
  | .dK kvs => kvs.length ≤ sizeLine ∧ (a == sysModules) = false ∧ ∃ vs, KV kvs vs ∧ h.DictOf (mixKind P w) a vs
  | .dT kvs => kvs.length ≤ sizeLine ∧ (a == sysModules) = false ∧ ∃ xs : List (List Key × Addr × Value),
      Paired (fun (p : List Key × V) (q : List Key × Addr × Value) => p.1 = q.1 ∧ H q.2.1 = some (.tup (p.1.map kV)) ∧ RelV p.2 q.2.2) kvs xs ∧
      ∃ o es ep, h.get? a = some o ∧ o.ExactDict ∧ o.data = .dict es ep ∧ es.toList = xs.map (entryOfKey (tupleKind (mixKind P w))) ∧ (xs.map (·.1)).Nodup
  | .set S n => h.SetOf (intKind P w) a S n
  | .ins C dx fs => H dx = some (.own a) ∧ fs.length ≤ 1000 ∧ dx ≠ a ∧ h.get? a = some (PySem.W.instObj C dx) ∧
      ∃ mA, h.Ns1 dx mA ∧ (∀ f, RelO (fs.lookup f) (mA f)) ∧ PySem.Within mA (fs.map (·.1))
  | .own _ => ∃ o, h.get? a = some o
  | .xd fs => ∃ mA, h.Ns1 a mA ∧ ∀ f, RelO (fs.lookup f) (mA f)
  | .rng lo hi => ∃ t u v, h.get? a = some { cls := .type "range", data := .fields #[.int lo t, .int hi u, .int 1 v] }
  | .frz o u => h.get? a = some o ∧ ObjOk H h a u
  | .tbl _ => TabOk H h a
  | .met f x => h.get? a = some (PySem.W.methodObj (.ref f) (.ref x))
  | .ext φ => φ h ∧ (∃ o, h.get? a = some o) ∧ ∀ h1 h2 : Heap, φ h1 → (∀ o, h1.get? a = some o → h2.get? a = some o) → φ h2
/-- the abstract heap is held -/
def HOk (H : Hp) (h : Heap) : Prop := ∀ a o, H a = some o → ObjOk P w H h a o
end

section
variable {P : Program} {w : World} {H H' : Hp} {h h' : Heap} {a : Addr} {o : HO}
theorem ObjOk.lt (x : ObjOk P w H h a o) : a < h.objs.size := by
  cases o with
  | lst xs => obtain ⟨_, _, _, _, e⟩ := x; exact Heap.lt_size e
  | tup xs => obtain ⟨_, _, _, p⟩ := x; exact p.lt
  | dK kvs => obtain ⟨_, _, _, _, o, _, _, e, _⟩ := x; exact Heap.lt_size e
  | dT kvs => obtain ⟨_, _, _, _, o, _, _, e, _⟩ := x; exact Heap.lt_size e
  | set S n => obtain ⟨o, _, _, _, e, _⟩ := x; exact Heap.lt_size e
  | ins C dx fs => obtain ⟨_, _, _, e, _⟩ := x; exact Heap.lt_size e
  | own y => obtain ⟨_, e⟩ := x; exact Heap.lt_size e
  | xd fs => obtain ⟨_, ⟨_, _, _, e, _⟩, _⟩ := x; exact Heap.lt_size e
  | rng lo hi => obtain ⟨_, _, _, e⟩ := x; exact Heap.lt_size e
  | frz ob u => obtain ⟨e, _⟩ := x; exact Heap.lt_size e
  | tbl ps => obtain ⟨_, e, _⟩ := x; exact Heap.lt_size e
  | met f y => exact Heap.lt_size (show h.get? a = some _ from x)
  | ext φ => obtain ⟨_, ⟨_, e⟩, _⟩ := x; exact Heap.lt_size e
theorem Paired.mapP {α β : Type} {F G : α → β → Prop} : ∀ {l₁ : List α} {l₂ : List β}, Paired F l₁ l₂ → (∀ a b, F a b → G a b) → Paired G l₁ l₂
  | _, _, .nil, _ => .nil
  | _, _, .cons r t, f => .cons (f _ _ r) (Paired.mapP t f)
/-- what an object's description leans on: its own object, its own dict, the tuples -/
theorem ObjOk.stay (x : ObjOk P w H h a o) (k : ∀ b u, (b = a ∨ H b = some (.own a)) → h.get? b = some u → h'.get? b = some u)
    (ho : ∀ b, H b = some (.own a) → H' b = some (.own a)) (ht : ∀ b xs, H b = some (.tup xs) → H' b = some (.tup xs)) (hf : ∀ b o u, H b = some (.frz o u) → H' b = some (.frz o u) := by intro _ _ _ q; exact q) : ObjOk P w H' h' a o := by
  induction o with
  | lst xs => obtain ⟨z, its, n, r, e⟩ := x; exact ⟨z, its, n, r, k _ _ (.inl rfl) e⟩
  | tup xs => obtain ⟨z, its, r, ob, e, c⟩ := x; exact ⟨z, its, r, ob, k _ _ (.inl rfl) e, c⟩
  | dK kvs => obtain ⟨z, y, vs, r, ob, es, ep, e, c⟩ := x; exact ⟨z, y, vs, r, ob, es, ep, k _ _ (.inl rfl) e, c⟩
  | dT kvs =>
    obtain ⟨z, y, xs, r, ob, es, ep, e, c⟩ := x
    exact ⟨z, y, xs, Paired.mapP r fun p q z => ⟨z.1, ht _ _ z.2.1, z.2.2⟩, ob, es, ep, k _ _ (.inl rfl) e, c⟩
  | set S n => obtain ⟨ob, es, ep, t, e, c⟩ := x; exact ⟨ob, es, ep, t, k _ _ (.inl rfl) e, c⟩
  | ins C dx fs =>
    obtain ⟨d, z, ne, e, mA, ⟨od, es, ep, e2, c⟩, r⟩ := x
    exact ⟨ho _ d, z, ne, k _ _ (.inl rfl) e, mA, ⟨od, es, ep, k _ _ (.inr d) e2, c⟩, r⟩
  | own y => obtain ⟨ob, e⟩ := x; exact ⟨ob, k _ _ (.inl rfl) e⟩
  | xd fs => obtain ⟨mA, ⟨od, es, ep, e, c⟩, r⟩ := x; exact ⟨mA, ⟨od, es, ep, k _ _ (.inl rfl) e, c⟩, r⟩
  | rng lo hi => obtain ⟨t, u, v, e⟩ := x; exact ⟨t, u, v, k _ _ (.inl rfl) e⟩
  | frz ob u ih => obtain ⟨e, q⟩ := x; exact ⟨k _ _ (.inl rfl) e, ih q⟩
  | tbl ps => exact TabOk.stay x (fun u q => k _ _ (.inl rfl) q) hf
  | met f y =>
    have e : h.get? a = some (PySem.W.methodObj (.ref f) (.ref y)) := x
    show h'.get? a = some (PySem.W.methodObj (.ref f) (.ref y))
    exact k a _ (.inl rfl) e
  | ext φ => obtain ⟨p, ⟨o, e⟩, st⟩ := x; exact ⟨st _ _ p fun o q => k _ _ (.inl rfl) q, ⟨o, k _ _ (.inl rfl) e⟩, st⟩
theorem HOk.lt (x : HOk P w H h) (e : H a = some o) : a < h.objs.size := (x a o e).lt
theorem HOk.fresh (x : HOk P w H h) (e : h.objs.size ≤ a) : H a = none := by
  cases q : H a with
  | none => rfl
  | some u => exact absurd (Nat.lt_of_lt_of_le (x.lt q) e) (Nat.lt_irrefl _)
/-- every object of the heap is kept -/
theorem HOk.kept (x : HOk P w H h) (k : ∀ b u, h.get? b = some u → h'.get? b = some u) : HOk P w H h' := fun a o e =>
  (x a o e).stay (fun b u _ q => k b u q) (fun _ q => q) fun _ _ q => q
/-- a new object is laid and tracked -/
theorem HOk.laid (x : HOk P w H h) (k : ∀ b u, h.get? b = some u → h'.get? b = some u) (hp : h.objs.size ≤ a) (new : ObjOk P w (upd H a o) h' a o) : HOk P w (upd H a o) h' := fun b u e => by
  have hn := x.fresh hp
  by_cases hb : b = a
  · subst hb; rw [upd_same] at e; cases e; exact new
  · rw [upd_ne hb] at e
    exact (x b u e).stay (hf := fun c w1 w2 q => by rw [upd_ne (ne_of_none q hn)]; exact q) (fun c v _ q => k c v q) (fun c q => by rw [upd_ne (ne_of_none q hn)]; exact q) fun c xs q => by rw [upd_ne (ne_of_none q hn)]; exact q
end

/-- what may be read as u: it is u, or a known u -/
def Rd (H : Hp) (a : Addr) (u : HO) : Prop := H a = some u ∨ ∃ o, H a = some (.frz o u)
theorem Rd.of {H : Hp} {a : Addr} {u : HO} (h : H a = some u) : Rd H a u := .inl h
theorem Rd.ok {P : Program} {w : World} {H : Hp} {h : Heap} {a : Addr} {u : HO} (r : Rd H a u) (x : HOk P w H h) : ObjOk P w H h a u := by
  rcases r with r | ⟨o, r⟩
  · exact x a u r
  · obtain ⟨_, q⟩ := x a _ r
    exact q
/-- what may be written -/
def Mut : Option HO → Prop
  | some (.lst _) => True
  | some (.dK _) => True
  | some (.dT _) => True
  | some (.set _ _) => True
  | some (.ins _ _ _) => True
  | some (.ext _) => True
  | _ => False
section
variable {P : Program} {w : World} {H : Hp} {h h' : Heap} {x e : Addr} {o' : HO}
/-- the object at e is changed: x itself, or the dict of the instance x -/
theorem HOk.write (ok : HOk P w H h) (mu : Mut (H x)) (he : e = x ∨ H e = some (.own x)) (k : ∀ b u, b ≠ e → h.get? b = some u → h'.get? b = some u) (heo : ∃ u, h'.get? e = some u)
    (new : ObjOk P w (upd H x o') h' x o') : HOk P w (upd H x o') h' := fun b u q => by
  have nown : ∀ c y, H c = some (.own y) → c ≠ x := fun c y r z => by subst z; rw [r] at mu; exact mu
  have ntup : ∀ c xs, H c = some (.tup xs) → c ≠ x := fun c xs r z => by subst z; rw [r] at mu; exact mu
  by_cases hb : b = x
  · subst hb; rw [upd_same] at q; cases q; exact new
  · rw [upd_ne hb] at q
    by_cases hbe : b = e
    · have q' : H b = some (.own x) := by
        rcases he with z | z
        · exact absurd (hbe.trans z) hb
        · rw [hbe]; exact z
      rw [q] at q'; cases q'
      obtain ⟨v, hv⟩ := heo
      exact ⟨v, by rw [hbe]; exact hv⟩
    · refine (ok b u q).stay (hf := fun c w1 w2 r => by rw [upd_ne (fun z => by subst z; rw [r] at mu; exact mu)]; exact r) (fun c v hc r => k c v ?_ r) (fun c r => by rw [upd_ne (nown c b r)]; exact r) fun c xs r => by rw [upd_ne (ntup c xs r)]; exact r
      rcases hc with rfl | hc
      · exact hbe
      · rintro rfl
        rcases he with z | z
        · exact nown c b hc z
        · rw [hc] at z; cases z; exact hb rfl
end

/-! ### kept unless tracked; of the frames at fs (the callers') the slots may change (an exception that passes writes there); of the records at ex (iterators) nothing is said -/
structure Un (fs ex : List Addr) (H H' : Hp) (h h' : Heap) : Prop where
  keep : ∀ b o, h.get? b = some o → H b = none → b ∉ fs → b ∉ ex → h'.get? b = some o
  slot : ∀ b o, h.get? b = some o → H b = none → b ∈ fs → b ∉ ex → ∃ sl, h'.get? b = some { o with slots := sl }
  free : ∀ b o, h.get? b = some o → H b = none → b ∉ ex → H' b = none
  there : ∀ b o, h.get? b = some o → b ∉ ex → ∃ o', h'.get? b = some o'
  tups : ∀ b xs, H b = some (.tup xs) → H' b = some (.tup xs)
  frzs : ∀ b o u, H b = some (.frz o u) → H' b = some (.frz o u)
  tbls : ∀ b ps, H b = some (.tbl ps) → ∃ more, H' b = some (.tbl (ps ++ more))
section
variable {fs fs' ex ex' : List Addr} {H H1 H2 : Hp} {h h1 h2 h' : Heap} {a x e : Addr} {o : HO}
theorem Un.any (u : Un fs ex H H1 h h1) {b : Addr} {ob : Obj} (q : h.get? b = some ob) (n : H b = none) (hx : b ∉ ex) : ∃ sl, h1.get? b = some { ob with slots := sl } := by
  by_cases hb : b ∈ fs
  · exact u.slot b ob q n hb hx
  · exact ⟨ob.slots, u.keep b ob q n hb hx⟩
theorem Un.trans (a : Un fs ex H H1 h h1) (b : Un fs ex H1 H2 h1 h2) : Un fs ex H H2 h h2 where
  keep := fun c ob q n hc hx => b.keep c ob (a.keep c ob q n hc hx) (a.free c ob q n hx) hc hx
  slot := fun c ob q n hc hx => by
    obtain ⟨sl, e1⟩ := a.slot c ob q n hc hx
    obtain ⟨sl', e2⟩ := b.slot c _ e1 (a.free c ob q n hx) hc hx
    exact ⟨sl', e2⟩
  free := fun c ob q n hx => by
    obtain ⟨o', e1⟩ := a.there c ob q hx
    exact b.free c o' e1 (a.free c ob q n hx) hx
  there := fun c ob q hx => by
    obtain ⟨o', e1⟩ := a.there c ob q hx
    exact b.there c o' e1 hx
  tups := fun c xs q => b.tups c xs (a.tups c xs q)
  frzs := fun c ob xs q => b.frzs c ob xs (a.frzs c ob xs q)
  tbls := fun c ps q => by
    obtain ⟨m1, e1⟩ := a.tbls c ps q
    obtain ⟨m2, e2⟩ := b.tbls c _ e1
    exact ⟨m1 ++ m2, by rw [e2, Array.append_assoc]⟩
theorem Un.kept (k : ∀ b u, h.get? b = some u → h'.get? b = some u) : Un fs ex H H h h' :=
  ⟨fun b ob q _ _ _ => k b ob q, fun b ob q _ _ _ => ⟨ob.slots, k b ob q⟩, fun _ _ _ n _ => n, fun b ob q _ => ⟨ob, k b ob q⟩, fun _ _ q => q, fun _ _ _ q => q, fun _ ps q => ⟨#[], by rw [q]; simp⟩⟩
theorem Un.refl : Un fs ex H H h h := Un.kept fun _ _ q => q
theorem Un.laid (k : ∀ b u, h.get? b = some u → h'.get? b = some u) (hp : h.objs.size ≤ a) (hn : H a = none) : Un fs ex H (upd H a o) h h' where
  keep := fun b u q _ _ _ => k b u q
  slot := fun b u q _ _ _ => ⟨u.slots, k b u q⟩
  free := fun b u q n _ => by rw [upd_ne (Nat.ne_of_lt (Nat.lt_of_lt_of_le (Heap.lt_size q) hp))]; exact n
  there := fun b u q _ => ⟨u, k b u q⟩
  tups := fun b xs q => by rw [upd_ne (ne_of_none q hn)]; exact q
  frzs := fun b u xs q => by rw [upd_ne (ne_of_none q hn)]; exact q
  tbls := fun b ps q => ⟨#[], by rw [upd_ne (ne_of_none q hn), q]; simp⟩
theorem Un.write (mu : Mut (H x)) (he : e = x ∨ H e = some (.own x)) (k : ∀ b u, b ≠ e → h.get? b = some u → h'.get? b = some u) (heo : ∃ u, h'.get? e = some u) : Un fs ex H (upd H x o) h h' := by
  have hx : ∀ b, H b = none → b ≠ x := fun b n z => by subst z; rw [n] at mu; exact mu
  have hb : ∀ b, H b = none → b ≠ e := fun b n z => by
    subst z
    rcases he with r | r
    · exact hx b n r
    · rw [n] at r; cases r
  have hm : ∀ b u, H b = some u → ¬ Mut (some u) → b ≠ x := fun b u q nm z => by subst z; rw [q] at mu; exact nm mu
  refine ⟨fun b u q n _ _ => k b u (hb b n) q, fun b u q n _ _ => ⟨u.slots, k b u (hb b n) q⟩, fun b u q n _ => by rw [upd_ne (hx b n)]; exact n, fun b u q _ => ?_,
    fun b xs q => by rw [upd_ne (hm b _ q fun z => z)]; exact q, fun b u xs q => by rw [upd_ne (hm b _ q fun z => z)]; exact q, fun b ps q => ⟨#[], by rw [upd_ne (hm b _ q fun z => z), q]; simp⟩⟩
  by_cases hbe : b = e
  · subst hbe; exact heo
  · exact ⟨u, k b u hbe q⟩
theorem Un.mono (u : Un fs ex H H1 h h1) (hs : ∀ b ∈ fs, b ∈ fs') (hx : ∀ b ∈ ex, b ∈ ex') : Un fs' ex' H H1 h h1 :=
  ⟨fun b ob q n hb he => u.keep b ob q n (fun z => hb (hs b z)) fun z => he (hx b z), fun _ _ q n _ he => u.any q n fun z => he (hx _ z), fun b ob q n he => u.free b ob q n fun z => he (hx b z), fun b ob q he => u.there b ob q fun z => he (hx b z), u.tups, u.frzs, u.tbls⟩
end

/-! ### the heap without what is tracked -/
def trk (h : Heap) (H : Hp) : List Addr := (List.range h.objs.size).filter fun a => (H a).isSome
def hidT (h : Heap) (H : Hp) : Heap := PySem.W.hideAll h (trk h H)
theorem hidT_size (h : Heap) (H : Hp) : (hidT h H).objs.size = h.objs.size := PySem.W.hideAll_size _ _
theorem hidT_get {h : Heap} {H : Hp} {b : Addr} {o : Obj} (e : h.get? b = some o) (n : H b = none) : (hidT h H).get? b = some o :=
  PySem.W.hideAll_get _ e fun hm => by
    have q : (H b).isSome = true := (List.mem_filter.mp hm).2
    rw [n] at q; simp at q
theorem of_hidT {h : Heap} {H : Hp} {b : Addr} {o : Obj} (e : (hidT h H).get? b = some o) : h.get? b = some o ∧ H b = none := by
  have e' : h.get? b = some o := PySem.W.of_hideAll (trk h H) e
  refine ⟨e', ?_⟩
  cases q : H b with
  | none => rfl
  | some x =>
    have hm : b ∈ trk h H := List.mem_filter.mpr ⟨List.mem_range.mpr (Heap.lt_size e'), by simp [q]⟩
    have z : (hidT h H).get? b = none := PySem.W.hideAll_none (trk h H) hm
    rw [z] at e; cases e

/-! ### OpenK's ledger, filled with every new object but one -/
def allNews (g h : Heap) (L : Addr) : List (Addr × Obj) := (List.range h.objs.size).filterMap fun a => if a = L ∨ (g.get? a).isSome = true then none else (h.get? a).map fun o => (a, o)
theorem mem_allNews {g h : Heap} {L a : Addr} {o : Obj} (h1 : a ≠ L) (h2 : g.get? a = none) (h3 : h.get? a = some o) : (a, o) ∈ allNews g h L :=
  List.mem_filterMap.mpr ⟨a, List.mem_range.mpr (Heap.lt_size h3), by simp [h1, h2, h3]⟩
def rest (g h : Heap) (L d : Addr) : List (Addr × Obj) := (allNews g h L).filter fun p => decide (p.1 ≠ d)
theorem mem_rest {g h : Heap} {L d a : Addr} {o : Obj} (h1 : a ≠ L) (h2 : g.get? a = none) (h3 : h.get? a = some o) (h4 : a ≠ d) : (a, o) ∈ rest g h L d :=
  List.mem_filter.mpr ⟨mem_allNews h1 h2 h3, decide_eq_true h4⟩
end L2

namespace L2
open PySem PySem.Spec PyProof.Rows

/-- the module's facts, over the base: the heap at the law's entry without what is tracked there -/
structure Mod (K : PySem.W.Frag) (mg : Str → Option Value) (base : Heap) : Prop where
  kin : K.In base
  glob : base.Ns mainGlobals mg
  blt : ∃ mb, base.Ns builtinsNs mb ∧ ∀ x : Str, x ≠ "__name__" → mb x = bootBuiltins x
  nolimit : base.NoLimit

/-- the context: a def's body (or a comprehension's block) running. base: fixed through the whole law; s₀, H₀: the entry; outer: the frames whose slots others may change (a def's callers); stack: all frames that run;
   ex: iterators that were made ahead of the entry and are walked here (a comprehension's); fn: the names whose cells were made at the entry (a def: all; a comprehension's block: its own); calm: not within an except suite; pn: pins that every state bears; xe: what is wanted of an exception that leaves the code -/
structure Cx where
  prog : Program
  w : World
  K : PySem.W.Frag
  mg : Str → Option Value
  base : Heap
  A : Around
  N : List Str
  s₀ : Shared
  H₀ : Hp
  env : Env
  outer : List Env
  stack : List Env
  ex : List Addr
  fn : Str → Bool
  calm : Bool
  pn : List (Addr × Obj)
  xe : Value → Shared → Prop
  lent : Option (Nat × Addr) := none
/-- the callers' frames -/
def frs (l : List Env) : List Addr := l.filterMap (·.frame)
abbrev Cx.fs (X : Cx) : List Addr := frs X.outer

def Vis (sc : Scope) (x : Str) : Prop := sc.names.lookup x = some .local ∨ sc.names.lookup x = some .cell ∨ sc.names.lookup x = some .free
def Loc (sc : Scope) (x : Str) : Prop := sc.names.lookup x = some .local ∨ sc.names.lookup x = some .cell
def Look (env : Env) (h : Heap) (m : Str → Option Value) (x : Str) (u : Value) : Prop :=
  (env.kindOf x = some .local ∧ m x = some u) ∨ ((env.kindOf x = some .cell ∨ env.kindOf x = some .free) ∧ ∃ c, env.cells.lookup x = some c ∧ h.IsCell c (some u))

/-- the tables of the defs' code objects are tracked, and the module knows its builtins -/
structure TB (P : Program) (K : PySem.W.Frag) (mg : Str → Option Value) (base : Heap) (H : Hp) : Prop where
  bm : ∃ (b : Addr) (o : Obj), mg "__builtins__" = some (.ref b) ∧ b ≠ builtinsNs ∧ base.get? b = some o ∧ o.cls = .type "module" ∧ o.dict = some builtinsNs ∧ o.data = .plain
  tab : ∀ (x : Str) (c T : Addr), PySem.W.tabIn K x = some (c, T) → (recsOf P).any (fun d => d.name == x) = true → PySem.W.CodeHd base c T ∧ ∃ ps, H T = some (.tbl ps)
structure Cx.Ok (X : Cx) : Prop where
  mod : Mod X.K X.mg X.base
  kind : X.env.scope.kind = .function
  glob : X.env.globals = mainGlobals
  blt : X.env.builtins = builtinsNs
  above : X.s₀.heap.objs.size ≤ X.env.locals
  inj : ∀ x y c, X.env.cells.lookup x = some c → X.env.cells.lookup y = some c → x = y
  has : ∀ x, (X.env.kindOf x = some .cell ∨ X.env.kindOf x = some .free) → ∃ c, X.env.cells.lookup x = some c
  cab : ∀ x c, X.fn x = true → X.env.cells.lookup x = some c → X.s₀.heap.objs.size ≤ c
  hd : X.calm = true → X.A.handled = none
  frames : X.A.frames = some X.stack
  stk : X.stack = X.outer ∨ (X.stack = X.env :: X.outer ∧ X.env.frame = some X.env.locals)
  exf : ∀ b ∈ X.ex, b ≠ X.env.locals ∧ ∀ x c, X.env.cells.lookup x = some c → c ≠ b
  bs : ∀ b o, X.base.get? b = some o → X.s₀.heap.get? b = some o ∧ X.H₀ b = none
  bsz : X.base.objs.size ≤ X.s₀.heap.objs.size
  noex : ∀ b o, X.base.get? b = some o → b ∉ X.ex
  exfs : ∀ b ∈ X.ex, b ∉ X.fs
  funs : X.s₀.heap.FunFrames X.base X.outer
  frf : ∀ b ∈ X.fs, X.H₀ b = none
  tb : TB X.prog X.K X.mg X.base X.H₀

structure Inv (X : Cx) (pins : List (Addr × Obj)) (σ : List (Option V)) (H : Hp) (s : Shared) : Prop where
  ok : X.Ok
  os : s.os = X.s₀.os
  bare : AllBare s.gens
  base : Un X.fs X.ex X.H₀ H X.s₀.heap s.heap
  loc : ∃ m, s.heap.Ns X.env.locals m ∧ ∀ (i : Nat) (x : Str) (v : V), X.N[i]? = some x → σ[i]? = some (some v) → Vis X.env.scope x → ∃ u, RelV v u ∧ Look X.env s.heap m x u
  cell : ∀ x c, X.env.cells.lookup x = some c → ∃ v, s.heap.IsCell c v
  free : H X.env.locals = none
  freeC : ∀ x c, X.env.cells.lookup x = some c → H c = none
  pin : ∀ p ∈ X.pn ++ pins, s.heap.get? p.1 = some p.2 ∧ H p.1 = none ∧ p.1 ≠ X.env.locals ∧ p.1 ∉ X.fs ∧ ∀ v, p.2.data ≠ .cell v
  hok : HOk X.prog X.w H s.heap
  len : σ.length = X.N.length

section
variable {X : Cx} {pins : List (Addr × Obj)} {σ : List (Option V)} {H H' : Hp} {s : Shared} {h' : Heap}

theorem Cx.Ok.nofr (ok : X.Ok) {b : Addr} {o : Obj} (e : X.base.get? b = some o) : b ∉ X.fs := fun hb => by
  have := (ok.funs.mem hb).1
  rw [e] at this; cases this
theorem Inv.bs (I : Inv X pins σ H s) : ∀ b o, X.base.get? b = some o → s.heap.get? b = some o ∧ H b = none := fun b o e =>
  ⟨I.base.keep b o (I.ok.bs b o e).1 (I.ok.bs b o e).2 (I.ok.nofr e) (I.ok.noex b o e), I.base.free b o (I.ok.bs b o e).1 (I.ok.bs b o e).2 (I.ok.noex b o e)⟩
theorem Inv.bk (I : Inv X pins σ H s) : ∀ b o, X.base.get? b = some o → s.heap.get? b = some o := fun b o e => (I.bs b o e).1
theorem Inv.tb (I : Inv X pins σ H s) : TB X.prog X.K X.mg X.base H := ⟨I.ok.tb.bm, fun x c T h1 h2 => by
  obtain ⟨z, ps, e⟩ := I.ok.tb.tab x c T h1 h2
  obtain ⟨more, e'⟩ := I.base.tbls T ps e
  exact ⟨z, _, e'⟩⟩
theorem Inv.mod (I : Inv X pins σ H s) : Mod X.K X.mg X.base := I.ok.mod
theorem Inv.kIn (I : Inv X pins σ H s) : X.K.In s.heap := I.ok.mod.kin.keeps I.bk
theorem Inv.nolimit (I : Inv X pins σ H s) : s.heap.NoLimit := I.ok.mod.nolimit.keeps I.bk
/-- the frame over the base: for OpenK's rules (K.In X.base is I.mod.kin) -/
theorem Inv.fr (I : Inv X pins σ H s) : ∃ m, Fr X.base X.env.locals s.heap m :=
  let ⟨m, hn, _⟩ := I.loc
  ⟨m, hn, I.bk, Nat.le_trans I.ok.bsz I.ok.above⟩
theorem Inv.lt (I : Inv X pins σ H s) : X.env.locals < s.heap.objs.size := let ⟨_, hn, _⟩ := I.loc; hn.lt
theorem Inv.sz (I : Inv X pins σ H s) : X.s₀.heap.objs.size ≤ s.heap.objs.size := Nat.le_trans I.ok.above (Nat.le_of_lt I.lt)
theorem Inv.nofs (I : Inv X pins σ H s) {a : Addr} (h : s.heap.objs.size ≤ a) : a ∉ X.fs := fun hb => by
  obtain ⟨_, o, ho, _⟩ := I.ok.funs.mem hb
  exact absurd (Nat.lt_of_lt_of_le (Heap.lt_size ho) (Nat.le_trans I.sz h)) (Nat.lt_irrefl _)
theorem Inv.cne (I : Inv X pins σ H s) : ∀ x c, X.env.cells.lookup x = some c → c ≠ X.env.locals := fun x c e z => by
  obtain ⟨v, o, ho, hd⟩ := I.cell x c e
  obtain ⟨m, ⟨o', es, ep, ho', hd', _⟩, _⟩ := I.loc
  rw [z, ho'] at ho; cases ho; rw [hd'] at hd; cases hd
theorem Inv.funs (I : Inv X pins σ H s) : s.heap.FunFrames X.base X.outer := by
  have all : ∀ (l : List Env), (∀ b ∈ frs l, b ∈ X.fs) → X.s₀.heap.FunFrames X.base l → s.heap.FunFrames X.base l := by
    intro l
    induction l with
    | nil => intro _ _; trivial
    | cons env r ih =>
      intro hs hl
      obtain ⟨hk, ⟨L, o, hf, hn, ho, hd⟩, hr⟩ := hl
      have hL : L ∈ X.fs := hs L (by unfold frs; rw [List.filterMap_cons, hf]; exact List.mem_cons_self)
      obtain ⟨sl, e⟩ := I.base.slot L o ho (I.ok.frf L hL) hL fun z => I.ok.exfs L z hL
      exact ⟨hk, ⟨L, _, hf, hn, e, hd⟩, ih (fun b hb => hs b (by unfold frs; rw [List.filterMap_cons, hf]; exact List.mem_cons_of_mem _ hb)) hr⟩
  exact all X.outer (fun _ hb => hb) I.ok.funs

/-- the frames that run, for a call -/
theorem Inv.stack (I : Inv X pins σ H s) : s.heap.FunFrames X.base X.stack := by
  rcases I.ok.stk with e | ⟨e, hf⟩
  · rw [e]; exact I.funs
  · rw [e]
    obtain ⟨m, hn, _⟩ := I.loc
    refine .cons (by rw [I.ok.kind]; decide) hf hn ?_ I.funs
    exact Heap.get?_none_of_le (Nat.le_trans I.ok.bsz I.ok.above)
theorem Inv.stkSub (I : Inv X pins σ H s) : ∀ b ∈ frs X.stack, b ∈ X.env.locals :: X.fs := fun b hb => by
  rcases I.ok.stk with e | ⟨e, hf⟩
  · rw [e] at hb; exact List.mem_cons_of_mem _ hb
  · rw [e] at hb
    unfold frs at hb
    rw [List.filterMap_cons, hf] at hb
    exact hb
theorem Inv.stkFree (I : Inv X pins σ H s) : ∀ b ∈ frs X.stack, H b = none := fun b hb => by
  rcases List.mem_cons.mp (I.stkSub b hb) with e | hb
  · rw [e]; exact I.free
  · obtain ⟨_, o, ho, _⟩ := I.ok.funs.mem hb
    exact I.base.free b o ho (I.ok.frf b hb) fun z => I.ok.exfs b z hb

/-- THE STEP: the untracked objects but the frame and the records at ch are kept (the callers' frames up to slots), the frame's map is kept, the new abstract heap is held -/
theorem Inv.step {g' : Array GenState} {t' : Nat} {d' : Drawn} {ch : List Addr} (I : Inv X pins σ H s)
    (hch : ∀ b ∈ ch, (b ∈ X.ex ∨ X.s₀.heap.objs.size ≤ b) ∧ b ≠ X.env.locals ∧ (∀ x c, X.env.cells.lookup x = some c → c ≠ b) ∧ ∀ p ∈ X.pn ++ pins, p.1 ≠ b)
    (keep : ∀ b o, b ≠ X.env.locals → b ∉ X.fs → b ∉ ch → s.heap.get? b = some o → H b = none → h'.get? b = some o)
    (slot : ∀ b o, b ≠ X.env.locals → b ∈ X.fs → b ∉ ch → s.heap.get? b = some o → H b = none → ∃ sl, h'.get? b = some { o with slots := sl }) (free : ∀ b o, b ∉ ch → s.heap.get? b = some o → H b = none → H' b = none)
    (there : ∀ b o, b ∉ ch → s.heap.get? b = some o → ∃ o', h'.get? b = some o')
    (tups : ∀ b xs, H b = some (.tup xs) → H' b = some (.tup xs)) (frzs : ∀ b o u, H b = some (.frz o u) → H' b = some (.frz o u)) (tbls : ∀ b ps, H b = some (.tbl ps) → ∃ more, H' b = some (.tbl (ps ++ more)))
    (ns : ∀ m, s.heap.Ns X.env.locals m → h'.Ns X.env.locals m) (hok : HOk X.prog X.w H' h') (hg : AllBare g') :
    Inv X pins σ H' { s with heap := h', gens := g', drawn := d', toks := t' } := by
  have neL : ∀ b o, X.s₀.heap.get? b = some o → b ≠ X.env.locals := fun b o e => Nat.ne_of_lt (Nat.lt_of_lt_of_le (Heap.lt_size e) I.ok.above)
  have neC : ∀ b o, X.s₀.heap.get? b = some o → b ∉ X.ex → b ∉ ch := fun b o e hx hb => by
    rcases (hch b hb).1 with z | z
    · exact hx z
    · exact absurd (Nat.lt_of_lt_of_le (Heap.lt_size e) z) (Nat.lt_irrefl _)
  have cellK : ∀ x c, X.env.cells.lookup x = some c → ∀ v, s.heap.IsCell c v → h'.IsCell c v := fun x c e v hh => by
    obtain ⟨o, ho, hd⟩ := hh
    have nch : c ∉ ch := fun z => (hch c z).2.2.1 x c e rfl
    by_cases hc : c ∈ X.fs
    · obtain ⟨sl, q⟩ := slot c o (I.cne x c e) hc nch ho (I.freeC x c e)
      exact ⟨_, q, hd⟩
    · exact ⟨o, keep c o (I.cne x c e) hc nch ho (I.freeC x c e), hd⟩
  refine ⟨I.ok, I.os, hg, ⟨fun b o e n hb hx => ?_, fun b o e n hb hx => ?_, fun b o e n hx => ?_, fun b o e hx => ?_, fun b xs e => tups b xs (I.base.tups b xs e), fun b o xs e => frzs b o xs (I.base.frzs b o xs e), fun b ps e => ?_⟩, ?_, fun x c e => ?_, ?_, fun x c e => ?_, fun p hp => ?_, hok, I.len⟩
  · exact keep b o (neL b o e) hb (neC b o e hx) (I.base.keep b o e n hb hx) (I.base.free b o e n hx)
  · obtain ⟨sl, e1⟩ := I.base.slot b o e n hb hx
    obtain ⟨sl', e2⟩ := slot b _ (neL b o e) hb (neC b o e hx) e1 (I.base.free b o e n hx)
    exact ⟨sl', e2⟩
  · obtain ⟨o', e1⟩ := I.base.there b o e hx
    exact free b o' (neC b o e hx) e1 (I.base.free b o e n hx)
  · obtain ⟨o', e1⟩ := I.base.there b o e hx
    exact there b o' (neC b o e hx) e1
  · obtain ⟨m1, e1⟩ := I.base.tbls b ps e
    obtain ⟨m2, e2⟩ := tbls b _ e1
    exact ⟨m1 ++ m2, by rw [e2, Array.append_assoc]⟩
  · obtain ⟨m, hn, hl⟩ := I.loc
    refine ⟨m, ns m hn, fun i x v e1 e2 e3 => ?_⟩
    obtain ⟨u, r, l⟩ := hl i x v e1 e2 e3
    refine ⟨u, r, ?_⟩
    rcases l with l | ⟨k, c, e, z⟩
    · exact .inl l
    · exact .inr ⟨k, c, e, cellK x c e _ z⟩
  · obtain ⟨v, z⟩ := I.cell x c e
    exact ⟨v, cellK x c e v z⟩
  · obtain ⟨m, ⟨o, _, _, ho, _⟩, _⟩ := I.loc
    exact free _ o (fun z => (hch _ z).2.1 rfl) ho I.free
  · obtain ⟨v, o, ho, hd⟩ := I.cell x c e
    exact free c o (fun z => (hch c z).2.2.1 x c e rfl) ho (I.freeC x c e)
  · obtain ⟨e, n, ne, nf, d⟩ := I.pin p hp
    have nch : p.1 ∉ ch := fun z => (hch p.1 z).2.2.2 p hp rfl
    exact ⟨keep p.1 p.2 ne nf nch e n, free p.1 p.2 nch e n, ne, nf, d⟩
/-- .. where the frame's own object is kept too -/
theorem Inv.un {t' : Nat} (I : Inv X pins σ H s) (u : Un X.fs [] H H' s.heap h') (hok : HOk X.prog X.w H' h') : Inv X pins σ H' { s with heap := h', toks := t' } := by
  obtain ⟨m, ⟨o, es, ep, ho, r⟩, _⟩ := id I.loc
  obtain ⟨sl, hL⟩ := u.any ho I.free (by simp)
  exact I.step (g' := s.gens) (d' := s.drawn) (ch := []) (fun _ z => nomatch z) (fun b o _ hb _ e n => u.keep b o e n hb (by simp)) (fun b o _ hb _ e n => u.slot b o e n hb (by simp)) (fun b o _ e n => u.free b o e n (by simp)) (fun b o _ e => u.there b o e (by simp)) u.tups u.frzs u.tbls (fun m' hm => by
    obtain ⟨o', es', ep', ho', r'⟩ := hm
    rw [ho] at ho'; cases ho'
    exact ⟨_, es', ep', hL, r'⟩) hok I.bare
/-- behind a call (or a comprehension's block): the slots of this frame may have changed too, the records at ch may have turned -/
theorem Inv.call {g' : Array GenState} {t' : Nat} {d' : Drawn} {ch : List Addr} (I : Inv X pins σ H s) (u : Un (frs X.stack) ch H H' s.heap h') (hok : HOk X.prog X.w H' h') (hg : AllBare g')
    (hch : ∀ b ∈ ch, (b ∈ X.ex ∨ X.s₀.heap.objs.size ≤ b) ∧ b ≠ X.env.locals ∧ (∀ x c, X.env.cells.lookup x = some c → c ≠ b) ∧ ∀ p ∈ X.pn ++ pins, p.1 ≠ b) :
    Inv X pins σ H' { s with heap := h', gens := g', drawn := d', toks := t' } := by
  obtain ⟨m, ⟨o, es, ep, ho, r⟩, _⟩ := id I.loc
  obtain ⟨sl, hL⟩ := u.any ho I.free fun z => (hch _ z).2.1 rfl
  exact I.step (ch := ch) hch (fun b o hL hb hc e n => u.keep b o e n (fun z => (List.mem_cons.mp (I.stkSub b z)).elim hL hb) hc) (fun b o _ _ hc e n => u.any e n hc) (fun b o hc e n => u.free b o e n hc) (fun b o hc e => u.there b o e hc) u.tups u.frzs u.tbls (fun m' hm => by
    obtain ⟨o', es', ep', ho', r'⟩ := hm
    rw [ho] at ho'; cases ho'
    exact ⟨_, es', ep', hL, r'⟩) hok hg
/-- an untracked record of ours (an iterator) has turned -/
theorem Inv.turned {t' : Nat} {it : Addr} (I : Inv X pins σ H s) (k : ∀ b o, b ≠ it → s.heap.get? b = some o → h'.get? b = some o) (hn : H it = none) (hL : it ≠ X.env.locals)
    (h1 : it ∈ X.ex ∨ X.s₀.heap.objs.size ≤ it) (h2 : ∀ x c, X.env.cells.lookup x = some c → c ≠ it) (h3 : ∀ p ∈ X.pn ++ pins, p.1 ≠ it) : Inv X pins σ H { s with heap := h', toks := t' } := by
  have nit : ∀ b u, H b = some u → b ≠ it := fun b u e z => by rw [z, hn] at e; cases e
  refine I.step (g' := s.gens) (d' := s.drawn) (ch := [it]) (fun b hb => ?_) (fun b o _ _ hc e _ => k b o (fun z => hc (by simp [z])) e) (fun b o _ _ hc e _ => ⟨o.slots, k b o (fun z => hc (by simp [z])) e⟩) (fun _ _ _ _ n => n)
    (fun b o hc e => ⟨o, k b o (fun z => hc (by simp [z])) e⟩) (fun _ _ e => e) (fun _ _ _ e => e) (fun b ps e => ⟨#[], by rw [e]; simp⟩) (fun m hm => ?_) (fun b u e => ?_) I.bare
  · have e : b = it := by simpa using hb
    subst e
    exact ⟨h1, hL, h2, h3⟩
  · obtain ⟨o, es, ep, ho, r⟩ := hm
    exact ⟨o, es, ep, k _ o (Ne.symm hL) ho, r⟩
  · refine (I.hok b u e).stay (fun c v hc q => k c v ?_ q) (fun _ q => q) fun _ _ q => q
    rcases hc with z | z
    · rw [z]; exact nit b u e
    · exact nit c _ z
theorem Inv.tok (I : Inv X pins σ H s) (t : Nat) : Inv X pins σ H { s with toks := t } := I.un (h' := s.heap) (t' := t) Un.refl I.hok
/-- all objects kept -/
theorem Inv.kept {t' : Nat} (I : Inv X pins σ H s) (k : ∀ b u, s.heap.get? b = some u → h'.get? b = some u) : Inv X pins σ H { s with heap := h', toks := t' } := I.un (Un.kept k) (I.hok.kept k)
/-- a new object laid and tracked -/
theorem Inv.laid {a : Addr} {o : HO} {t' : Nat} (I : Inv X pins σ H s) (k : ∀ b u, s.heap.get? b = some u → h'.get? b = some u) (hp : s.heap.objs.size ≤ a) (new : ObjOk X.prog X.w (upd H a o) h' a o) :
    Inv X pins σ (upd H a o) { s with heap := h', toks := t' } := I.un (Un.laid k hp (I.hok.fresh hp)) (I.hok.laid k hp new)
/-- an object written -/
theorem Inv.write {x e : Addr} {o : HO} {t' : Nat} (I : Inv X pins σ H s) (mu : Mut (H x)) (he : e = x ∨ H e = some (.own x)) (k : ∀ b u, b ≠ e → s.heap.get? b = some u → h'.get? b = some u) (heo : ∃ u, h'.get? e = some u)
    (new : ObjOk X.prog X.w (upd H x o) h' x o) : Inv X pins σ (upd H x o) { s with heap := h', toks := t' } := I.un (Un.write mu he k heo) (I.hok.write mu he k heo new)
theorem Inv.pins_of {pins' : List (Addr × Obj)} (I : Inv X pins σ H s) (h : ∀ p ∈ pins', s.heap.get? p.1 = some p.2 ∧ H p.1 = none ∧ p.1 ≠ X.env.locals ∧ p.1 ∉ X.fs ∧ ∀ v, p.2.data ≠ .cell v) : Inv X pins' σ H s :=
  ⟨I.ok, I.os, I.bare, I.base, I.loc, I.cell, I.free, I.freeC, fun p hp => (List.mem_append.mp hp).elim (fun z => I.pin p (List.mem_append_left _ z)) (h p), I.hok, I.len⟩

theorem nodup_ix {N : List Str} (hN : N.Nodup) {i j : Nat} {x : Str} (a : N[i]? = some x) (b : N[j]? = some x) : i = j := by
  obtain ⟨h1, e1⟩ := List.getElem?_eq_some_iff.mp a
  obtain ⟨h2, e2⟩ := List.getElem?_eq_some_iff.mp b
  exact (List.getElem_inj hN).mp (e1.trans e2.symm)

/-- a name is stored; what changed -/
theorem store_ok2 {M : Model} {A : Around} {E : Value → Shared → Prop} {i : Nat} {x : Str} {v : V} {u : Value} {Q : Unit → Shared → Prop} (I : Inv X pins σ H s) (hN : X.N.Nodup) (hi : X.N[i]? = some x) (hx : Loc X.env.scope x) (r : RelV v u)
    (h : ∀ s', Inv X pins (σ.set i (some v)) H s' → (∃ a, Heap.SameBut a s.heap s'.heap ∧ (a = X.env.locals ∨ X.env.cells.lookup x = some a)) → Q () s') (hf : X.fn x = true ∨ X.env.scope.names.lookup x = some .local := by first | exact .inl rfl | exact .inr rfl | assumption) : wpAny M A (storeName X.env x u) Q E s := by
  obtain ⟨m, hn, hl⟩ := id I.loc
  have hcls : (X.env.scope.kind == .class || (X.env.scope.kind == .module && X.env.locals != X.env.globals)) = false := by rw [I.ok.kind]; rfl
  have hiσ : i < σ.length := by rw [I.len]; exact (List.getElem?_eq_some_iff.mp hi).1
  have cne := I.cne
  have tracked : ∀ {a : Addr} {h' : Heap}, (∃ o, s.heap.get? a = some o ∧ H a = none) → Heap.SameBut a s.heap h' → HOk X.prog X.w H h' := fun {a h'} ha hs b ob e => by
    obtain ⟨_, _, hfree⟩ := ha
    refine (I.hok b ob e).stay (fun c w' hc q => (hs.2 c ?_).trans q) (fun _ q => q) fun _ _ q => q
    rintro rfl
    rcases hc with rfl | hc
    · rw [hfree] at e; cases e
    · rw [hfree] at hc; cases hc
  rcases hx with hk | hk
  · refine wpAny_storeName_local hk hn (fun h' hn' hs => ?_) hcls
    obtain ⟨oL, _, _, hoL, _⟩ := id hn
    refine h _ ⟨I.ok, I.os, I.bare, ⟨fun b o e n hb hx => ?_, fun b o e n hb hx => ?_, I.base.free, fun b o e hx => ?_, I.base.tups, I.base.frzs, I.base.tbls⟩, ⟨_, hn', fun j y v' e1 e2 e3 => ?_⟩, fun y c e => ?_, I.free, I.freeC, fun p hp => ?_, tracked ⟨oL, hoL, I.free⟩ hs, by simpa using I.len⟩ ⟨_, hs, .inl rfl⟩
    · exact (hs.2 b (Nat.ne_of_lt (Nat.lt_of_lt_of_le (Heap.lt_size e) I.ok.above))).trans (I.base.keep b o e n hb hx)
    · obtain ⟨sl, e1⟩ := I.base.slot b o e n hb hx
      exact ⟨sl, (hs.2 b (Nat.ne_of_lt (Nat.lt_of_lt_of_le (Heap.lt_size e) I.ok.above))).trans e1⟩
    · obtain ⟨o', e1⟩ := I.base.there b o e hx
      exact ⟨o', (hs.2 b (Nat.ne_of_lt (Nat.lt_of_lt_of_le (Heap.lt_size e) I.ok.above))).trans e1⟩
    · by_cases hj : j = i
      · subst hj
        rw [hi] at e1; cases e1
        rw [List.getElem?_set_self hiσ] at e2
        cases e2
        exact ⟨u, r, .inl ⟨hk, by simp⟩⟩
      · rw [List.getElem?_set_ne (Ne.symm hj)] at e2
        obtain ⟨u', r', q⟩ := hl j y v' e1 e2 e3
        refine ⟨u', r', ?_⟩
        rcases q with ⟨k, e⟩ | ⟨k, c, e, z⟩
        · refine .inl ⟨k, ?_⟩
          have : y ≠ x := fun e => hj (nodup_ix hN e1 (e ▸ hi))
          simp [this, e]
        · exact .inr ⟨k, c, e, z.sameBut hs (cne y c e)⟩
    · obtain ⟨w', z⟩ := I.cell y c e
      exact ⟨w', z.sameBut hs (cne y c e)⟩
    · obtain ⟨e, n, ne, nf, d⟩ := I.pin p hp
      exact ⟨(hs.2 p.1 ne).trans e, n, ne, nf, d⟩
  · have hfn : X.fn x = true := by
      rcases hf with z | z
      · exact z
      · rw [z] at hk; cases hk
    obtain ⟨c, hc⟩ := I.ok.has x (.inl hk)
    obtain ⟨w', z⟩ := I.cell x c hc
    refine wpAny_storeName_cell I.ok.kind hk hc z (fun h' hc' hs => ?_)
    obtain ⟨oc, hoc, hocd⟩ := id z
    refine h { s with heap := h' } ⟨I.ok, I.os, I.bare, ⟨fun b o e n hb hx => ?_, fun b o e n hb hx => ?_, I.base.free, fun b o e hx => ?_, I.base.tups, I.base.frzs, I.base.tbls⟩, ⟨m, hn.sameBut hs (Ne.symm (cne x c hc)), fun j y v' e1 e2 e3 => ?_⟩, fun y c' e => ?_, I.free, I.freeC, fun p hp => ?_, tracked ⟨oc, hoc, I.freeC x c hc⟩ hs, by simpa using I.len⟩ ⟨c, hs, .inr hc⟩
    · exact (hs.2 b (Nat.ne_of_lt (Nat.lt_of_lt_of_le (Heap.lt_size e) (I.ok.cab x c hfn hc)))).trans (I.base.keep b o e n hb hx)
    · obtain ⟨sl, e1⟩ := I.base.slot b o e n hb hx
      exact ⟨sl, (hs.2 b (Nat.ne_of_lt (Nat.lt_of_lt_of_le (Heap.lt_size e) (I.ok.cab x c hfn hc)))).trans e1⟩
    · obtain ⟨o', e1⟩ := I.base.there b o e hx
      exact ⟨o', (hs.2 b (Nat.ne_of_lt (Nat.lt_of_lt_of_le (Heap.lt_size e) (I.ok.cab x c hfn hc)))).trans e1⟩
    · by_cases hj : j = i
      · subst hj
        rw [hi] at e1; cases e1
        rw [List.getElem?_set_self hiσ] at e2
        cases e2
        exact ⟨u, r, .inr ⟨.inl hk, c, hc, hc'⟩⟩
      · rw [List.getElem?_set_ne (Ne.symm hj)] at e2
        obtain ⟨u', r', q⟩ := hl j y v' e1 e2 e3
        refine ⟨u', r', ?_⟩
        rcases q with q | ⟨k, c', e, z'⟩
        · exact .inl q
        · refine .inr ⟨k, c', e, z'.sameBut hs ?_⟩
          rintro rfl
          exact hj (nodup_ix hN e1 (I.ok.inj _ _ _ e hc ▸ hi))
    · by_cases hcc : c' = c
      · subst hcc; exact ⟨_, hc'⟩
      · obtain ⟨w2, z2⟩ := I.cell y c' e
        exact ⟨w2, z2.sameBut hs hcc⟩
    · obtain ⟨e, n, ne, nf, d⟩ := I.pin p hp
      refine ⟨(hs.2 p.1 ?_).trans e, n, ne, nf, d⟩
      intro q
      rw [q, hoc] at e
      have q' : oc = p.2 := Option.some.inj e
      exact d w' (by rw [← q']; exact hocd)
theorem store_ok {M : Model} {A : Around} {E : Value → Shared → Prop} {i : Nat} {x : Str} {v : V} {u : Value} {Q : Unit → Shared → Prop} (I : Inv X pins σ H s) (hN : X.N.Nodup) (hi : X.N[i]? = some x) (hx : Loc X.env.scope x) (r : RelV v u)
    (h : ∀ s', Inv X pins (σ.set i (some v)) H s' → Q () s') (hf : X.fn x = true ∨ X.env.scope.names.lookup x = some .local := by first | exact .inl rfl | exact .inr rfl | assumption) : wpAny M A (storeName X.env x u) Q E s :=
  store_ok2 I hN hi hx r (fun s' I' _ => h s' I') hf
/-- behind a call or a block, the state as it is -/
theorem Inv.call' {s' : Shared} {ch : List Addr} (I : Inv X pins σ H s) (ho : s'.os = s.os) (u : Un (frs X.stack) ch H H' s.heap s'.heap) (hok : HOk X.prog X.w H' s'.heap) (hg : AllBare s'.gens)
    (hch : ∀ b ∈ ch, (b ∈ X.ex ∨ X.s₀.heap.objs.size ≤ b) ∧ b ≠ X.env.locals ∧ (∀ x c, X.env.cells.lookup x = some c → c ≠ b) ∧ ∀ p ∈ X.pn ++ pins, p.1 ≠ b) : Inv X pins σ H' s' := by
  obtain ⟨h', g', d', t', o'⟩ := s'
  have e : o' = s.os := ho
  subst e
  exact I.call (g' := g') (t' := t') (d' := d') u hok hg hch
end

/-! ### the judgements -/
/-- an exception: its class, its own dict's address (where it has one), the abstract heap behind it -/
abbrev XK := Value → Option Addr → Hp → Prop
abbrev St := List (Option V)
abbrev VK := V → Hp → Prop
/-- an expression's reading; a test's; an argument list's -/
abbrev TE := St → Hp → VK → Prop
abbrev TT := St → Hp → (Bool → Hp → Prop) → Prop
abbrev TA := St → Hp → (List V → Hp → Prop) → Prop
/-- what is wanted behind a statement -/
structure Ends where
  nx : St → Hp → Prop
  rt : VK
  bk : St → Hp → Prop := fun _ _ => False
  ct : St → Hp → Prop := fun _ _ => False
abbrev TS := Ends → St → Hp → Prop

def EP (X : Cx) (pins : List (Addr × Obj)) (σ : St) (Q : VK) (u : Value) (s' : Shared) : Prop := ∃ v H', Inv X pins σ H' s' ∧ RelV v u ∧ Q v H'
def TP (X : Cx) (pins : List (Addr × Obj)) (σ : St) (Q : Bool → Hp → Prop) (b : Bool) (s' : Shared) : Prop := ∃ H', Inv X pins σ H' s' ∧ Q b H'
def AP (X : Cx) (pins : List (Addr × Obj)) (σ : St) (Q : List V → Hp → Prop) (us : List Value) (s' : Shared) : Prop := ∃ vs H', Inv X pins σ H' s' ∧ Vals vs us ∧ Q vs H'
def SP (X : Cx) (pins : List (Addr × Obj)) (D : Ends) (f : Flow) (s' : Shared) : Prop :=
  match f with
  | .next => ∃ σ' H', Inv X pins σ' H' s' ∧ D.nx σ' H'
  | .brk => ∃ σ' H', Inv X pins σ' H' s' ∧ D.bk σ' H'
  | .cont => ∃ σ' H', Inv X pins σ' H' s' ∧ D.ct σ' H'
  | .ret u => ∃ v σ' H', Inv X pins σ' H' s' ∧ RelV v u ∧ D.rt v H'

def PE (X : Cx) (e : Expr) (t : TE) : Prop :=
  ∀ (pins : List (Addr × Obj)) (s : Shared) (σ : St) (H : Hp) (Q : VK), Inv X pins σ H s → t σ H Q → wpAny (model X.prog X.w) X.A (eval e X.env) (EP X pins σ Q) X.xe s
def PT (X : Cx) (e : Expr) (t : TT) : Prop :=
  ∀ (pins : List (Addr × Obj)) (s : Shared) (σ : St) (H : Hp) (Q : Bool → Hp → Prop), Inv X pins σ H s → t σ H Q → wpAny (model X.prog X.w) X.A (isTrue e X.env (eval e X.env)) (TP X pins σ Q) X.xe s
/-- a test whatever its 'whole' is (and, or) -/
def PW (X : Cx) (e : Expr) (t : TT) : Prop :=
  ∀ (whole : Sem Value) (pins : List (Addr × Obj)) (s : Shared) (σ : St) (H : Hp) (Q : Bool → Hp → Prop), Inv X pins σ H s → t σ H Q → wpAny (model X.prog X.w) X.A (isTrue e X.env whole) (TP X pins σ Q) X.xe s
theorem PW.pt {X : Cx} {e : Expr} {t : TT} (h : PW X e t) : PT X e t := h _
/-- an argument list (no star), from the left -/
def PA (X : Cx) (es : List Expr) (t : TA) : Prop :=
  ∀ (pos : Pos) (pins : List (Addr × Obj)) (s : Shared) (σ : St) (H : Hp) (Q : List V → Hp → Prop), Inv X pins σ H s → t σ H Q → wpAny (model X.prog X.w) X.A (spliced (backTo pos (starEach es X.env))) (AP X pins σ Q) X.xe s
def PS (X : Cx) (st : Stmt) (t : TS) : Prop :=
  ∀ (pins : List (Addr × Obj)) (s : Shared) (σ : St) (H : Hp) (D : Ends), Inv X pins σ H s → t D σ H → wpAny (model X.prog X.w) X.A (exec st X.env) (SP X pins D) X.xe s
def PSs (X : Cx) (st : List Stmt) (t : TS) : Prop :=
  ∀ (pins : List (Addr × Obj)) (s : Shared) (σ : St) (H : Hp) (D : Ends), Inv X pins σ H s → t D σ H → wpAny (model X.prog X.w) X.A (execs st X.env) (SP X pins D) X.xe s
/-- weaken the end -/
theorem thn {α : Type} {t : Sem α} {Q Q' : α → Shared → Prop} {M : Model} {A : Around} {E : Value → Shared → Prop} {s : Shared} (h : wpAny M A t Q E s) (hQ : ∀ a s, Q a s → Q' a s) : wpAny M A t Q' E s := wpAny_mono h hQ fun _ _ x => x
end L2

namespace L2
open PySem PySem.Spec PyProof.Rows
section
variable {X : Cx}


/-! ### names and constants -/
def tVar (i : Nat) : TE := fun σ H Q => ∃ v, σ[i]? = some (some v) ∧ Q v H
def tC (v : V) : TE := fun _ H Q => Q v H
theorem pe_var {i : Nat} {x : Str} {pos : Pos} (hN : X.N[i]? = some x) (hv : Vis X.env.scope x) (hd : (x == ("__debug__" : Str)) = false := by decide) (hcd : (x == ("__classdict__" : Str)) = false := by decide) : PE X (.Name x pos) (tVar i) := by
  intro pins s σ H Q I h
  obtain ⟨v, e, h⟩ := h
  obtain ⟨m, hn, hl⟩ := I.loc
  obtain ⟨u, r, l⟩ := hl i x v hN e hv
  have fin : EP X pins σ Q u s := ⟨v, H, I, r, h⟩
  rcases l with ⟨hk, hm⟩ | ⟨hk, c, hc, hcell⟩
  · exact wpAny_Name (wpAny_loadName_local I.ok.kind hk hn hm fin) hd
  · rcases hk with hk | hk
    · exact wpAny_Name (wpAny_loadName_cell I.ok.kind hk hc hcell fin) hd
    · exact wpAny_Name (wpAny_loadName_free I.ok.kind hk hc hcell fin hcd) hd
theorem pe_int {i j pos} : PE X (.Constant (.int i) j pos) (tC (.int i)) := fun _ _ _ H _ I h => wpAny_Constant_int ⟨.int i, H, I.tok _, ⟨_, rfl⟩, h⟩
theorem pe_bl {b j pos} : PE X (.Constant (.bool b) j pos) (tC (.bl b)) := fun _ _ _ H _ I h => Constant_bool ⟨.bl b, H, I, rfl, h⟩
theorem pe_str {x j pos} : PE X (.Constant (.str x) j pos) (tC (.str x)) := fun _ _ _ H _ I h => Calls.Constant_str ⟨.str x, H, I.tok _, ⟨_, rfl⟩, h⟩

/-- a global name of the def -/
def Gl (X : Cx) (x : Str) : Prop := X.env.kindOf x = some .globalImplicit
theorem ld_glob {E : Value → Shared → Prop} {pins : List (Addr × Obj)} {s : Shared} {σ : St} {H : Hp} {x : Str} {u : Value} {pos : Pos} {Q : Value → Shared → Prop} (I : Inv X pins σ H s) (hg : Gl X x) (hm : X.mg x = some u) (h : Q u s)
    (hd : (x == ("__debug__" : Str)) = false := by decide) : wpAny (model X.prog X.w) X.A (eval (.Name x pos) X.env) Q E s :=
  Calls.Name_function_global I.ok.kind hg (Calls.loadGlobal_global (by rw [I.ok.glob]; exact I.mod.glob.keeps I.bk) hm h) hd
theorem ld_blt {E : Value → Shared → Prop} {pins : List (Addr × Obj)} {s : Shared} {σ : St} {H : Hp} {x : Str} {u : Value} {pos : Pos} {Q : Value → Shared → Prop} (I : Inv X pins σ H s) (hg : Gl X x) (hm : X.mg x = none) (hv : bootBuiltins x = some u) (h : Q u s)
    (hn : x ≠ "__name__" := by decide) (hd : (x == ("__debug__" : Str)) = false := by decide) : wpAny (model X.prog X.w) X.A (eval (.Name x pos) X.env) Q E s := by
  obtain ⟨mb, h1, h2⟩ := I.mod.blt
  exact Calls.Name_function_global I.ok.kind hg (Calls.loadGlobal_builtin (by rw [I.ok.glob]; exact I.mod.glob.keeps I.bk) hm (by rw [I.ok.blt]; exact h1.keeps I.bk) ((h2 x hn).trans hv) h) hd
/-- a module's constant, a class, a function, as a value -/
theorem pe_glob {x : Str} {v : V} {u : Value} {pos : Pos} (hg : Gl X x) (hm : X.mg x = some u) (r : RelV v u) (hd : (x == ("__debug__" : Str)) = false := by decide) : PE X (.Name x pos) (tC v) :=
  fun _ _ _ H _ I h => ld_glob I hg hm ⟨v, H, I, r, h⟩ hd
theorem pe_bltn {x : Str} {v : V} {u : Value} {pos : Pos} (hg : Gl X x) (hm : X.mg x = none) (hv : bootBuiltins x = some u) (r : RelV v u) (hn : x ≠ "__name__" := by decide) (hd : (x == ("__debug__" : Str)) = false := by decide) : PE X (.Name x pos) (tC v) :=
  fun _ _ _ H _ I h => ld_blt I hg hm hv ⟨v, H, I, r, h⟩ hn hd

/-! ### arithmetic -/
variable {a b : Expr} {ta tb : TE} {pos : Pos}

/-! ### comparisons -/
/-- a comparison as a value, as a test -/
def tB (t : TE) : TT := fun σ H Q => t σ H fun x H1 => ∃ c, x = .bl c ∧ Q c H1
/-- an expression whose value is a bool, as a test -/
theorem pt_val {e : Expr} {t : TE} (h : PE X e t) (he : ∀ whole, isTrue e X.env whole = (do let v ← whole; standAt e.pos; holding [v] (truthy v)) := by intro _; rfl) : PT X e (tB t) := by
  intro pins s σ H Q I hw
  refine isTrue_plain (thn (h pins s σ H _ I hw) fun v s1 ⟨x, H1, I1, r1, q1⟩ => ?_) (he _)
  obtain ⟨d, rfl, q⟩ := q1
  cases r1
  exact wpAny_truthy_bool ⟨H1, I1, q⟩

/-! ### and, or, not -/
variable {tA tB' : TT} {rest : List Expr}
def tAnd (t u : TT) : TT := fun σ H Q => t σ H fun c H1 => if c = true then u σ H1 Q else Q false H1
def tOr (t u : TT) : TT := fun σ H Q => t σ H fun c H1 => if c = true then Q true H1 else u σ H1 Q
def tNot (t : TT) : TT := fun σ H Q => t σ H fun c H1 => Q (!c) H1
theorem pw_and1 (ha : PT X a tA) : PW X (.BoolOp .And [a] pos) tA := by
  intro wh pins s σ H Q I h
  refine isTrue_and (thn (ha pins s σ H Q I h) fun c s1 e => ?_)
  cases c with
  | true => exact isTrue_and_nil e
  | false => exact e
theorem pw_or1 (ha : PT X a tA) : PW X (.BoolOp .Or [a] pos) tA := by
  intro wh pins s σ H Q I h
  refine isTrue_or (thn (ha pins s σ H Q I h) fun c s1 e => ?_)
  cases c with
  | false => exact isTrue_or_nil e
  | true => exact e
theorem pw_and (ha : PT X a tA) (hb : PW X (.BoolOp .And (b :: rest) pos) tB') : PW X (.BoolOp .And (a :: b :: rest) pos) (tAnd tA tB') := by
  intro wh pins s σ H Q I h
  refine isTrue_and (thn (ha pins s σ H _ I h) fun c s1 hh => ?_)
  obtain ⟨H1, I1, q1⟩ := hh
  cases c with
  | true => exact hb wh pins s1 σ H1 Q I1 q1
  | false => exact ⟨H1, I1, q1⟩
theorem pw_or (ha : PT X a tA) (hb : PW X (.BoolOp .Or (b :: rest) pos) tB') : PW X (.BoolOp .Or (a :: b :: rest) pos) (tOr tA tB') := by
  intro wh pins s σ H Q I h
  refine isTrue_or (thn (ha pins s σ H _ I h) fun c s1 hh => ?_)
  obtain ⟨H1, I1, q1⟩ := hh
  cases c with
  | true => exact ⟨H1, I1, q1⟩
  | false => exact hb wh pins s1 σ H1 Q I1 q1
theorem pt_not (ha : PT X a tA) : PT X (.UnaryOp .Not a pos) (tNot tA) := by
  intro pins s σ H Q I h
  exact isTrue_not (ha pins s σ H (fun c H1 => Q (!c) H1) I h)
/-- .. as values (bools) -/
def tAndV (ta tb : TE) : TE := fun σ H Q => ta σ H fun x H1 => ∃ c, x = .bl c ∧ if c = true then tb σ H1 Q else Q (.bl false) H1
def tNotV (ta : TE) : TE := fun σ H Q => ta σ H fun x H1 => ∃ c, x = .bl c ∧ Q (.bl (!c)) H1
theorem pe_one {op} {t : TE} (h : PE X a t) : PE X (.BoolOp op [a] pos) t := fun pins s σ H Q I hw => BoolOp_one (h pins s σ H Q I hw)
theorem pe_and (ha : PE X a ta) (hb : PE X (.BoolOp .And (b :: rest) pos) tb) : PE X (.BoolOp .And (a :: b :: rest) pos) (tAndV ta tb) := by
  intro pins s σ H Q I h
  refine BoolOp_and (thn (ha pins s σ H _ I h) fun v s1 hh => ?_)
  obtain ⟨x, H1, I1, r1, q1⟩ := hh
  obtain ⟨c, rfl, q1⟩ := q1
  cases r1
  refine wpAny_truthy_bool ?_
  cases c with
  | true => exact hb pins s1 σ H1 Q I1 q1
  | false => exact ⟨.bl false, H1, I1, rfl, q1⟩
theorem pe_not (ha : PE X a ta) : PE X (.UnaryOp .Not a pos) (tNotV ta) := by
  intro pins s σ H Q I h
  refine UnaryOp_ (thn (ha pins s σ H _ I h) fun v s1 hh => ?_)
  obtain ⟨x, H1, I1, r1, q1⟩ := hh
  obtain ⟨c, rfl, q1⟩ := q1
  cases r1
  exact not_of (wpAny_truthy_bool ⟨.bl (!c), H1, I1, rfl, q1⟩)
end
end L2

namespace L2
open PySem PySem.Spec PyProof.Rows

/-! ### a list, a tuple that is read: tracked, frozen, or an object of the module -/
def SqL (K : PySem.W.Frag) (H : Hp) (a : Addr) (xs : List V) : Prop :=
  Rd H a (.lst xs) ∨
    ∃ (o : Obj) (its : Array Value) (n : Nat), K.lookup a = some o ∧ o.cls = .type "list" ∧ o.dict = none ∧ o.data = .seq its n ∧ its.size ≤ sizeLine ∧ Vals xs its.toList
def SqT (K : PySem.W.Frag) (H : Hp) (a : Addr) (xs : List V) : Prop :=
  Rd H a (.tup xs) ∨
    ∃ (o : Obj) (its : Array Value) (n : Nat), K.lookup a = some o ∧ o.cls = .type "tuple" ∧ o.data = .seq its n ∧ its.size ≤ sizeLine ∧ Vals xs its.toList
def absV : Value → Option V
  | .none => some .non
  | .bool b => some (.bl b)
  | .int i _ => some (.int i)
  | .str x _ => some (.str x)
  | .bytes b _ => some (.byt b)
  | .float b _ => some (.flt b)
  | .ref a => some (.ref a)
  | .type n => some (.ty n)
  | _ => none
theorem RelV.abs {x : V} {u : Value} (r : RelV x u) : absV u = some x := by
  cases x with
  | non => cases r; rfl
  | bl _ => cases r; rfl
  | int _ => obtain ⟨t, rfl⟩ := r; rfl
  | str _ => obtain ⟨t, rfl⟩ := r; rfl
  | byt _ => obtain ⟨t, rfl⟩ := r; rfl
  | flt _ => obtain ⟨t, rfl⟩ := r; rfl
  | ref _ => cases r; rfl
  | ty _ => cases r; rfl
theorem RelV.inj {x y : V} {u : Value} (r : RelV x u) (q : RelV y u) : x = y := Option.some.inj (r.abs.symm.trans q.abs)
theorem Vals.inj : ∀ {xs ys : List V} {us : List Value}, Vals xs us → Vals ys us → xs = ys
  | _, _, _, .nil, .nil => rfl
  | _, _, _, .cons r t, .cons r' t' => by rw [r.inj r', Vals.inj t t']
section
variable {X : Cx} {pins : List (Addr × Obj)} {σ : St} {H : Hp} {s : Shared} {a : Addr} {xs ys : List V}
theorem SqL.of {K : PySem.W.Frag} (h : H a = some (.lst xs)) : SqL K H a xs := .inl (.inl h)
theorem SqT.of {K : PySem.W.Frag} (h : H a = some (.tup xs)) : SqT K H a xs := .inl (.inl h)
theorem Inv.list (I : Inv X pins σ H s) (h : SqL X.K H a xs) : ∃ its : List Value, Vals xs its ∧ PlainL s.heap a its.toArray ∧ xs.length ≤ sizeLine := by
  rcases h with h | ⟨o, its, n, hk, hc, hd, hs, hz, r⟩
  · obtain ⟨z, its, n, r, e⟩ := h.ok I.hok
    exact ⟨its, r, ⟨_, n, e, rfl, rfl, rfl⟩, z⟩
  · refine ⟨its.toList, r, ⟨o, n, I.kIn a o hk, hc, hd, by simpa using hs⟩, ?_⟩
    have e := r.length
    simp only [Array.length_toList] at e
    omega
theorem Inv.tuple (I : Inv X pins σ H s) (h : SqT X.K H a xs) : ∃ its : List Value, Vals xs its ∧ IsTup s.heap a its.toArray ∧ xs.length ≤ sizeLine := by
  rcases h with h | ⟨o, its, n, hk, hc, hs, hz, r⟩
  · obtain ⟨z, its, r, p⟩ := h.ok I.hok
    exact ⟨its, r, p, z⟩
  · refine ⟨its.toList, r, ⟨o, I.kIn a o hk, hc, n, by simpa using hs⟩, ?_⟩
    have e := r.length
    simp only [Array.length_toList] at e
    omega
theorem Inv.list_inj (I : Inv X pins σ H s) (h : SqL X.K H a xs) (h' : SqL X.K H a ys) : xs = ys := by
  obtain ⟨its, r, ⟨o, n, e, _, _, d⟩, _⟩ := I.list h
  obtain ⟨its', r', ⟨o', n', e', _, _, d'⟩, _⟩ := I.list h'
  rw [e] at e'; cases e'
  rw [d] at d'
  injection d' with d1 _
  have : its = its' := by simpa using congrArg Array.toList d1
  subst this
  exact r.inj r'
theorem Inv.tuple_inj (I : Inv X pins σ H s) (h : SqT X.K H a xs) (h' : SqT X.K H a ys) : xs = ys := by
  obtain ⟨its, r, ⟨o, e, _, n, d⟩, _⟩ := I.tuple h
  obtain ⟨its', r', ⟨o', e', _, n', d'⟩, _⟩ := I.tuple h'
  rw [e] at e'; cases e'
  rw [d] at d'
  injection d' with d1 _
  have : its = its' := by simpa using congrArg Array.toList d1
  subst this
  exact r.inj r'
end

/-! ### another wish about exceptions -/
abbrev Cx.wish (X : Cx) (E : Value → Shared → Prop) : Cx := { X with xe := E }
/-- no exception leaves -/
abbrev Cx.nox (X : Cx) : Cx := X.wish fun _ _ => False
theorem Cx.Ok.wish {X : Cx} (ok : X.Ok) (E : Value → Shared → Prop) : (X.wish E).Ok :=
  ⟨ok.mod, ok.kind, ok.glob, ok.blt, ok.above, ok.inj, ok.has, ok.cab, ok.hd, ok.frames, ok.stk, ok.exf, ok.bs, ok.bsz, ok.noex, ok.exfs, ok.funs, ok.frf, ok.tb⟩
theorem Cx.Ok.unwish {X : Cx} {E : Value → Shared → Prop} (ok : (X.wish E).Ok) : X.Ok :=
  ⟨ok.mod, ok.kind, ok.glob, ok.blt, ok.above, ok.inj, ok.has, ok.cab, ok.hd, ok.frames, ok.stk, ok.exf, ok.bs, ok.bsz, ok.noex, ok.exfs, ok.funs, ok.frf, ok.tb⟩
section
variable {X : Cx} {pins : List (Addr × Obj)} {σ : St} {H : Hp} {s : Shared} {E : Value → Shared → Prop}
theorem Inv.wish (I : Inv X pins σ H s) (E : Value → Shared → Prop) : Inv (X.wish E) pins σ H s := ⟨I.ok.wish E, I.os, I.bare, I.base, I.loc, I.cell, I.free, I.freeC, I.pin, I.hok, I.len⟩
theorem Inv.unwish (I : Inv (X.wish E) pins σ H s) : Inv X pins σ H s := ⟨I.ok.unwish, I.os, I.bare, I.base, I.loc, I.cell, I.free, I.freeC, I.pin, I.hok, I.len⟩
theorem SP.unwish {D : Ends} {f : Flow} {s' : Shared} (h : SP (X.wish E) pins D f s') : SP X pins D f s' := by
  cases f with
  | next => obtain ⟨σ', H', I, q⟩ := h; exact ⟨σ', H', I.unwish, q⟩
  | brk => obtain ⟨σ', H', I, q⟩ := h; exact ⟨σ', H', I.unwish, q⟩
  | cont => obtain ⟨σ', H', I, q⟩ := h; exact ⟨σ', H', I.unwish, q⟩
  | ret u => obtain ⟨v, σ', H', I, r, q⟩ := h; exact ⟨v, σ', H', I.unwish, r, q⟩
theorem PE.nox {e : Expr} {t : TE} (h : PE X.nox e t) : PE X e t := fun pins s σ H Q I hw =>
  wpAny_mono (h pins s σ H Q (I.wish _) hw) (fun _ _ ⟨v, H', I', r, q⟩ => ⟨v, H', I'.unwish, r, q⟩) fun _ _ z => False.elim z
theorem PT.nox {e : Expr} {t : TT} (h : PT X.nox e t) : PT X e t := fun pins s σ H Q I hw =>
  wpAny_mono (h pins s σ H Q (I.wish _) hw) (fun _ _ ⟨H', I', q⟩ => ⟨H', I'.unwish, q⟩) fun _ _ z => False.elim z
theorem PSs.nox {st : List Stmt} {t : TS} (h : PSs X.nox st t) : PSs X st t := fun pins s σ H D I hw =>
  wpAny_mono (h pins s σ H D (I.wish _) hw) (fun _ _ q => q.unwish) fun _ _ z => False.elim z
end

/-! ### blocks and small statements -/
section
variable {X : Cx} {st : Stmt} {rest : List Stmt} {t u : TS} {e : Expr} {te : TE} {pos : Pos}
def tNext : TS := fun D σ H => D.nx σ H
def tSeq (t u : TS) : TS := fun D σ H => t { D with nx := u D } σ H
theorem pss_nil : PSs X [] tNext := fun _ _ σ H _ I h => wpAny_execs_nil ⟨σ, H, I, h⟩
theorem pss_cons (h1 : PS X st t) (h2 : PSs X rest u) : PSs X (st :: rest) (tSeq t u) := by
  intro pins s σ H D I h
  refine wpAny_execs_cons (thn (h1 pins s σ H { D with nx := u D } I h) fun f s1 q => ?_)
  cases f with
  | next =>
    obtain ⟨σ', H', I', q⟩ := q
    exact h2 pins s1 σ' H' D I' q
  | ret v => exact q
  | brk => exact q
  | cont => exact q
theorem pss_one (h1 : PS X st t) : PSs X [st] t := by
  intro pins s σ H D I h
  refine wpAny_execs_cons (thn (h1 pins s σ H D I h) fun f s1 q => ?_)
  cases f with
  | next => exact wpAny_execs_nil q
  | ret v => exact q
  | brk => exact q
  | cont => exact q
/-- in a def's body nothing is shown -/
theorem Inv.quiet {pins : List (Addr × Obj)} {σ : St} {H : Hp} {s : Shared} (I : Inv X pins σ H s) : interactive X.env = false := by simp [interactive, I.ok.kind]
/-- an expression whose value is dropped -/
def tDrop (te : TE) : TS := fun D σ H => te σ H fun _ H1 => D.nx σ H1
theorem ps_expr (he : PE X e te) (hs : swapsWith e none pos.line X.env = pure false := by rfl) : PS X (.Expr e pos) (tDrop te) := by
  intro pins s σ H D I h
  exact wpAny_Expr_any (thn (he pins s σ H _ I h) fun v s1 ⟨x, H1, I1, r1, q1⟩ => ⟨σ, H1, I1, q1⟩) I.quiet hs
def tRet (te : TE) : TS := fun D σ H => te σ H D.rt
theorem ps_ret (he : PE X e te) : PS X (.Return (some e) pos) (tRet te) := by
  intro pins s σ H D I h
  exact wpAny_Return_some (thn (he pins s σ H _ I h) fun v s1 ⟨x, H1, I1, r1, q1⟩ => ⟨x, σ, H1, I1, r1, q1⟩)
def tIfS (c : TT) (t u : TS) : TS := fun D σ H => c σ H fun b H1 => if b = true then t D σ H1 else u D σ H1
theorem ps_if {c : Expr} {a b : List Stmt} {tc : TT} (hc : PT X c tc) (ha : PSs X a t) (hb : PSs X b u) : PS X (.If c a b pos) (tIfS tc t u) := by
  intro pins s σ H D I h
  refine wpAny_If (thn (hc pins s σ H _ I h) fun d s1 hh => ?_)
  obtain ⟨H1, I1, q1⟩ := hh
  cases d with
  | true => exact ha pins s1 σ H1 D I1 q1
  | false => exact hb pins s1 σ H1 D I1 q1
/-- code that the proof never comes to -/
def tNever : TS := fun _ _ _ => False
theorem ps_never : PS X st tNever := fun _ _ _ _ _ _ h => h.elim
end

/-! ### targets -/
abbrev TG := V → St → Hp → (St → Hp → Prop) → Prop
abbrev TGs := List V → St → Hp → (St → Hp → Prop) → Prop
def PG (X : Cx) (target : Expr) (t : TG) : Prop :=
  ∀ (pins : List (Addr × Obj)) (s : Shared) (σ : St) (H : Hp) (v : V) (u : Value) (Q : St → Hp → Prop), Inv X pins σ H s → RelV v u → t v σ H Q →
    wpAny (model X.prog X.w) X.A (assign target X.env u) (fun _ s' => ∃ σ' H', Inv X pins σ' H' s' ∧ Q σ' H') X.xe s
/-- several targets, one after another -/
def PGs (X : Cx) (ts : List Expr) (t : TGs) : Prop :=
  ∀ (pins : List (Addr × Obj)) (s : Shared) (σ : St) (H : Hp) (vs : List V) (us : List Value) (Q : St → Hp → Prop), Inv X pins σ H s → Vals vs us → t vs σ H Q →
    wpAny (model X.prog X.w) X.A (assignInOrder ((assignEach ts X.env).map (·.2)) us) (fun _ s' => ∃ σ' H', Inv X pins σ' H' s' ∧ Q σ' H') X.xe s
/-- a op= b, by values -/
abbrev TIp := V → V → Hp → VK → Prop
def PIp (X : Cx) (op : Operator) (t : TIp) : Prop :=
  ∀ (pins : List (Addr × Obj)) (s : Shared) (σ : St) (H : Hp) (x y : V) (v u : Value) (Q : VK), Inv X pins σ H s → RelV x v → RelV y u → t x y H Q →
    wpAny (model X.prog X.w) X.A (inplaceOp op v u) (EP X pins σ Q) X.xe s
section
variable {X : Cx} {pos : Pos}
def gName (i : Nat) : TG := fun v σ H Q => Q (σ.set i (some v)) H
theorem pg_name {i : Nat} {x : Str} (hN : X.N.Nodup) (hi : X.N[i]? = some x) (hx : Loc X.env.scope x) (hf : X.fn x = true ∨ X.env.scope.names.lookup x = some .local := by first | exact .inl rfl | exact .inr rfl | assumption) : PG X (.Name x pos) (gName i) := by
  intro pins s σ H v u Q I r h
  exact wpAny_assign_Name (store_ok I hN hi hx r (fun s' I' => ⟨_, H, I', h⟩) hf)
def gNil : TGs := fun vs σ H Q => vs = [] ∧ Q σ H
def gCons (t : TG) (u : TGs) : TGs := fun vs σ H Q => ∃ v r, vs = v :: r ∧ t v σ H fun σ' H' => u r σ' H' Q
theorem pgs_nil : PGs X [] gNil := by
  intro pins s σ H vs us Q I r h
  obtain ⟨e, h⟩ := h
  subst e
  cases r
  exact assignInOrder_nil ⟨σ, H, I, h⟩
theorem pgs_cons {e : Expr} {es : List Expr} {t : TG} {u : TGs} (h1 : PG X e t) (h2 : PGs X es u)
    (hs : (assignEach (e :: es) X.env).map (·.2) = assign e X.env :: (assignEach es X.env).map (·.2) := by rfl) : PGs X (e :: es) (gCons t u) := by
  intro pins s σ H vs us Q I r h
  obtain ⟨v, vr, e1, h⟩ := h
  subst e1
  cases r with
  | cons r rr =>
    rw [hs]
    refine assignInOrder_cons (thn (h1 pins s σ H _ _ _ I r h) fun _ s1 hh => ?_)
    obtain ⟨σ1, H1, I1, q1⟩ := hh
    exact h2 pins s1 σ1 H1 _ _ Q I1 rr q1
/-- (a, b, ..) = a tuple of that length -/
def gTup (K : PySem.W.Frag) (n : Nat) (t : TGs) : TG := fun v σ H Q => ∃ a xs, v = .ref a ∧ SqT K H a xs ∧ xs.length = n ∧ t xs σ H Q
theorem pg_tup {es : List Expr} {k : Nat} {t : TGs} {n : Nat} (hc : X.calm = true) (h : PGs X es t)
    (hn : (assignEach es X.env).length = n := by rfl) (hst : (assignEach es X.env).findIdx? (·.1) = none := by rfl) : PG X (.Tuple es k pos) (gTup X.K n t) := by
  intro pins s σ H v u Q I r hw
  obtain ⟨a, xs, e1, hq, hl, hw⟩ := hw
  subst e1
  cases r
  obtain ⟨its, rv, ht, hz⟩ := I.tuple hq
  refine assign_Tuple_tuple (I.ok.hd hc) ht (by simp [hn, ← hl, rv.length]) hst fun h' hx => ?_
  have I1 : Inv X pins σ H { s with heap := h' } := I.kept (t' := s.toks) fun b o e => hx b o (Nat.ne_of_lt (Heap.lt_size e)) e
  exact h pins _ σ H xs _ Q I1 (by simpa using rv) hw
/-- target = value -/
def tAsg (te : TE) (g : TG) : TS := fun D σ H => te σ H fun x H1 => g x σ H1 D.nx
/-- name = value -/
theorem ps_set {i : Nat} {x : Str} {e : Expr} {te : TE} {pos' : Pos} (hN : X.N.Nodup) (hi : X.N[i]? = some x) (hx : Loc X.env.scope x) (he : PE X e te) (hs : swapsWith e (some (.Name x pos')) pos.line X.env = pure false := by rfl) (hf : X.fn x = true ∨ X.env.scope.names.lookup x = some .local := by first | exact .inl rfl | exact .inr rfl | assumption) :
    PS X (.Assign [.Name x pos'] e pos) (tAsg te (gName i)) := by
  intro pins s σ H D I h
  refine wpAny_Assign_Name (thn (he pins s σ H _ I h) fun v s1 ⟨y, H1, I1, r1, q1⟩ => ?_) hs
  exact store_ok I1 hN hi hx r1 (fun s2 I2 => ⟨_, H1, I2, q1⟩) hf
/-- name op= e -/
def tAug (i : Nat) (te : TE) (ti : TIp) : TS := fun D σ H => ∃ x, σ[i]? = some (some x) ∧ te σ H fun y H1 => ti x y H1 fun z H2 => D.nx (σ.set i (some z)) H2
theorem ps_aug {i : Nat} {x : Str} {e : Expr} {te : TE} {op : Operator} {ti : TIp} {pos' : Pos} (hN : X.N.Nodup) (hi : X.N[i]? = some x) (hx : Loc X.env.scope x) (he : PE X e te) (ho : PIp X op ti) (hf : X.fn x = true ∨ X.env.scope.names.lookup x = some .local := by first | exact .inl rfl | exact .inr rfl | assumption) :
    PS X (.AugAssign (.Name x pos') op e pos) (tAug i te ti) := by
  intro pins s σ H D I h
  obtain ⟨v, e1, h⟩ := h
  obtain ⟨m, hn, hl⟩ := I.loc
  have vis : Vis X.env.scope x := by rcases hx with k | k; exact .inl k; exact .inr (.inl k)
  obtain ⟨u, r, l⟩ := hl i x v hi e1 vis
  refine wpAny_AugAssign_Name ?_
  have go : wpAny (model X.prog X.w) X.A (eval e X.env) (fun w s₂ => wpAny (model X.prog X.w) X.A (inplaceOp op u w) (fun r s₃ => wpAny (model X.prog X.w) X.A (storeName X.env x r) (fun _ => SP X pins D .next) X.xe s₃) X.xe s₂) X.xe s := by
    refine thn (he pins s σ H _ I h) fun w s1 hh => ?_
    obtain ⟨y, H1, I1, r1, q1⟩ := hh
    refine thn (ho pins s1 σ H1 v y u w _ I1 r r1 q1) fun z s2 hh => ?_
    obtain ⟨zv, H2, I2, r2, q2⟩ := hh
    exact store_ok I2 hN hi hx r2 (fun s3 I3 => ⟨_, H2, I3, q2⟩) hf
  rcases l with ⟨hk, hm⟩ | ⟨hk, c, hc, hcell⟩
  · exact wpAny_loadName_local I.ok.kind hk hn hm go
  · rcases hk with hk | hk
    · exact wpAny_loadName_cell I.ok.kind hk hc hcell go
    · rcases hx with k | k
      · have : X.env.scope.names.lookup x = some .free := hk
        rw [k] at this; cases this
      · have : X.env.scope.names.lookup x = some .free := hk
        rw [k] at this; cases this
/-- ints -/
def ipI (f : Int → Int → Int) : TIp := fun x y H Q => ∃ i j, x = .int i ∧ y = .int j ∧ Q (.int (f i j)) H
theorem ip_add : PIp X .Add (ipI fun i j => i + j) := by
  intro pins s σ H x y v u Q I r1 r2 h
  obtain ⟨i, j, e1, e2, q⟩ := h
  subst e1; subst e2
  obtain ⟨t, rfl⟩ := r1
  obtain ⟨t', rfl⟩ := r2
  exact iadd_int ⟨.int _, H, I.tok _, ⟨_, rfl⟩, q⟩
end

/-! ### while -/
section
variable {X : Cx} {pos : Pos}
/-- the invariant W with its measure -/
def tWhile (c : TT) (tb : TS) : TS := fun D σ H => ∃ W : Nat → St → Hp → Prop, (∃ m, W m σ H) ∧ ∀ m σ H, W m σ H →
  c σ H fun b H1 => if b = true then ∃ N : St → Hp → Prop, (∀ σ' H', N σ' H' → ∃ m', m' < m ∧ W m' σ' H') ∧ tb { D with nx := N, ct := N, bk := D.nx } σ H1 else D.nx σ H1
theorem ps_while {c : Expr} {body : List Stmt} {tc : TT} {tb : TS} (hp : PassesOwn (model X.prog X.w) X.A X.env X.xe) (hc : PT X c tc) (hb : PSs X body tb) : PS X (.While c body [] pos) (tWhile tc tb) := by
  intro pins s σ H D I h
  obtain ⟨W, ⟨m0, w0⟩, turn⟩ := h
  refine wpAny_While (codeAny_whileLoop (fun n s' => ∃ σ' H', Inv X pins σ' H' s' ∧ W n σ' H') ?_ m0 ⟨σ, H, I, w0⟩)
  rintro n s1 ⟨σ1, H1, I1, w1⟩
  refine wpAny_passesOwn hp (thn (hc pins s1 σ1 H1 _ I1 (turn n σ1 H1 w1)) fun b s2 hh => ?_)
  obtain ⟨H2, I2, q2⟩ := hh
  cases b with
  | true =>
    obtain ⟨N, hN, q2⟩ := q2
    rw [if_pos rfl]
    refine wpAny_passesOwn hp (thn (hb pins s2 σ1 H2 _ I2 q2) fun f s3 q3 => ?_)
    cases f with
    | next =>
      obtain ⟨σ3, H3, I3, n3⟩ := q3
      obtain ⟨m', hm, w3⟩ := hN σ3 H3 n3
      exact ⟨m', hm, σ3, H3, I3, w3⟩
    | cont =>
      obtain ⟨σ3, H3, I3, n3⟩ := q3
      obtain ⟨m', hm, w3⟩ := hN σ3 H3 n3
      exact ⟨m', hm, σ3, H3, I3, w3⟩
    | brk => exact q3
    | ret v => exact q3
  | false =>
    rw [if_neg Bool.false_ne_true]
    exact wpAny_execs_nil ⟨σ1, H2, I2, q2⟩
end

/-! ### what a loop or a comprehension walks -/
/-- at turn i: it yields x (the heap may grow), or it stops -/
structure It where
  go : Nat → Hp → Prop
  yld : Nat → Hp → V → Hp → Prop
  stop : Nat → Hp → Prop
/-- the iterator's own objects may turn: they are not the frame's, not pinned, younger than the entry (or a comprehension's own) -/
def FpOk (X : Cx) (pins : List (Addr × Obj)) (H : Hp) (b : Addr) : Prop :=
  H b = none ∧ b ≠ X.env.locals ∧ b ∉ X.fs ∧ (b ∈ X.ex ∨ X.s₀.heap.objs.size ≤ b) ∧ (∀ x c, X.env.cells.lookup x = some c → c ≠ b) ∧ ∀ p ∈ X.pn ++ pins, p.1 ≠ b
theorem Inv.fpOk {X : Cx} {pins : List (Addr × Obj)} {σ : St} {H H' : Hp} {s : Shared} {b : Addr} (I : Inv X pins σ H s) (hb : s.heap.objs.size ≤ b) (hn : H' b = none) : FpOk X pins H' b := by
  refine ⟨hn, Nat.ne_of_gt (Nat.lt_of_lt_of_le I.lt hb), I.nofs hb, .inr (Nat.le_trans I.sz hb), fun x c e z => ?_, fun p hp z => ?_⟩
  · obtain ⟨v, q⟩ := I.cell x c e
    exact absurd (Nat.lt_of_lt_of_le q.lt (by rw [z]; exact hb)) (Nat.lt_irrefl _)
  · exact absurd (Nat.lt_of_lt_of_le (Heap.lt_size (I.pin p hp).1) (by rw [z]; exact hb)) (Nat.lt_irrefl _)
structure Turn (P : Program) (w : World) (K : PySem.W.Frag) (tg : Expr) (J : It) (fp : List Addr) (it : Addr) (tn : Nat → Heap → Prop) : Prop where
  mem : it ∈ fp
  obj : ∀ i h, tn i h → ∀ b ∈ fp, ∃ o, h.get? b = some o ∧ ∀ v, o.data ≠ .cell v
  keep : ∀ i h h', tn i h → (∀ b ∈ fp, ∀ o, h.get? b = some o → h'.get? b = some o) → tn i h'
  item : ∀ (X : Cx), X.prog = P → X.w = w → X.K = K → X.calm = true → ∀ (i : Nat) (pins : List (Addr × Obj)) (s : Shared) (σ : St) (H : Hp) (E : Value → Shared → Prop), Inv X pins σ H s → (∀ b ∈ fp, FpOk X pins H b) → tn i s.heap → J.go i H →
    wpAny (model P w) X.A (pyNext (.ref it)) (fun r s1 => ∃ u, r = some u ∧
      wpAny (model P w) X.A (letOwnedTupleGo tg (.ref it) u) (fun _ s2 => ∃ x H', Inv X pins σ H' s2 ∧ RelV x u ∧ J.yld i H x H' ∧ tn (i + 1) s2.heap ∧ ∀ b ∈ fp, H' b = none) E s1) E s
  done : ∀ (X : Cx), X.prog = P → X.w = w → X.K = K → X.calm = true → ∀ (i : Nat) (pins : List (Addr × Obj)) (s : Shared) (σ : St) (H : Hp) (E : Value → Shared → Prop), Inv X pins σ H s → (∀ b ∈ fp, FpOk X pins H b) → tn i s.heap → J.stop i H →
    wpAny (model P w) X.A (pyNext (.ref it)) (fun r s1 => r = none ∧ Inv X pins σ H s1) E s
  self : ∀ (A : Around) (i : Nat) (s : Shared) (Q : Value → Shared → Prop) (E : Value → Shared → Prop), tn i s.heap → Q (.ref it) s → wpAny (model P w) A (pyIter (.ref it)) Q E s
abbrev TI := St → Hp → (It → Hp → Prop) → Prop
/-- an iterator has come -/
def PIE (X : Cx) (pins : List (Addr × Obj)) (σ : St) (tg : Expr) (R : It → Hp → Prop) (itv : Value) (s2 : Shared) : Prop :=
  ∃ (it : Addr) (fp : List Addr) (tn : Nat → Heap → Prop) (J : It) (H' : Hp), itv = .ref it ∧ Inv X pins σ H' s2 ∧ Turn X.prog X.w X.K tg J fp it tn ∧ tn 0 s2.heap ∧ (∀ b ∈ fp, FpOk X pins H' b) ∧ R J H'
def PI (X : Cx) (tg iter : Expr) (wi : TI) : Prop :=
  ∀ (pins : List (Addr × Obj)) (s : Shared) (σ : St) (H : Hp) (R : It → Hp → Prop), Inv X pins σ H s → wi σ H R →
    wpAny (model X.prog X.w) X.A (eval iter X.env) (fun v s1 => wpAny (model X.prog X.w) X.A (pyIter v) (PIE X pins σ tg R) X.xe s1) X.xe s

/-- the step ahead of the store is nothing for an iterator that keeps no tuple -/
theorem go_of {M : Model} {A : Around} {E : Value → Shared → Prop} {s : Shared} {tg : Expr} {it : Addr} {u : Value} {o : Obj} {n : String} {vs : Array Value} {Q : Unit → Shared → Prop} (ho : s.heap.get? it = some o) (hc : o.cls = .type n) (hd : o.data = .fields vs)
    (hn : ["enumerate", "zip", "dict_itemiterator", "dict_reverseitemiterator", "odict_iterator", "itertools.zip_longest", "itertools.pairwise"].contains n = false) (hQ : Q () s) : wpAny M A (letOwnedTupleGo tg (.ref it) u) Q E s := by
  unfold letOwnedTupleGo
  cases tg <;> first
    | exact wpAny_pure hQ
    | (cases u <;> first
        | exact wpAny_pure hQ
        | (refine wpAny_bind (wpAny_load ho ?_)
           rw [hc, hd]
           show wpAny M A (if (["enumerate", "zip", "dict_itemiterator", "dict_reverseitemiterator", "odict_iterator", "itertools.zip_longest", "itertools.pairwise"].contains n && vs[0]? == some (rawInt _)) = true then _ else _) Q E s
           rw [if_neg (by intro h; rw [hn, Bool.false_and] at h; cases h)]
           exact wpAny_pure hQ))

/-- the list at a, as it stands at each turn (a loop may append to it) -/
def Itl (K : PySem.W.Frag) (a : Addr) : It :=
  ⟨fun i H => ∃ xs x, SqL K H a xs ∧ xs[i]? = some x, fun i H x H' => H' = H ∧ ∀ xs, SqL K H a xs → xs[i]? = some x, fun i H => ∃ xs, SqL K H a xs ∧ xs.length ≤ i⟩
def Itt (K : PySem.W.Frag) (a : Addr) : It :=
  ⟨fun i H => ∃ xs x, SqT K H a xs ∧ xs[i]? = some x, fun i H x H' => H' = H ∧ ∀ xs, SqT K H a xs → xs[i]? = some x, fun i H => ∃ xs, SqT K H a xs ∧ xs.length ≤ i⟩
/-- lo, lo + 1, .. (n of them) -/
def Itr (lo : Int) (n : Nat) : It := ⟨fun i _ => i < n, fun i H x H' => H' = H ∧ x = .int (lo + i), fun i _ => n ≤ i⟩
theorem turn_list {P : Program} {w : World} {K : PySem.W.Frag} {tg : Expr} (a it : Addr) : Turn P w K tg (Itl K a) [it] it (fun i h => h.IsListIter it a i) where
  mem := by simp
  obj := fun i h st b hb => by
    have e : b = it := by simpa using hb
    subst e
    obtain ⟨o, e, c, d⟩ := st
    exact ⟨o, e, fun v z => by rw [d] at z; cases z⟩
  keep := fun i h h' st k => st.at fun o e => k it (by simp) o e
  item := by
    intro X hP hw hK hc i pins s σ H E I hf st hg
    subst hP hw hK
    obtain ⟨xs, x, hq, hx⟩ := hg
    obtain ⟨its, rv, p, hz⟩ := I.list hq
    obtain ⟨u, hu, ru⟩ := rv.get hx
    obtain ⟨f0, f1, f2, f3, f4, f5⟩ := hf it (by simp)
    refine wpAny_pyNext_list_item st p.isList (x := u) (by simpa using hu) fun h' st' sb => ?_
    have I1 : Inv X pins σ H { s with heap := h' } := I.turned (t' := s.toks) (fun b o hb e => (sb.2 b hb).trans e) f0 f1 f3 f4 f5
    obtain ⟨o, e, c, d⟩ := id st'
    exact ⟨u, rfl, go_of (s := { s with heap := h' }) e c d (by decide) ⟨x, H, I1, ru, ⟨rfl, fun ys hy => by rw [I.list_inj hy hq]; exact hx⟩, st', fun b hb => (hf b hb).1⟩⟩
  done := by
    intro X hP hw hK hc i pins s σ H E I hf st hg
    subst hP hw hK
    obtain ⟨xs, hq, hx⟩ := hg
    obtain ⟨its, rv, p, hz⟩ := I.list hq
    obtain ⟨f0, f1, f2, f3, f4, f5⟩ := hf it (by simp)
    have hl := rv.length
    exact wpAny_pyNext_list_end (I.ok.hd hc) st p.isList (by simp; omega) fun h' eb => ⟨rfl, I.turned (t' := s.toks) (fun b o hb e => eb b o hb e) f0 f1 f3 f4 f5⟩
  self := fun _ _ _ _ _ st h => wpAny_pyIter_listiter st h
theorem turn_tuple {P : Program} {w : World} {K : PySem.W.Frag} {tg : Expr} (a it : Addr) : Turn P w K tg (Itt K a) [it] it (fun i h => h.IsTupleIter it a i) where
  mem := by simp
  obj := fun i h st b hb => by
    have e : b = it := by simpa using hb
    subst e
    obtain ⟨o, e, c, d⟩ := st
    exact ⟨o, e, fun v z => by rw [d] at z; cases z⟩
  keep := fun i h h' st k => st.at fun o e => k it (by simp) o e
  item := by
    intro X hP hw hK hc i pins s σ H E I hf st hg
    subst hP hw hK
    obtain ⟨xs, x, hq, hx⟩ := hg
    obtain ⟨its, rv, p, hz⟩ := I.tuple hq
    obtain ⟨u, hu, ru⟩ := rv.get hx
    obtain ⟨f0, f1, f2, f3, f4, f5⟩ := hf it (by simp)
    refine wpAny_pyNext_tuple_item st (show s.heap.IsTuple a its.toArray from p) (x := u) (by simpa using hu) fun h' st' sb => ?_
    have I1 : Inv X pins σ H { s with heap := h' } := I.turned (t' := s.toks) (fun b o hb e => (sb.2 b hb).trans e) f0 f1 f3 f4 f5
    obtain ⟨o, e, c, d⟩ := id st'
    exact ⟨u, rfl, go_of (s := { s with heap := h' }) e c d (by decide) ⟨x, H, I1, ru, ⟨rfl, fun ys hy => by rw [I.tuple_inj hy hq]; exact hx⟩, st', fun b hb => (hf b hb).1⟩⟩
  done := by
    intro X hP hw hK hc i pins s σ H E I hf st hg
    subst hP hw hK
    obtain ⟨xs, hq, hx⟩ := hg
    obtain ⟨its, rv, p, hz⟩ := I.tuple hq
    obtain ⟨f0, f1, f2, f3, f4, f5⟩ := hf it (by simp)
    have hl := rv.length
    exact wpAny_pyNext_tuple_end (I.ok.hd hc) st (show s.heap.IsTuple a its.toArray from p) (by simp; omega) fun h' eb => ⟨rfl, I.turned (t' := s.toks) (fun b o hb e => eb b o hb e) f0 f1 f3 f4 f5⟩
  self := fun _ _ _ _ _ st h => wpAny_pyIter_tupleiter st h
theorem turn_range {P : Program} {w : World} {K : PySem.W.Frag} {tg : Expr} (it : Addr) (lo : Int) (n : Nat) : Turn P w K tg (Itr lo n) [it] it (fun i h => IsRangeIter h it (lo + (i : Nat) * 1) ((n : Int) - (i : Nat)) 1) where
  mem := by simp
  obj := fun i h st b hb => by
    have e : b = it := by simpa using hb
    subst e
    exact ⟨_, st, fun v z => by
      have z' : Data.fields _ = Data.cell v := z
      cases z'⟩
  keep := fun i h h' st k => k it (by simp) _ st
  item := by
    intro X hP hw hK hc i pins s σ H E I hf st hg
    subst hP hw hK
    obtain ⟨f0, f1, f2, f3, f4, f5⟩ := hf it (by simp)
    have W := Walks.range (prog := X.prog) (w := X.w) (I.ok.hd hc) it lo 1 n
    refine W.item i s _ _ hg st fun v h' tk hv st' kk => ?_
    obtain ⟨t, rfl⟩ := hv
    have I1 : Inv X pins σ H { s with heap := h', toks := tk } := I.turned (fun b o hb e => kk b o (by simpa using hb) e) f0 f1 f3 f4 f5
    refine ⟨_, rfl, go_of (s := { s with heap := h', toks := tk }) (n := "range_iterator") st' rfl rfl (by decide) ⟨.int (lo + i), H, I1, ⟨t, ?_⟩, ⟨rfl, rfl⟩, st', fun b hb => (hf b hb).1⟩⟩
    rw [Int.mul_one]
  done := by
    intro X hP hw hK hc i pins s σ H E I hf st hg
    subst hP hw hK
    obtain ⟨f0, f1, f2, f3, f4, f5⟩ := hf it (by simp)
    exact wpAny_pyNext_range_end (I.ok.hd hc) st (by have : n ≤ i := hg; omega) fun h' eb => ⟨rfl, I.turned (t' := s.toks) (fun b o hb e => eb b o hb e) f0 f1 f3 f4 f5⟩
  self := fun _ _ _ _ _ st h => wpAny_pyIter_rangeiter st h
end L2

namespace L2
open PySem PySem.Spec PyProof.Rows
section
variable {X : Cx} {tg : Expr}
/-- a range object just made, walked -/
theorem range_it {pins : List (Addr × Obj)} {σ : St} {H : Hp} {s : Shared} {R : It → Hp → Prop} {E : Value → Shared → Prop} {lo hi : Int} {t u v : Tok} {tk : Nat} (I : Inv X pins σ H s) (h1 : -(2 ^ 62) ≤ lo) (h2 : lo < 2 ^ 62) (h3 : -(2 ^ 62) ≤ hi) (h4 : hi < 2 ^ 62)
    (q : R (Itr lo (hi - lo).toNat) H) : wpAny (model X.prog X.w) X.A (pyIter (.ref s.heap.objs.size)) (PIE X pins σ tg R) E { s with heap := s.heap.push { cls := .type "range", data := .fields #[.int lo t, .int hi u, .int 1 v] }, toks := tk } := by
  refine wpAny_pyIter_range (IsRange.new ..) (small_one h1 h2 h3 h4) ?_
  have I1 : Inv X pins σ H { s with heap := s.heap.push { cls := .type "range", data := .fields #[.int lo t, .int hi u, .int 1 v] }, toks := tk } := I.kept fun b o e => Heap.get?_push_of_some _ e
  refine ⟨(s.heap.push { cls := .type "range", data := .fields #[.int lo t, .int hi u, .int 1 v] }).objs.size, [(s.heap.push { cls := .type "range", data := .fields #[.int lo t, .int hi u, .int 1 v] }).objs.size], _, _, H, rfl,
    I1.kept (t' := tk) fun b o e => Heap.get?_push_of_some _ e, turn_range _ lo (hi - lo).toNat, ?_, fun b hb => ?_, q⟩
  · have e1 : lo + ((0 : Nat) : Int) * 1 = lo := by simp
    have e2 : (((hi - lo).toNat : Nat) : Int) - ((0 : Nat) : Int) = Builtin.Range.rangeSize lo hi 1 := by rw [rangeSize_one]; split <;> omega
    show IsRangeIter _ _ (lo + ((0 : Nat) : Int) * 1) ((((hi - lo).toNat : Nat) : Int) - ((0 : Nat) : Int)) 1
    rw [e1, e2]
    exact Heap.get?_push_size _ rfl
  · have e : b = (s.heap.push { cls := .type "range", data := .fields #[.int lo t, .int hi u, .int 1 v] }).objs.size := by simpa using hb
    subst e
    exact I1.fpOk (Nat.le_refl _) (I1.hok.fresh (Nat.le_refl _))
def iRng1 (ta : TA) : TI := fun σ H R => ta σ H fun vs H1 => ∃ j : Int, vs = [.int j] ∧ -(2 ^ 62) ≤ j ∧ j < 2 ^ 62 ∧ R (Itr 0 j.toNat) H1
def iRng2 (ta : TA) : TI := fun σ H R => ta σ H fun vs H1 => ∃ i j : Int, vs = [.int i, .int j] ∧ (-(2 ^ 62) ≤ i ∧ i < 2 ^ 62 ∧ -(2 ^ 62) ≤ j ∧ j < 2 ^ 62) ∧ R (Itr i (j - i).toNat) H1
theorem pi_range1 {a : Expr} {ta : TA} {p pos : Pos} (hg : Gl X "range") (hm : X.mg "range" = none) (ha : PA X [a] ta) (hs : starEach [a] X.env = [(false, eval a X.env)] := by rfl) : PI X tg (.Call (.Name "range" p) [a] [] pos) (iRng1 ta) := by
  intro pins s σ H R I h
  refine Call_ (ld_blt I hg hm boot_range (PyProof.Rows.callWith_type1 (thn (ha pos pins s σ H _ I h) fun us s1 ⟨vs, H1, I1, r1, q1⟩ => ?_) hs rfl))
  obtain ⟨j, e, q1, q2, q⟩ := q1
  subst e
  cases r1 with
  | cons r rr =>
    cases rr
    obtain ⟨t, rfl⟩ := r
    exact call_range_1 (range_it I1 (by omega) (by omega) q1 q2 (by simpa using q))
theorem pi_range2 {a b : Expr} {ta : TA} {p pos : Pos} (hg : Gl X "range") (hm : X.mg "range" = none) (ha : PA X [a, b] ta) (hs : starEach [a, b] X.env = [(false, eval a X.env), (false, eval b X.env)] := by rfl) (hs2 : starEach [b] X.env = [(false, eval b X.env)] := by rfl) :
    PI X tg (.Call (.Name "range" p) [a, b] [] pos) (iRng2 ta) := by
  intro pins s σ H R I h
  refine Call_ (ld_blt I hg hm boot_range (PyProof.Rows.callWith_type1 (thn (ha pos pins s σ H _ I h) fun us s1 ⟨vs, H1, I1, r1, q1⟩ => ?_) (by rw [hs, hs2]) (by rw [hs2]; rfl)))
  obtain ⟨i, j, e, ⟨q1, q2, q3, q4⟩, q⟩ := q1
  subst e
  cases r1 with
  | cons r rr =>
    cases rr with
    | cons r' rr =>
      cases rr
      obtain ⟨t, rfl⟩ := r
      obtain ⟨t', rfl⟩ := r'
      exact call_range_2 (range_it I1 q1 q2 q3 q4 q)

/-! ### for -/
/-- W: the invariant by the turn and a measure; N: what the body is to reach -/
def tFor (wi : TI) (g : TG) (tb : TS) : TS := fun D σ H => wi σ H fun J H1 => ∃ W : Nat → Nat → St → Hp → Prop, (∃ m, W 0 m σ H1) ∧ ∀ i m σ H, W i m σ H →
  (J.stop i H ∧ D.nx σ H) ∨ (J.go i H ∧ ∃ N : St → Hp → Prop, (∀ σ' H', N σ' H' → ∃ m', m' < m ∧ W (i + 1) m' σ' H') ∧ ∀ x H', J.yld i H x H' → g x σ H' fun σ2 H2 => tb { D with nx := N, ct := N, bk := D.nx } σ2 H2)
/-- the records at fp as they stand -/
def pinsAt (fp : List Addr) (h : Heap) : List (Addr × Obj) := fp.filterMap fun b => (h.get? b).map fun o => (b, o)
theorem mem_pinsAt {fp : List Addr} {h : Heap} {b : Addr} {o : Obj} (hb : b ∈ fp) (e : h.get? b = some o) : (b, o) ∈ pinsAt fp h := List.mem_filterMap.mpr ⟨b, hb, by rw [e]; rfl⟩
theorem of_pinsAt {fp : List Addr} {h : Heap} {p : Addr × Obj} (hp : p ∈ pinsAt fp h) : p.1 ∈ fp ∧ h.get? p.1 = some p.2 := by
  obtain ⟨b, hb, e⟩ := List.mem_filterMap.mp hp
  cases q : h.get? b with
  | none => rw [q] at e; cases e
  | some o =>
    rw [q] at e
    have e' : (b, o) = p := Option.some.inj e
    subst e'
    exact ⟨hb, q⟩
theorem Inv.pinned {pins : List (Addr × Obj)} {σ : St} {H : Hp} {s : Shared} {fp : List Addr} (I : Inv X pins σ H s) (hf : ∀ b ∈ fp, FpOk X pins H b) (ho : ∀ b ∈ fp, ∃ o, s.heap.get? b = some o ∧ ∀ v, o.data ≠ .cell v) : Inv X (pins ++ pinsAt fp s.heap) σ H s :=
  I.pins_of fun p hp => (List.mem_append.mp hp).elim (fun z => I.pin p (List.mem_append_right _ z)) fun z => by
    obtain ⟨hb, e⟩ := of_pinsAt z
    obtain ⟨f0, f1, f2, _⟩ := hf p.1 hb
    obtain ⟨o, e', d⟩ := ho p.1 hb
    rw [e] at e'; cases e'
    exact ⟨e, f0, f1, f2, d⟩
theorem Inv.unpinned {pins pl : List (Addr × Obj)} {σ : St} {H : Hp} {s : Shared} (I : Inv X (pins ++ pl) σ H s) : Inv X pins σ H s := I.pins_of fun p hp => I.pin p (List.mem_append_right _ (List.mem_append_left _ hp))
theorem ps_for {iter : Expr} {body : List Stmt} {wi : TI} {g : TG} {tb : TS} {pos : Pos} (hp : PassesOwn (model X.prog X.w) X.A X.env X.xe) (hc : X.calm = true) (hi : PI X tg iter wi) (hg : PG X tg g) (hb : PSs X body tb)
    (hs : ∀ x, foldedSetIterable iter X.env x = pure x := by intro _; rfl) : PS X (.For tg iter body [] pos) (tFor wi g tb) := by
  intro pins s σ H D I h
  refine wpAny_For (thn (hi pins s σ H _ I h) fun v s1 h1 => thn h1 fun itv s2 h2 => ?_) hs
  obtain ⟨it, fp, tn, J, H2, e, I2, T, st2, f2, W, ⟨m0, w0⟩, turn⟩ := h2
  subst e
  -- what stays true of the iterator's objects through the loop
  have stat : ∀ {H' : Hp}, (∀ b ∈ fp, H' b = none) → ∀ b ∈ fp, FpOk X pins H' b := fun hn b hb => ⟨hn b hb, (f2 b hb).2⟩
  refine codeAny_forLoop_any (fun n s' => ∃ i σ' H', Inv X pins σ' H' s' ∧ tn i s'.heap ∧ (∀ b ∈ fp, H' b = none) ∧ W i n σ' H') ?_ m0 ⟨0, σ, H2, I2, st2, fun b hb => (f2 b hb).1, w0⟩
  rintro n s3 ⟨i, σ3, H3, I3, st3, fr3, w3⟩
  rcases turn i n σ3 H3 w3 with ⟨stop, qn⟩ | ⟨go, N, hN, step⟩
  · refine wpAny_passesOwn hp (thn (T.done X rfl rfl rfl hc i pins s3 σ3 H3 X.xe I3 (stat fr3) st3 stop) fun r s4 hh => ?_)
    obtain ⟨hr, I4⟩ := hh
    subst hr
    exact wpAny_execs_nil ⟨σ3, H3, I4, qn⟩
  · refine wpAny_passesOwn hp (thn (T.item X rfl rfl rfl hc i pins s3 σ3 H3 X.xe I3 (stat fr3) st3 go) fun r s4 hh => ?_)
    obtain ⟨u, hr, h4⟩ := hh
    subst hr
    refine wpAny_passesOwn hp (thn h4 fun _ s5 hh => ?_)
    obtain ⟨x, H5, I5, r5, y5, st5, fr5⟩ := hh
    have I5' := I5.pinned (stat fr5) (T.obj _ _ st5)
    refine wpAny_passesOwn hp (thn (hg _ s5 σ3 H5 x u _ I5' r5 (step x H5 y5)) fun _ s6 hh => ?_)
    obtain ⟨σ6, H6, I6, q6⟩ := hh
    refine wpAny_passesOwn hp (thn (hb _ s6 σ6 H6 _ I6 q6) fun f s7 q7 => ?_)
    have again : ∀ {σ7 : St} {H7 : Hp}, Inv X (pins ++ pinsAt fp s5.heap) σ7 H7 s7 → N σ7 H7 → ∃ m, m < n ∧ ∃ i σ' H', Inv X pins σ' H' s7 ∧ tn i s7.heap ∧ (∀ b ∈ fp, H' b = none) ∧ W i m σ' H' := fun {σ7 H7} I7 n7 => by
      obtain ⟨m', hm, w7⟩ := hN σ7 H7 n7
      refine ⟨m', hm, i + 1, σ7, H7, I7.unpinned, T.keep _ _ _ st5 fun b hb o e => (I7.pin (b, o) (List.mem_append_right _ (List.mem_append_right _ (mem_pinsAt hb e)))).1, fun b hb => ?_, w7⟩
      obtain ⟨o, e, d⟩ := T.obj _ _ st5 b hb
      exact (I7.pin (b, o) (List.mem_append_right _ (List.mem_append_right _ (mem_pinsAt hb e)))).2.1
    cases f with
    | next => obtain ⟨σ7, H7, I7, n7⟩ := q7; exact again I7 n7
    | cont => obtain ⟨σ7, H7, I7, n7⟩ := q7; exact again I7 n7
    | brk => obtain ⟨σ7, H7, I7, q7⟩ := q7; exact ⟨σ7, H7, I7.unpinned, q7⟩
    | ret v => obtain ⟨x7, σ7, H7, I7, r7, q7⟩ := q7; exact ⟨x7, σ7, H7, I7.unpinned, r7, q7⟩
end

/-! ### the forms one uses -/
/-- over a list that the body leaves as it is -/
theorem for_list {K : PySem.W.Frag} {a : Addr} {xs : List V} {g : TG} {tb : TS} {D : Ends} {σ : St} {H : Hp} (Pv : Nat → St → Hp → Prop) (h0 : Pv 0 σ H) (hl : ∀ i σ H, i ≤ xs.length → Pv i σ H → SqL K H a xs)
    (hs : ∀ i x σ H, xs[i]? = some x → Pv i σ H → g x σ H fun σ2 H2 => tb { D with nx := Pv (i + 1), ct := Pv (i + 1), bk := D.nx } σ2 H2) (hd : ∀ σ H, Pv xs.length σ H → D.nx σ H) :
    ∃ W : Nat → Nat → St → Hp → Prop, (∃ m, W 0 m σ H) ∧ ∀ i m σ H, W i m σ H →
      ((Itl K a).stop i H ∧ D.nx σ H) ∨ ((Itl K a).go i H ∧ ∃ N : St → Hp → Prop, (∀ σ' H', N σ' H' → ∃ m', m' < m ∧ W (i + 1) m' σ' H') ∧ ∀ x H', (Itl K a).yld i H x H' → g x σ H' fun σ2 H2 => tb { D with nx := N, ct := N, bk := D.nx } σ2 H2) := by
  refine ⟨fun i m σ H => m = xs.length - i ∧ i ≤ xs.length ∧ Pv i σ H, ⟨xs.length, by simp, Nat.zero_le _, h0⟩, ?_⟩
  rintro i m σ H ⟨rfl, hi, p⟩
  have q := hl i σ H hi p
  by_cases hlt : i < xs.length
  · refine .inr ⟨⟨xs, xs[i], q, by simp [hlt]⟩, Pv (i + 1), fun σ' H' p' => ⟨xs.length - (i + 1), by omega, rfl, hlt, p'⟩, fun x H' y => ?_⟩
    obtain ⟨e, y⟩ := y
    subst e
    exact hs i x σ _ (y xs q) p
  · have e : i = xs.length := by omega
    subst e
    exact .inl ⟨⟨xs, q, Nat.le_refl _⟩, hd σ H p⟩
theorem for_tup {K : PySem.W.Frag} {a : Addr} {xs : List V} {g : TG} {tb : TS} {D : Ends} {σ : St} {H : Hp} (Pv : Nat → St → Hp → Prop) (h0 : Pv 0 σ H) (hl : ∀ i σ H, i ≤ xs.length → Pv i σ H → SqT K H a xs)
    (hs : ∀ i x σ H, xs[i]? = some x → Pv i σ H → g x σ H fun σ2 H2 => tb { D with nx := Pv (i + 1), ct := Pv (i + 1), bk := D.nx } σ2 H2) (hd : ∀ σ H, Pv xs.length σ H → D.nx σ H) :
    ∃ W : Nat → Nat → St → Hp → Prop, (∃ m, W 0 m σ H) ∧ ∀ i m σ H, W i m σ H →
      ((Itt K a).stop i H ∧ D.nx σ H) ∨ ((Itt K a).go i H ∧ ∃ N : St → Hp → Prop, (∀ σ' H', N σ' H' → ∃ m', m' < m ∧ W (i + 1) m' σ' H') ∧ ∀ x H', (Itt K a).yld i H x H' → g x σ H' fun σ2 H2 => tb { D with nx := N, ct := N, bk := D.nx } σ2 H2) := by
  refine ⟨fun i m σ H => m = xs.length - i ∧ i ≤ xs.length ∧ Pv i σ H, ⟨xs.length, by simp, Nat.zero_le _, h0⟩, ?_⟩
  rintro i m σ H ⟨rfl, hi, p⟩
  have q := hl i σ H hi p
  by_cases hlt : i < xs.length
  · refine .inr ⟨⟨xs, xs[i], q, by simp [hlt]⟩, Pv (i + 1), fun σ' H' p' => ⟨xs.length - (i + 1), by omega, rfl, hlt, p'⟩, fun x H' y => ?_⟩
    obtain ⟨e, y⟩ := y
    subst e
    exact hs i x σ _ (y xs q) p
  · have e : i = xs.length := by omega
    subst e
    exact .inl ⟨⟨xs, q, Nat.le_refl _⟩, hd σ H p⟩
theorem for_range {lo : Int} {n : Nat} {g : TG} {tb : TS} {D : Ends} {σ : St} {H : Hp} (Pv : Nat → St → Hp → Prop) (h0 : Pv 0 σ H)
    (hs : ∀ i σ H, i < n → Pv i σ H → g (.int (lo + i)) σ H fun σ2 H2 => tb { D with nx := Pv (i + 1), ct := Pv (i + 1), bk := D.nx } σ2 H2) (hd : ∀ σ H, Pv n σ H → D.nx σ H) :
    ∃ W : Nat → Nat → St → Hp → Prop, (∃ m, W 0 m σ H) ∧ ∀ i m σ H, W i m σ H →
      ((Itr lo n).stop i H ∧ D.nx σ H) ∨ ((Itr lo n).go i H ∧ ∃ N : St → Hp → Prop, (∀ σ' H', N σ' H' → ∃ m', m' < m ∧ W (i + 1) m' σ' H') ∧ ∀ x H', (Itr lo n).yld i H x H' → g x σ H' fun σ2 H2 => tb { D with nx := N, ct := N, bk := D.nx } σ2 H2) := by
  refine ⟨fun i m σ H => m = n - i ∧ i ≤ n ∧ Pv i σ H, ⟨n, by simp, Nat.zero_le _, h0⟩, ?_⟩
  rintro i m σ H ⟨rfl, hi, p⟩
  by_cases hlt : i < n
  · refine .inr ⟨hlt, Pv (i + 1), fun σ' H' p' => ⟨n - (i + 1), by omega, rfl, hlt, p'⟩, fun x H' y => ?_⟩
    obtain ⟨e, y⟩ := y
    subst e y
    exact hs i σ _ hlt p
  · have e : i = n := by omega
    subst e
    exact .inl ⟨Nat.le_refl _, hd σ H p⟩
end L2

namespace L2
open PySem PySem.Spec PyProof.Rows

abbrev R2 := V → V → Hp → VK → Prop
/-- a two-place operation on values: f is binaryOp op, inplaceOp op or compareOp op -/
def OpR (X : Cx) (f : Value → Value → Sem Value) (r : R2) : Prop :=
  ∀ (pins : List (Addr × Obj)) (s : Shared) (σ : St) (H : Hp) (x y : V) (v u : Value) (Q : VK), Inv X pins σ H s → RelV x v → RelV y u → r x y H Q →
    wpAny (model X.prog X.w) X.A (f v u) (EP X pins σ Q) X.xe s
/-- a one-place operation -/
def UnR (X : Cx) (f : Value → Sem Value) (r : V → Hp → VK → Prop) : Prop :=
  ∀ (pins : List (Addr × Obj)) (s : Shared) (σ : St) (H : Hp) (x : V) (v : Value) (Q : VK), Inv X pins σ H s → RelV x v → r x H Q →
    wpAny (model X.prog X.w) X.A (f v) (EP X pins σ Q) X.xe s
/-- a call of a value that is known (a builtin, a type) with values -/
def CallR (X : Cx) (f : Value) (r : List V → Hp → VK → Prop) : Prop :=
  ∀ (pins : List (Addr × Obj)) (s : Shared) (σ : St) (H : Hp) (xs : List V) (us : List Value) (Q : VK), Inv X pins σ H s → Vals xs us → r xs H Q →
    wpAny (model X.prog X.w) X.A (call f us) (EP X pins σ Q) X.xe s

def tOp (r : R2) (ta tb : TE) : TE := fun σ H Q => ta σ H fun x H1 => tb σ H1 fun y H2 => r x y H2 Q
def tUn (r : V → Hp → VK → Prop) (ta : TE) : TE := fun σ H Q => ta σ H fun x H1 => r x H1 Q
/-- ints in, under C, and a value out -/
def rI (C : Int → Int → Prop) (g : Int → Int → V) : R2 := fun x y H Q => ∃ i j, x = .int i ∧ y = .int j ∧ C i j ∧ Q (g i j) H
def rI0 (g : Int → Int → V) : R2 := fun x y H Q => ∃ i j, x = .int i ∧ y = .int j ∧ Q (g i j) H
def rU (g : Int → V) : V → Hp → VK → Prop := fun x H Q => ∃ i, x = .int i ∧ Q (g i) H

section
variable {X : Cx} {a b c : Expr} {ta tb tc : TE} {pos : Pos}

theorem binT (ha : PE X a ta) (hb : PE X b tb) {pins : List (Addr × Obj)} {s : Shared} {σ : St} {H : Hp} {R : V → V → Hp → Prop} (I : Inv X pins σ H s)
    (h : ta σ H fun x H1 => tb σ H1 fun y H2 => R x y H2) {Q : Value → Shared → Prop} {f : Value → Value → Sem Value}
    (hf : ∀ v u s2 x y H2, Inv X pins σ H2 s2 → RelV x v → RelV y u → R x y H2 → wpAny (model X.prog X.w) X.A (f v u) Q X.xe s2) :
    wpAny (model X.prog X.w) X.A (eval a X.env) (fun v s₁ => wpAny (model X.prog X.w) X.A (eval b X.env) (fun u s₂ => wpAny (model X.prog X.w) X.A (f v u) Q X.xe s₂) X.xe s₁) X.xe s := by
  refine thn (ha pins s σ H _ I h) fun v s1 hh => ?_
  obtain ⟨x, H1, I1, r1, q1⟩ := hh
  refine thn (hb pins s1 σ H1 _ I1 q1) fun u s2 hh => ?_
  obtain ⟨y, H2, I2, r2, q2⟩ := hh
  exact hf v u s2 x y H2 I2 r1 r2 q2

theorem pe_op {op : Operator} {r : R2} (ho : OpR X (binaryOp op) r) (ha : PE X a ta) (hb : PE X b tb) : PE X (.BinOp a op b pos) (tOp r ta tb) := by
  intro pins s σ H Q I h
  exact wpAny_BinOp (binT ha hb I h fun v u s2 x y H2 I2 rx ry q => ho pins s2 σ H2 x y v u Q I2 rx ry q)
theorem pe_un {op : UnaryOp} {r : V → Hp → VK → Prop} (ho : UnR X (unaryOp op) r) (ha : PE X a ta) : PE X (.UnaryOp op a pos) (tUn r ta) := by
  intro pins s σ H Q I h
  exact UnaryOp_ (thn (ha pins s σ H _ I h) fun v s1 ⟨x, H1, I1, r1, q1⟩ => ho pins s1 σ H1 x v Q I1 r1 q1)

/-! ### ints -/
theorem opI {f : Value → Value → Sem Value} {C : Int → Int → Prop} {g : Int → Int → Int}
    (rule : ∀ (i j : Int) (t u : Tok) (s : Shared) (Q : Value → Shared → Prop) (E : Value → Shared → Prop), C i j → Q (.int (g i j) s.toks) { s with toks := s.toks + 1 } → wpAny (model X.prog X.w) X.A (f (.int i t) (.int j u)) Q E s) :
    OpR X f (rI C fun i j => .int (g i j)) := by
  intro pins s σ H x y v u Q I rx ry h
  obtain ⟨i, j, rfl, rfl, hc, q⟩ := h
  obtain ⟨t, rfl⟩ := rx
  obtain ⟨t', rfl⟩ := ry
  exact rule i j t t' s _ _ hc ⟨.int (g i j), H, I.tok _, ⟨_, rfl⟩, q⟩
theorem opI0 {f : Value → Value → Sem Value} {g : Int → Int → Int}
    (rule : ∀ (i j : Int) (t u : Tok) (s : Shared) (Q : Value → Shared → Prop) (E : Value → Shared → Prop), Q (.int (g i j) s.toks) { s with toks := s.toks + 1 } → wpAny (model X.prog X.w) X.A (f (.int i t) (.int j u)) Q E s) :
    OpR X f (rI0 fun i j => .int (g i j)) := by
  intro pins s σ H x y v u Q I rx ry h
  obtain ⟨i, j, rfl, rfl, q⟩ := h
  obtain ⟨t, rfl⟩ := rx
  obtain ⟨t', rfl⟩ := ry
  exact rule i j t t' s _ _ ⟨.int (g i j), H, I.tok _, ⟨_, rfl⟩, q⟩
theorem opB0 {f : Value → Value → Sem Value} {g : Int → Int → Bool}
    (rule : ∀ (i j : Int) (t u : Tok) (s : Shared) (Q : Value → Shared → Prop) (E : Value → Shared → Prop), Q (.bool (g i j)) s → wpAny (model X.prog X.w) X.A (f (.int i t) (.int j u)) Q E s) :
    OpR X f (rI0 fun i j => .bl (g i j)) := by
  intro pins s σ H x y v u Q I rx ry h
  obtain ⟨i, j, rfl, rfl, q⟩ := h
  obtain ⟨t, rfl⟩ := rx
  obtain ⟨t', rfl⟩ := ry
  exact rule i j t t' s _ _ ⟨.bl (g i j), H, I, rfl, q⟩

def CPow (i j : Int) : Prop := 0 ≤ j ∧ j ≤ 1000000 ∧ i.natAbs < 2 ^ 64
def CMul (i j : Int) : Prop := (-(2 ^ 64) < i ∧ i < 2 ^ 64) ∨ (-(2 ^ 64) < j ∧ j < 2 ^ 64)
theorem CMul.ok {i j : Int} (h : CMul i j) : IntMulOk i j := by
  rcases h with ⟨h1, h2⟩ | ⟨h1, h2⟩
  · exact .of_left (intBits_le_64 h1 h2)
  · exact .of_right (intBits_le_64 h1 h2)

theorem op_add : OpR X (binaryOp .Add) (rI0 fun i j => .int (i + j)) := opI0 fun _ _ _ _ _ _ _ q => add_int q
theorem op_sub : OpR X (binaryOp .Sub) (rI0 fun i j => .int (i - j)) := opI0 fun _ _ _ _ _ _ _ q => sub_int q
theorem op_modN : OpR X (binaryOp .Mod) (rI (fun _ j => j ≠ 0) fun i j => .int (i.fmod j)) := opI fun _ _ _ _ _ _ _ hc q => mod_int' hc q
theorem op_pow : OpR X (binaryOp .Pow) (rI CPow fun i j => .int (i ^ j.toNat)) := opI fun _ _ _ _ _ _ _ hc q => pow_int_small hc.1 hc.2.1 hc.2.2 q


theorem unI {f : Value → Sem Value} {g : Int → Int}
    (rule : ∀ (i : Int) (t : Tok) (s : Shared) (Q : Value → Shared → Prop) (E : Value → Shared → Prop), Q (.int (g i) s.toks) { s with toks := s.toks + 1 } → wpAny (model X.prog X.w) X.A (f (.int i t)) Q E s) :
    UnR X f (rU fun i => .int (g i)) := by
  intro pins s σ H x v Q I rx h
  obtain ⟨i, rfl, q⟩ := h
  obtain ⟨t, rfl⟩ := rx
  exact rule i t s _ _ ⟨.int (g i), H, I.tok _, ⟨_, rfl⟩, q⟩
theorem un_neg : UnR X (unaryOp .USub) (rU fun i => .int (-i)) := unI fun _ _ _ _ _ q => neg_int q

/-! ### bools among ints: n += (a < b) -/
end

/-! ### comparisons -/
/-- the scalars that == tells apart as data does -/
def scal : V → V → Bool
  | .non, .non => true | .non, .int _ => true | .int _, .non => true | .non, .bl _ => true | .bl _, .non => true | .non, .str _ => true | .str _, .non => true
  | .int _, .int _ => true | .bl _, .bl _ => true | .str _, .str _ => true | .byt _, .byt _ => true
  | .int _, .str _ => true | .str _, .int _ => true | .bl _, .str _ => true | .str _, .bl _ => true
  | _, _ => false
def rEq : R2 := fun x y H Q => scal x y = true ∧ Q (.bl (decide (x = y))) H
def rNe : R2 := fun x y H Q => scal x y = true ∧ Q (.bl (!decide (x = y))) H

theorem dec_int {i j : Int} : decide (V.int i = V.int j) = (i == j) := by
  rw [Bool.eq_iff_iff]
  simp
theorem dec_bl {i j : Bool} : decide (V.bl i = V.bl j) = (i == j) := by
  rw [Bool.eq_iff_iff]
  simp
theorem dec_str {i j : Str} : decide (V.str i = V.str j) = (i == j) := by
  rw [Bool.eq_iff_iff]
  simp
theorem dec_byt {i j : Array UInt8} : decide (V.byt i = V.byt j) = (i.toList == j.toList) := by
  rw [Bool.eq_iff_iff]
  cases i
  cases j
  simp

section
variable {X : Cx} {a b c : Expr} {ta tb tc : TE} {pos : Pos}
theorem fin_bl {pins : List (Addr × Obj)} {σ : St} {H : Hp} {s : Shared} {Q : VK} {k k' : Bool} (I : Inv X pins σ H s) (q : Q (.bl k) H) (e : k = k') : EP X pins σ Q (.bool k') s := by
  subst e
  exact ⟨.bl k, H, I, rfl, q⟩
theorem op_eq : OpR X (compareOp .Eq) rEq := by
  intro pins s σ H x y v u Q I rx ry h
  obtain ⟨hs, q⟩ := h
  cases x with
  | non =>
    cases rx
    cases y with
    | non => cases ry; exact PySem.EqNone.eq_none_none (fin_bl I q (by simp))
    | bl j => cases ry; exact PySem.EqNone.eq_none_bool (fin_bl I q (by simp))
    | int j => obtain ⟨t', rfl⟩ := ry; exact PySem.EqNone.eq_none_int (fin_bl I q (by simp))
    | str j => obtain ⟨t', rfl⟩ := ry; exact PySem.EqNone.eq_none_str (fin_bl I q (by simp))
    | _ => exact absurd (show false = true from hs) Bool.false_ne_true
  | bl i =>
    cases rx
    cases y with
    | non => cases ry; exact PySem.EqNone.eq_bool_none (fin_bl I q (by simp))
    | bl j => cases ry; exact eq_bool (fin_bl I q dec_bl)
    | str j => obtain ⟨t', rfl⟩ := ry; exact PySem.EqMixed.eq_bool_str (fin_bl I q (by simp))
    | _ => exact absurd (show false = true from hs) Bool.false_ne_true
  | int i =>
    obtain ⟨t, rfl⟩ := rx
    cases y with
    | non => cases ry; exact PySem.EqNone.eq_int_none (fin_bl I q (by simp))
    | int j => obtain ⟨t', rfl⟩ := ry; exact eq_int (fin_bl I q dec_int)
    | str j => obtain ⟨t', rfl⟩ := ry; exact PySem.EqMixed.eq_int_str (fin_bl I q (by simp))
    | _ => exact absurd (show false = true from hs) Bool.false_ne_true
  | str i =>
    obtain ⟨t, rfl⟩ := rx
    cases y with
    | non => cases ry; exact PySem.EqNone.eq_str_none (fin_bl I q (by simp))
    | bl j => cases ry; exact PySem.EqMixed.eq_str_bool (fin_bl I q (by simp))
    | int j => obtain ⟨t', rfl⟩ := ry; exact PySem.EqMixed.eq_str_int (fin_bl I q (by simp))
    | str j => obtain ⟨t', rfl⟩ := ry; exact eq_str (fin_bl I q dec_str)
    | _ => exact absurd (show false = true from hs) Bool.false_ne_true
  | byt i =>
    obtain ⟨t, rfl⟩ := rx
    cases y with
    | byt j => obtain ⟨t', rfl⟩ := ry; exact PySem.W.eq_bytes (fin_bl I q dec_byt)
    | _ => exact absurd (show false = true from hs) Bool.false_ne_true
  | _ => cases y <;> exact absurd (show false = true from hs) Bool.false_ne_true
theorem op_ne : OpR X (compareOp .NotEq) rNe := by
  intro pins s σ H x y v u Q I rx ry h
  obtain ⟨hs, q⟩ := h
  cases x with
  | non =>
    cases rx
    cases y with
    | non => cases ry; exact PySem.EqNone.ne_none_none (fin_bl I q (by simp))
    | bl j => cases ry; exact PySem.EqNone.ne_none_bool (fin_bl I q (by simp))
    | int j => obtain ⟨t', rfl⟩ := ry; exact PySem.EqNone.ne_none_int (fin_bl I q (by simp))
    | str j => obtain ⟨t', rfl⟩ := ry; exact PySem.EqNone.ne_none_str (fin_bl I q (by simp))
    | _ => exact absurd (show false = true from hs) Bool.false_ne_true
  | bl i =>
    cases rx
    cases y with
    | non => cases ry; exact PySem.EqNone.ne_bool_none (fin_bl I q (by simp))
    | bl j => cases ry; exact ne_bool (fin_bl I q (congrArg not dec_bl))
    | str j => obtain ⟨t', rfl⟩ := ry; exact PySem.EqMixed.ne_bool_str (fin_bl I q (by simp))
    | _ => exact absurd (show false = true from hs) Bool.false_ne_true
  | int i =>
    obtain ⟨t, rfl⟩ := rx
    cases y with
    | non => cases ry; exact PySem.EqNone.ne_int_none (fin_bl I q (by simp))
    | int j => obtain ⟨t', rfl⟩ := ry; exact ne_int (fin_bl I q (congrArg not dec_int))
    | str j => obtain ⟨t', rfl⟩ := ry; exact PySem.EqMixed.ne_int_str (fin_bl I q (by simp))
    | _ => exact absurd (show false = true from hs) Bool.false_ne_true
  | str i =>
    obtain ⟨t, rfl⟩ := rx
    cases y with
    | non => cases ry; exact PySem.EqNone.ne_str_none (fin_bl I q (by simp))
    | bl j => cases ry; exact PySem.EqMixed.ne_str_bool (fin_bl I q (by simp))
    | int j => obtain ⟨t', rfl⟩ := ry; exact PySem.EqMixed.ne_str_int (fin_bl I q (by simp))
    | str j => obtain ⟨t', rfl⟩ := ry; exact ne_str (fin_bl I q (congrArg not dec_str))
    | _ => exact absurd (show false = true from hs) Bool.false_ne_true
  | byt i =>
    obtain ⟨t, rfl⟩ := rx
    cases y with
    | byt j => obtain ⟨t', rfl⟩ := ry; exact PySem.W.ne_bytes (fin_bl I q (congrArg not dec_byt))
    | _ => exact absurd (show false = true from hs) Bool.false_ne_true
  | _ => cases y <;> exact absurd (show false = true from hs) Bool.false_ne_true

theorem op_lt : OpR X (compareOp .Lt) (rI0 fun i j => .bl (decide (i < j))) := opB0 fun _ _ _ _ _ _ _ q => lt_int q
theorem op_gt : OpR X (compareOp .Gt) (rI0 fun i j => .bl (decide (j < i))) := opB0 fun _ _ _ _ _ _ _ q => gt_int q



/-- two rules for one operation: by cases -/
theorem OpR.or {f : Value → Value → Sem Value} {r r' : R2} (h : OpR X f r) (h' : OpR X f r') : OpR X f (fun x y H Q => r x y H Q ∨ r' x y H Q) := by
  intro pins s σ H x y v u Q I rx ry q
  rcases q with q | q
  · exact h pins s σ H x y v u Q I rx ry q
  · exact h' pins s σ H x y v u Q I rx ry q

theorem nomark (b : Expr) {op : CmpOp} (h : op ≠ .In := by decide) (h2 : op ≠ .NotIn := by decide) : behindInMarks op b = false := by
  have e1 : (op == CmpOp.In) = false := by cases op <;> first | rfl | exact absurd rfl h
  have e2 : (op == CmpOp.NotIn) = false := by cases op <;> first | rfl | exact absurd rfl h2
  cases b <;> simp [behindInMarks, e1, e2]
/-- a comparison as a value; hm: nomark b, or (for in, not in) by with_unfolding_all rfl -/
theorem pe_cmpR {op : CmpOp} {r : R2} (ho : OpR X (compareOp op) r) (ha : PE X a ta) (hb : PE X b tb) (hm : behindInMarks op b = false) : PE X (.Compare a [op] [b] pos) (tOp r ta tb) := by
  intro pins s σ H Q I h
  exact wpAny_Compare1 (binT ha hb I h fun v u s2 x y H2 I2 rx ry q => ho pins s2 σ H2 x y v u Q I2 rx ry q) hm
/-- a reading of a value as a test -/
def tTest (t : TE) : TT := fun σ H Q => t σ H fun x H' => ∃ k, x = .bl k ∧ Q k H'
theorem pt_cmpR {op : CmpOp} {r : R2} (ho : OpR X (compareOp op) r) (ha : PE X a ta) (hb : PE X b tb) (hm : behindInMarks op b = false) : PT X (.Compare a [op] [b] pos) (tTest (tOp r ta tb)) := by
  intro pins s σ H Q I h
  refine wpAny_isTrue_Compare1 (thn (ha pins s σ H _ I h) fun v s1 ⟨x, H1, I1, r1, q1⟩ => thn (hb pins s1 σ H1 _ I1 q1) fun u s2 ⟨y, H2, I2, r2, q2⟩ =>
    thn (ho pins s2 σ H2 x y v u _ I2 r1 r2 q2) fun c s3 ⟨z, H3, I3, r3, k, e, q3⟩ => ?_) hm
  subst e
  cases r3
  exact wpAny_truthy_bool ⟨H3, I3, q3⟩

/-! ### truth -/
theorem line63 : (sizeLine : Nat) < 2 ^ 63 := by rw [sizeLine_eq]; decide

/-! ### strs and bytes -/


/-! ### scalar builtins, by CallR -/
theorem vals1 {x : V} {us : List Value} (r : Vals [x] us) : ∃ u, us = [u] ∧ RelV x u := by
  cases r with
  | cons r1 r2 => cases r2; exact ⟨_, rfl, r1⟩
theorem vals2 {x y : V} {us : List Value} (r : Vals [x, y] us) : ∃ u w', us = [u, w'] ∧ RelV x u ∧ RelV y w' := by
  cases r with
  | cons r1 r2 =>
    cases r2 with
    | cons r3 r4 => cases r4; exact ⟨_, _, rfl, r1, r3⟩
theorem call_abs : CallR X (.builtin "abs") (fun xs H Q => ∃ i, xs = [.int i] ∧ Q (.int (if i < 0 then -i else i)) H) := by
  intro pins s σ H xs us Q I r h
  obtain ⟨i, rfl, q⟩ := h
  obtain ⟨u, rfl, t, rfl⟩ := vals1 r
  exact call_abs_int fun u tk => ⟨.int (if i < 0 then -i else i), H, I.tok _, ⟨_, rfl⟩, q⟩
end
end L2

namespace L2
open PySem PySem.Spec PyProof.Rows

/-! ### an instance, its attributes a map -/
structure ObjM (h : Heap) (x dx C : Addr) (mA : Str → Option Value) : Prop where
  obj : h.get? x = some (PySem.W.instObj C dx)
  ns : h.Ns1 dx mA
  ne : dx ≠ x

theorem lookIn_ns {h : Heap} {dx : Addr} {mA : Str → Option Value} (n : h.Ns1 dx mA) : ∃ od, h.get? dx = some od ∧ ∀ name, PySem.W.lookIn name od = some (mA name) := by
  obtain ⟨o, es, ep, ho, hd, hk, _, hm⟩ := n
  refine ⟨o, ho, fun name => ?_⟩
  have e := hm name
  unfold nsFind findBy at e
  rw [← Array.find?_toList] at e
  unfold PySem.W.lookIn
  rw [hd]
  dsimp only
  split
  · rename_i y q
    rw [q] at e
    exact congrArg some e
  · rename_i q
    rw [q] at e
    have a : es.toList.any (·.refKey) = false := by
      rw [List.any_eq_false]
      intro y hy
      obtain ⟨z, t, hkey⟩ := hk y (Array.mem_toList_iff.mp hy)
      simp [DictEntry.refKey, hkey]
    have a' : ¬ es.toList.any (·.refKey) = true := by rw [a]; exact Bool.false_ne_true
    rw [if_neg a']
    exact congrArg some e

theorem ObjM.look {h : Heap} {x dx C : Addr} {mA : Str → Option Value} (I : ObjM h x dx C mA) : ∃ od, PySem.W.InstAt h x (PySem.W.instObj C dx) C (some od) ∧ ∀ name, PySem.W.lookIn name od = some (mA name) :=
  let ⟨od, ho, hl⟩ := lookIn_ns I.ns
  ⟨od, ⟨I.obj, rfl, rfl, ho⟩, hl⟩

section
variable {prog : Program} {w : World} {A : Around} {E : Value → Shared → Prop} {s : Shared} {K : PySem.W.Frag} {x dx C f : Addr} {mA : Str → Option Value} {name : Str} {v : Value}





end

/-! ### the attributes as a list of pairs -/


section
variable {P : Program} {w : World} {H H' : Hp} {h h' : Heap} {a C dx : Addr} {fs fs' : List (Str × V)}
theorem ins_get (hok : HOk P w H h) (e : H a = some (.ins C dx fs)) : ∃ mA, ObjM h a dx C mA ∧ (∀ f, RelO (fs.lookup f) (mA f)) ∧ PySem.Within mA (fs.map (·.1)) ∧ fs.length ≤ 1000 ∧ H dx = some (.own a) := by
  obtain ⟨d, z, ne, ob, mA, n, r, q⟩ := (show ObjOk P w H h a (.ins C dx fs) from hok a _ e)
  exact ⟨mA, ⟨ob, n, ne⟩, r, q, z, d⟩
end

/-! ### what of the text a class must have -/
structure Cls (K : PySem.W.Frag) (C : Addr) : Prop where
  pg : PySem.W.plainGet K C Str.empty = true
  hd : PySem.W.hasDictIn K C = true
  po : PySem.W.plainOver K C = true
  sa : PySem.W.findIn K (.ref C) "__setattr__" = some (some (.builtin "object.__setattr__"))
theorem Cls.get {K : PySem.W.Frag} {C : Addr} (c : Cls K C) (f : Str) : PySem.W.plainGet K C f = true := c.pg

section
variable {X : Cx} {pins : List (Addr × Obj)} {σ : St} {H : Hp} {s : Shared} {a C dx : Addr} {fs : List (Str × V)} {f : Str} {v : V} {A : Around} {E : Value → Shared → Prop}





/-- a new instance, tracked, without attributes -/
theorem Inv.made (I : Inv X pins σ H s) : Inv X pins σ (upd (upd H s.heap.objs.size (.own (s.heap.objs.size + 1))) (s.heap.objs.size + 1) (.ins C s.heap.objs.size []))
    { s with heap := (s.heap.push PySem.W.emptyDict).push (PySem.W.instObj C s.heap.objs.size) } := by
  have e1 : (s.heap.push PySem.W.emptyDict).get? s.heap.objs.size = some PySem.W.emptyDict := Heap.get?_push_size s.heap rfl
  have e2 : ((s.heap.push PySem.W.emptyDict).push (PySem.W.instObj C s.heap.objs.size)).get? (s.heap.objs.size + 1) = some (PySem.W.instObj C s.heap.objs.size) := by
    have := Heap.get?_push_size (s.heap.push PySem.W.emptyDict) (o := PySem.W.instObj C s.heap.objs.size) rfl
    rwa [Heap.size_push] at this
  have e3 : (s.heap.push PySem.W.emptyDict).Ns s.heap.objs.size (fun _ => none) := ⟨PySem.W.emptyDict, #[], _, e1, rfl, (fun e he => absurd he (by simp)), fun _ => rfl⟩
  have I1 := I.laid (a := s.heap.objs.size) (o := .own (s.heap.objs.size + 1)) (h' := s.heap.push PySem.W.emptyDict) (t' := s.toks) (fun b u q => Heap.get?_push_of_some _ q) (Nat.le_refl _) ⟨_, e1⟩
  refine I1.laid (a := s.heap.objs.size + 1) (o := .ins C s.heap.objs.size []) (t' := s.toks) (fun b u q => Heap.get?_push_of_some _ q) (Nat.le_of_eq (Heap.size_push _ _)) ?_
  have ne : s.heap.objs.size ≠ s.heap.objs.size + 1 := Nat.ne_of_lt (Nat.lt_succ_self _)
  refine ⟨by rw [upd_ne ne, upd_same], Nat.zero_le _, ne, e2, fun _ => none, (Heap.Ns1.of_empty e3).at fun o q => Heap.get?_push_of_some _ q, fun _ => True.intro, fun y hy => absurd rfl hy⟩

end

/-! ### readings and rules -/

section
variable {X : Cx} {o e value : Expr} {f : Str} {pos pos' tpos : Pos} {ta tv : TE}

end

/-! ### isinstance -/
section
variable {X : Cx} {pins : List (Addr × Obj)} {σ : St} {H : Hp} {s : Shared} {A : Around} {E : Value → Shared → Prop} {Q : Value → Shared → Prop} {c : Value} {b : Bool}
/-- the type of a value, as the fragment's deciders take it; for an instance its class -/
inductive TyOf (K : PySem.W.Frag) (H : Hp) : V → Value → Prop where
  | non : TyOf K H .non (.type "NoneType")
  | bl (x : Bool) : TyOf K H (.bl x) (.type "bool")
  | int (i : Int) : TyOf K H (.int i) (.type "int")
  | str (x : Str) : TyOf K H (.str x) (.type "str")
  | flt (x : UInt64) : TyOf K H (.flt x) (.type "float")
  | lst {a : Addr} {xs : List V} (e : H a = some (.lst xs)) : TyOf K H (.ref a) (.type "list")
  | frz {a : Addr} {o : Obj} {xs : List V} (e : H a = some (.frz o (.lst xs))) : TyOf K H (.ref a) (.type "list")
  | tup {a : Addr} {xs : List V} (e : H a = some (.tup xs)) : TyOf K H (.ref a) (.type "tuple")
  | dK {a : Addr} {kvs : List (Key × V)} (e : H a = some (.dK kvs)) : TyOf K H (.ref a) (.type "dict")
  | dT {a : Addr} {kvs : List (List Key × V)} (e : H a = some (.dT kvs)) : TyOf K H (.ref a) (.type "dict")
  | ins {a C dx : Addr} {fs : List (Str × V)} (e : H a = some (.ins C dx fs)) (cl : Cls K C) (ha : PySem.W.findIn K (.ref C) "__class__" = some (some (.builtin "object.__class__")))
      (hn : PySem.W.specialIn K (.builtin "object.__class__") "__get__" = some (some (.builtin "getset_descriptor.__get__"))) (htk : PySem.W.takesIn K (.builtin "object.__class__") = some true)
      (hm : PySem.W.mroIn K C (.type "object") = some true) : TyOf K H (.ref a) (.ref C)
/-- isinstance(x, c) for one class c, a built-in or an own one: kitOne's answer -/
theorem isinst_ok {x : V} {u t : Value} (I : Inv X pins σ H s) (rx : RelV x u) (ty : TyOf X.K H x t) (e : PySem.W.kitOne X.K t c = some b) (h : ∀ tk, Q (.bool b) { s with toks := tk }) :
    wpAny (model X.prog X.w) A (call (.builtin "isinstance") [u, c]) Q E s := by
  cases ty with
  | non => cases (show u = Value.none from rx); exact PySem.W.kia_one PySem.W.kitx_none I.kIn True.intro e (fun z => nomatch z) h
  | bl y => cases (show u = Value.bool y from rx); exact PySem.W.kia_one PySem.W.kitx_bool I.kIn True.intro e (fun z => nomatch z) h
  | int i => obtain ⟨t, q⟩ := (show ∃ t, u = Value.int i t from rx); cases q; exact PySem.W.kia_one PySem.W.kitx_int I.kIn True.intro e (fun z => nomatch z) h
  | str y => obtain ⟨t, q⟩ := (show ∃ t, u = Value.str y t from rx); cases q; exact PySem.W.kia_one PySem.W.kitx_str I.kIn True.intro e (fun z => nomatch z) h
  | flt y => obtain ⟨t, q⟩ := (show ∃ t, u = Value.float y t from rx); cases q; exact PySem.W.kia_one PySem.W.kitx_float I.kIn True.intro e (fun z => nomatch z) h
  | @lst a xs ea =>
    cases (show u = Value.ref a from rx)
    obtain ⟨_, _, n, _, h1⟩ := (show ObjOk X.prog X.w H s.heap a (.lst xs) from I.hok a _ ea)
    exact PySem.W.kia_one PySem.W.kitx_list I.kIn ⟨_, h1, rfl⟩ e (fun z => nomatch z) h
  | @frz a ob xs ea =>
    cases (show u = Value.ref a from rx)
    obtain ⟨_, _, _, n, _, h1⟩ := (show ObjOk X.prog X.w H s.heap a (.frz ob (.lst xs)) from I.hok a _ ea)
    exact PySem.W.kia_one PySem.W.kitx_list I.kIn ⟨_, h1, rfl⟩ e (fun z => nomatch z) h
  | @tup a xs ea =>
    cases (show u = Value.ref a from rx)
    obtain ⟨_, _, _, p⟩ := (show ObjOk X.prog X.w H s.heap a (.tup xs) from I.hok a _ ea)
    obtain ⟨o, h1, h2, _⟩ := p
    exact PySem.W.kia_one PySem.W.kitx_tuple I.kIn ⟨o, h1, h2⟩ e (fun z => nomatch z) h
  | @dK a kvs ea =>
    cases (show u = Value.ref a from rx)
    obtain ⟨_, _, vs, _, p⟩ := (show ObjOk X.prog X.w H s.heap a (.dK kvs) from I.hok a _ ea)
    obtain ⟨o, es, ep, h1, h2, _⟩ := p
    exact PySem.W.kia_one PySem.W.kitx_dict I.kIn ⟨o, h1, h2.1⟩ e (fun z => nomatch z) h
  | @dT a kvs ea =>
    cases (show u = Value.ref a from rx)
    obtain ⟨_, _, xs, _, o, es, ep, h1, h2, _⟩ := (show ObjOk X.prog X.w H s.heap a (.dT kvs) from I.hok a _ ea)
    exact PySem.W.kia_one PySem.W.kitx_dict I.kIn ⟨o, h1, h2.1⟩ e (fun z => nomatch z) h
  | @ins a C dx fs ea cl ha hn htk hm =>
    cases (show u = Value.ref a from rx)
    obtain ⟨mA, O, _⟩ := ins_get I.hok ea
    obtain ⟨od, J, _⟩ := O.look
    exact PySem.W.kia_one (PySem.W.kitx_own (cl.get _) cl.hd ha hn htk hm) I.kIn J e (fun z => nomatch z) h
end
end L2

namespace L2
open PySem PySem.Spec PyProof.Rows

/-! ### room -/
structure Room (k : Nat) (A : Around) : Prop where
  hd : A.handled = none
  dp : A.depth + 3 * k + 5 < recursionLimit
  un : A.units + 16 * k + 200 < cLine
theorem Room.mono {j k : Nat} {A : Around} (r : Room k A) (h : j ≤ k) : Room j A := ⟨r.hd, by have := r.dp; omega, by have := r.un; omega⟩
theorem Room.deeper {k : Nat} {A : Around} (r : Room (k + 1) A) (env : Env) : Room k (A.deeper env) :=
  ⟨r.hd, by have := r.dp; show A.depth + 1 + 3 * k + 5 < _; omega, by have := r.un; show A.units + 3 + 16 * k + 200 < _; omega⟩
theorem Room.in1 {k : Nat} {A : Around} (r : Room (k + 1) A) : Room k A.in1 :=
  ⟨r.hd, by have := r.dp; show A.depth + 3 * k + 5 < _; omega, by have := r.un; show A.units + 1 + 16 * k + 200 < _; omega⟩
theorem Room.depth {k : Nat} {A : Around} (r : Room k A) : A.depth < recursionLimit := by have := r.dp; omega
theorem Room.units {k : Nat} {A : Around} (r : Room k A) : A.units + 64 < cLine := by have := r.un; omega

/-! ### argument lists and displays -/
def tNil : TA := fun _ H Q => Q [] H
def tCons (ta : TE) (tr : TA) : TA := fun σ H Q => ta σ H fun x H1 => tr σ H1 fun xs H2 => Q (x :: xs) H2
section
variable {X : Cx} {e : Expr} {es : List Expr} {te : TE} {t : TA} {pos : Pos}
theorem pa_nil : PA X [] tNil := fun _ _ _ _ H Q I h => Calls.spliced_nil ⟨[], H, I, .nil, h⟩
theorem pa_cons (ha : PE X e te) (hr : PA X es t) (hs : starEach (e :: es) X.env = (false, eval e X.env) :: starEach es X.env := by rfl) : PA X (e :: es) (tCons te t) := by
  intro pos pins s σ H Q I h
  rw [hs]
  show wpAny _ _ (spliced ((false, eval e X.env) :: backTo pos (starEach es X.env))) _ _ s
  refine Calls.spliced_cons (thn (ha pins s σ H _ I h) fun u s1 hh => ?_)
  obtain ⟨x, H1, I1, r1, q1⟩ := hh
  exact thn (hr pos pins s1 σ H1 _ I1 q1) fun us s2 ⟨xs, H2, I2, r2, q2⟩ => ⟨x :: xs, H2, I2, .cons r1 r2, q2⟩

/-- a tuple, a list of written items -/
def tTup (t : TA) : TE := fun σ H Q => t σ H fun xs H1 => xs.length ≤ sizeLine ∧ ∀ p, H1 p = none → Q (.ref p) (upd H1 p (.tup xs))
theorem pe_tup {x1} (h : PA X es t) : PE X (.Tuple es x1 pos) (tTup t) := by
  intro pins s σ H Q I hq
  refine wpAny_Tuple_spliced (thn (h pos pins s σ H _ I hq) fun us s1 ⟨xs, H1, I1, r, z, q⟩ => ⟨by rw [← r.length]; exact z, ?_⟩)
  have hf : H1 s1.heap.objs.size = none := I1.hok.fresh (Nat.le_refl _)
  refine ⟨.ref s1.heap.objs.size, upd H1 s1.heap.objs.size (.tup xs), I1.laid (t' := s1.toks) (fun b u e => Heap.get?_push_of_some _ e) (Nat.le_refl _) ?_, rfl, q _ hf⟩
  exact ⟨z, us, r, ⟨_, Heap.get?_push_size _ rfl, rfl, _, rfl⟩⟩
end

/-! ### what a def promises -/
/-- a def's promise: the bound arguments in the parameters' order, the heap, the wanted end, the wanted exception -/
abbrev Sp := List V → Hp → VK → XK → Prop
/-- how an exception lies behind a call (file 08 gives it): the callers' frames, abstract heap and state ahead of the call, the wish, the exception, the state -/
abbrev CXT := List Env → Hp → Shared → XK → Value → Shared → Prop

/-- the state at a call -/
structure Env0 (P : Program) (w : World) (K : PySem.W.Frag) (mg : Str → Option Value) (base : Heap) (A : Around) (outer : List Env) (s : Shared) (H : Hp) : Prop where
  frames : A.frames = some outer
  mod : Mod K mg base
  bs : ∀ b o, base.get? b = some o → s.heap.get? b = some o ∧ H b = none
  bsz : base.objs.size ≤ s.heap.objs.size
  funs : s.heap.FunFrames base outer
  frf : ∀ b ∈ frs outer, H b = none
  hok : HOk P w H s.heap
  bare : AllBare s.gens
  tb : TB P K mg base H
/-- a call's end -/
def CE (outer : List Env) (P : Program) (w : World) (H : Hp) (s : Shared) (Q : VK) (u : Value) (s' : Shared) : Prop :=
  ∃ v H', s'.os = s.os ∧ AllBare s'.gens ∧ Un (frs outer) [] H H' s.heap s'.heap ∧ HOk P w H' s'.heap ∧ RelV v u ∧ Q v H'
def CR (CX : CXT) (outer : List Env) (P : Program) (w : World) (H : Hp) (s : Shared) (Q : VK) (E : XK) (r : Result) (s' : Shared) : Prop :=
  match r with
  | .ok (.ret u) => CE outer P w H s Q u s'
  | .ok _ => False
  | .error e => CX outer H s E e s'
structure FnOk (P : Program) (w : World) (K : PySem.W.Frag) (mg : Str → Option Value) (base : Heap) (CX : CXT) (k : Nat) (f : Addr) (fd : FuncData) (ps : List Str) (sp : Sp) : Prop where
  len : ∀ vs H Q E, sp vs H Q E → vs.length = ps.length
  run : ∀ (A : Around) (outer : List Env) (s : Shared) (H : Hp) (args : Args) (us : List Value) (vs : List V) (Q : VK) (E : XK), Room k A → Env0 P w K mg base A outer s H → BindsTo s fd args (ps.zip us) → Vals vs us → sp vs H Q E →
    codeAny (model P w) A (.call (.ref f) args) (CR CX outer P w H s Q E) s
theorem FnOk.mono {P : Program} {w : World} {K : PySem.W.Frag} {mg : Str → Option Value} {base : Heap} {CX : CXT} {j k : Nat} {f : Addr} {fd : FuncData} {ps : List Str} {sp : Sp} (F : FnOk P w K mg base CX j f fd ps sp) (h : j ≤ k) :
    FnOk P w K mg base CX k f fd ps sp := ⟨F.len, fun A outer s H args us vs Q E hr => F.run A outer s H args us vs Q E (hr.mono h)⟩

theorem Env0.in1 {P : Program} {w : World} {K : PySem.W.Frag} {mg : Str → Option Value} {base : Heap} {A : Around} {outer : List Env} {s : Shared} {H : Hp} (e : Env0 P w K mg base A outer s H) :
    Env0 P w K mg base A.in1 outer s H := ⟨e.frames, e.mod, e.bs, e.bsz, e.funs, e.frf, e.hok, e.bare, e.tb⟩

section
variable {X : Cx} {pins : List (Addr × Obj)} {σ : St} {H : Hp} {s s' : Shared}
/-- from a body: what a callee wants -/
theorem Inv.env0 (I : Inv X pins σ H s) : Env0 X.prog X.w X.K X.mg X.base X.A X.stack s H :=
  ⟨I.ok.frames, I.ok.mod, I.bs, Nat.le_trans I.ok.bsz I.sz, I.stack, I.stkFree, I.hok, I.bare, I.tb⟩
/-- behind a call -/
theorem Inv.after {Q : VK} {u : Value} (I : Inv X pins σ H s) (h : CE X.stack X.prog X.w H s Q u s') : EP X pins σ Q u s' := by
  obtain ⟨v, H', os, bare, un, hok, r, q⟩ := h
  obtain ⟨hh, g, d, t, os'⟩ := s'
  obtain rfl : os' = s.os := os
  exact ⟨v, H', I.call (h' := hh) (g' := g) (d' := d) (t' := t) (ch := []) un hok bare (fun b z => absurd z (by simp)), r, q⟩
end

/-! ### calls -/
/-- f(..): the written arguments, then the defaults dvs; E: what is wanted of an exception -/
def tCall (sp : Sp) (dvs : List V) (E : XK) (t : TA) : TE := fun σ H Q => t σ H fun vs H1 => sp (vs ++ dvs) H1 Q E

/-- how the parameters are bound: us the positional arguments, kw the keywords' values by name, ds the defaults that fill up -/
def Binds (K : PySem.W.Frag) (fd : FuncData) (ps : List Str) (ds : List Value) : Prop :=
  ∀ (s : Shared) (us : List Value), K.In s.heap → (us ++ ds).length = ps.length → BindsTo s fd ⟨us, []⟩ (ps.zip (us ++ ds))
/-- every parameter is given -/
theorem Binds.all {K : PySem.W.Frag} {fd : FuncData} {ps : List Str} (h : ∀ us : List Value, us.length = ps.length → bindArgs fd ⟨us, []⟩ = pure (ps.zip us)) : Binds K fd ps [] := fun s us _ hl => by
  rw [List.append_nil] at hl ⊢
  exact .of_eq (h us hl)

/-- an exception of a callee reaches what this body wants of exceptions -/
def Passes (CX : CXT) (X : Cx) (E : XK) : Prop := ∀ (pins : List (Addr × Obj)) (σ : St) (H : Hp) (s : Shared) (e : Value) (s' : Shared), Inv X pins σ H s → CX X.stack H s E e s' → X.xe e s'

section
variable {X : Cx} {CX : CXT} {k : Nat} {f C : Addr} {fd : FuncData} {ps : List Str} {sp : Sp} {dvs : List V} {ds : List Value} {E : XK} {x m : Str} {p pos apos : Pos} {e o : Expr} {es : List Expr} {ta : TE} {t : TA}

/-- the callee runs -/
theorem run_fn {pins : List (Addr × Obj)} {σ : St} {H : Hp} {s : Shared} {Q : VK} {us : List Value} {vs : List V} (F : FnOk X.prog X.w X.K X.mg X.base CX k f fd ps sp) (hr : Room k X.A) (hb : Binds X.K fd ps ds) (hd : Vals dvs ds) (hx : Passes CX X E)
    (I : Inv X pins σ H s) (r : Vals vs us) (h : sp (vs ++ dvs) H Q E) : wpAny (model X.prog X.w) X.A (call (.ref f) us) (EP X pins σ Q) X.xe s := by
  have r2 : Vals (vs ++ dvs) (us ++ ds) := r.append hd
  have hl : (us ++ ds).length = ps.length := by rw [← r2.length]; exact F.len _ _ _ _ h
  refine wpAny_call (codeAny_mono (F.run X.A X.stack s H ⟨us, []⟩ (us ++ ds) (vs ++ dvs) Q E hr I.env0 (hb s us I.kIn hl) r2 h) fun r s' hq => ?_)
  cases r with
  | error e => exact hx pins σ H s e s' I hq
  | ok fl =>
    cases fl with
    | ret u => exact I.after hq
    | next => exact False.elim hq
    | brk => exact False.elim hq
    | cont => exact False.elim hq

theorem pe_call (F : FnOk X.prog X.w X.K X.mg X.base CX k f fd ps sp) (hr : Room k X.A) (hg : Gl X x) (hm : X.mg x = some (.ref f)) (hk : PySem.W.keepIn X.K (.ref f) = true) (hb : Binds X.K fd ps ds) (hd : Vals dvs ds) (hx : Passes CX X E)
    (ha : PA X (e :: es) t) (hdb : (x == ("__debug__" : Str)) = false := by decide) (he : starEach (e :: es) X.env = (false, eval e X.env) :: starEach es X.env := by rfl) (hpl : (backTo pos (starEach es X.env)).any (·.1) = false := by rfl) :
    PE X (.Call (.Name x p) (e :: es) [] pos) (tCall sp dvs E t) := by
  intro pins s σ H Q I h
  refine wpAny_Call_Name_kw (ld_glob I hg hm ?_ hdb)
  refine PySem.W.callWith_K (h₀ := X.base) I.ok.mod.kin hk (thn (ha pos pins s σ H _ I h) fun us s1 ⟨vs, H1, I1, r, q⟩ => ⟨I1.kIn, ?_⟩) he hpl
  exact run_fn F hr hb hd hx I1 r q



end

/-! ### keywords -/
/-- the values of the keywords, from the left -/
def PK (X : Cx) (kws : List Keyword) (t : TA) : Prop :=
  ∀ (pos : Pos) (pins : List (Addr × Obj)) (s : Shared) (σ : St) (H : Hp) (Q : List V → Hp → Prop), Inv X pins σ H s → t σ H Q → wpAny (model X.prog X.w) X.A (evalAll ((backToKw pos (keywordEach kws X.env)).map (·.2))) (AP X pins σ Q) X.xe s
section
variable {X : Cx} {CX : CXT} {k : Nat} {f C : Addr} {fd : FuncData} {ps ks : List Str} {sp : Sp} {E : XK} {x m : Str} {p pos apos kpos : Pos} {e o : Expr} {es : List Expr} {kws : List Keyword} {te ta : TE} {t tk : TA} {nm : Option Str}
theorem pk_nil : PK X [] tNil := fun _ _ _ _ H Q I h => wpAny_evalAll_nil ⟨[], H, I, .nil, h⟩
theorem pk_cons (ha : PE X e te) (hr : PK X kws t) : PK X (⟨nm, e, kpos⟩ :: kws) (tCons te t) := by
  intro pos pins s σ H Q I h
  show wpAny _ _ (evalAll ((do let v ← eval e X.env; standAt pos; pure v) :: (backToKw pos (keywordEach kws X.env)).map (·.2))) _ _ s
  refine wpAny_evalAll_cons (wpAny_bind (thn (ha pins s σ H _ I h) fun u s1 ⟨x, H1, I1, r1, q1⟩ => wpAny_bind (wpAny_standAt (wpAny_pure ?_))))
  exact thn (hr pos pins s1 σ H1 _ I1 q1) fun us s2 ⟨xs, H2, I2, r2, q2⟩ => ⟨x :: xs, H2, I2, .cons r1 r2, q2⟩

variable {g : List Value → List Value → List Value} {gV : List V → List V → List V}
end

/-! ### a def's body keeps its promise -/
/-- names: the parameters first -/
structure FnScope (N P : List Str) (sc : Scope) : Prop where
  kind : sc.kind = .function
  co : sc.isCoroutine = false
  gen : sc.isGenerator = false
  nd : N.Nodup
  pre : N.take P.length = P
  par : ∀ x ∈ P, sc.names.lookup x = some .local ∨ sc.names.lookup x = some .cell
  nofree : ∀ y ∈ sc.names, y.2 ≠ .free

theorem bindL_out {kindOf : Str → Option NameKind} {x : Str} : ∀ {binds : List (Str × Value)} {m : Str → Option Value}, (∀ v, (x, v) ∉ binds) → bindL kindOf binds m x = m x
  | [], _, _ => rfl
  | (n, v) :: r, m, h => by
    unfold bindL
    rw [bindL_out fun w hw => h w (List.mem_cons_of_mem _ hw)]
    split
    · have : x ≠ n := by rintro rfl; exact h v List.mem_cons_self
      simp [this]
    · rfl
theorem bindC_out {kindOf : Str → Option NameKind} {x : Str} : ∀ {binds : List (Str × Value)} {m : Str → Option Value}, (∀ v, (x, v) ∉ binds) → bindC kindOf binds m x = m x
  | [], _, _ => rfl
  | (n, v) :: r, m, h => by
    unfold bindC
    rw [bindC_out fun w hw => h w (List.mem_cons_of_mem _ hw)]
    split
    · rfl
    · have : x ≠ n := by rintro rfl; exact h v List.mem_cons_self
      simp [this]
theorem bindL_get {kindOf : Str → Option NameKind} {x : Str} {v : Value} : ∀ {P : List Str} {vs : List Value} {i : Nat} {m : Str → Option Value}, P.Nodup → P[i]? = some x → vs[i]? = some v → kindOf x = some .local →
    bindL kindOf (P.zip vs) m x = some v
  | [], _, _, _, _, h, _, _ => by simp at h
  | _ :: _, [], _, _, _, _, h, _ => by simp at h
  | p :: P, w :: vs, 0, m, nd, h1, h2, hk => by
    simp at h1 h2; subst h1; subst h2
    show bindL kindOf ((p, w) :: P.zip vs) m p = _
    unfold bindL
    rw [bindL_out fun v hv => (List.nodup_cons.mp nd).1 (List.of_mem_zip hv).1, if_pos hk]
    simp
  | p :: P, w :: vs, i + 1, m, nd, h1, h2, hk => by
    show bindL kindOf ((p, w) :: P.zip vs) m x = _
    unfold bindL
    exact bindL_get (i := i) (List.nodup_cons.mp nd).2 (by simpa using h1) (by simpa using h2) hk
theorem bindC_get {kindOf : Str → Option NameKind} {x : Str} {v : Value} : ∀ {P : List Str} {vs : List Value} {i : Nat} {m : Str → Option Value}, P.Nodup → P[i]? = some x → vs[i]? = some v → kindOf x ≠ some .local →
    bindC kindOf (P.zip vs) m x = some v
  | [], _, _, _, _, h, _, _ => by simp at h
  | _ :: _, [], _, _, _, _, h, _ => by simp at h
  | p :: P, w :: vs, 0, m, nd, h1, h2, hk => by
    simp at h1 h2; subst h1; subst h2
    show bindC kindOf ((p, w) :: P.zip vs) m p = _
    unfold bindC
    rw [bindC_out fun v hv => (List.nodup_cons.mp nd).1 (List.of_mem_zip hv).1, if_neg hk]
    simp
  | p :: P, w :: vs, i + 1, m, nd, h1, h2, hk => by
    show bindC kindOf ((p, w) :: P.zip vs) m x = _
    unfold bindC
    exact bindC_get (i := i) (List.nodup_cons.mp nd).2 (by simpa using h1) (by simpa using h2) hk

/-- the names' values at the entry -/
def start (N : List Str) (vs : List V) : St := vs.map some ++ List.replicate (N.length - vs.length) none

/-- the context of a def's body, at its entry; an exception leaves the frame, then lies as CX says -/
def cxOf (CX : CXT) (P : Program) (w : World) (K : PySem.W.Frag) (mg : Str → Option Value) (base : Heap) (N : List Str) (qual : Str) (scope : Scope) (f : Addr) (cd : Value) (A : Around) (outer : List Env) (s : Shared) (H : Hp) (E : XK) : Cx where
  prog := P
  w := w
  K := K
  mg := mg
  base := base
  A := A.deeper (envOfC qual scope s.heap.objs.size f cd)
  N := N
  s₀ := s
  H₀ := H
  env := envOfC qual scope s.heap.objs.size f cd
  outer := outer
  stack := envOfC qual scope s.heap.objs.size f cd :: outer
  ex := []
  calm := true
  fn := fun _ => true
  pn := []
  xe := fun e s' => wpAny (model P w) (A.deeper (envOfC qual scope s.heap.objs.size f cd)) (leaving (envOfC qual scope s.heap.objs.size f cd) e) (fun _ s'' => CX outer H s E e s'') (fun e' s'' => CX outer H s E e' s'') s'

theorem cell_has {sc : Scope} {n : Nat} {x : Str} (h : sc.names.lookup x = some .cell) : ∃ c, (cellsFrom n sc.names []).lookup x = some c := by
  have q := PySem.W.cellsFrom_some sc.names n [] (.inl h)
  exact Option.isSome_iff_exists.mp q

theorem inv_start {CX : CXT} {P : Program} {w : World} {K : PySem.W.Frag} {mg : Str → Option Value} {base : Heap} {N ps : List Str} {qual : Str} {scope : Scope} {f : Addr} {cd : Value} {A : Around} {outer : List Env} {s s1 : Shared} {H : Hp} {E : XK} {us : List Value} {vs : List V}
    (S : FnScope N ps scope) (hd : A.handled = none) (e0 : Env0 P w K mg base A outer s H) (hl : vs.length = ps.length) (r : Vals vs us)
    (x : InCallC s s.heap.objs.size (bindL (envOfC qual scope s.heap.objs.size f cd).kindOf (ps.zip us) fun _ => none) (cellsFrom (s.heap.objs.size + 1) scope.names []) (bindC (envOfC qual scope s.heap.objs.size f cd).kindOf (ps.zip us) fun _ => none) s1) :
    Inv (cxOf CX P w K mg base N qual scope f cd A outer s H E) [] (start N vs) H s1 := by
  have hpl : ps.length ≤ N.length := by have := congrArg List.length S.pre; rw [List.length_take] at this; omega
  obtain ⟨h1, tk, rfl, hk⟩ := x.done
  have noA : ∀ b : Addr, b ∉ (cxOf CX P w K mg base N qual scope f cd A outer s H E).ex := fun b z => absurd (show b ∈ ([] : List Addr) from z) (by simp)
  refine ⟨⟨e0.mod, S.kind, rfl, rfl, Nat.le_refl _, fun y z c h1 h2 => ?_, fun y hy => ?_, fun y c _ h => ?_, fun _ => hd, Around.frames_deeper e0.frames, .inr ⟨rfl, rfl⟩, fun b z => absurd z (noA b), e0.bs, e0.bsz, fun b _ _ => noA b, fun b z => absurd z (noA b), e0.funs, e0.frf, e0.tb⟩,
    rfl, e0.bare, Un.kept hk, ⟨_, x.toInCall.ns, fun i y v h1 h2 h3 => ?_⟩, fun y c h => ⟨_, x.cell y c h⟩, e0.hok.fresh (Nat.le_refl _), fun y c h => ?_, fun p hp => absurd (show p ∈ ([] : List (Addr × Obj)) from hp) (by simp), e0.hok.kept hk, ?_⟩
  · exact name_of_addr x.apart (PySem.mem_of_lookup h1) (PySem.mem_of_lookup h2)
  · have hy : scope.names.lookup y = some .cell ∨ scope.names.lookup y = some .free := hy
    rcases hy with hy | hy
    · exact cell_has hy
    · exact absurd rfl (S.nofree _ (PySem.mem_of_lookup hy))
  · exact Nat.le_of_lt (x.above y c (PySem.mem_of_lookup h))
  · have hi : i < vs.length := by
      unfold start at h2
      by_cases hi : i < vs.length
      · exact hi
      · rw [List.getElem?_append_right (by simpa using hi)] at h2
        rw [List.getElem?_replicate] at h2
        split at h2 <;> cases h2
    have ha : vs[i]? = some v := by
      unfold start at h2
      rw [List.getElem?_append_left (by simpa using hi), List.getElem?_map] at h2
      cases e : vs[i]? with
      | none => rw [e] at h2; cases h2
      | some a => rw [e] at h2; cases h2; rfl
    obtain ⟨u, hu, rv⟩ := r.get ha
    have hp : ps[i]? = some y := by
      rw [← S.pre, List.getElem?_take_of_lt (by omega)]; exact h1
    have ndP : ps.Nodup := by rw [← S.pre]; exact S.nd.sublist (List.take_sublist _ _)
    refine ⟨u, rv, ?_⟩
    rcases S.par y (List.mem_of_getElem? hp) with k | k
    · exact .inl ⟨k, bindL_get ndP hp hu k⟩
    · obtain ⟨c, e⟩ := cell_has (n := s.heap.objs.size + 1) k
      refine .inr ⟨.inl k, c, e, ?_⟩
      have q := x.cell y c e
      rw [bindC_get ndP hp hu (by show scope.names.lookup y ≠ _; rw [k]; decide)] at q
      exact q
  · exact e0.hok.fresh (Nat.le_of_lt (x.above y c (PySem.mem_of_lookup h)))
  · unfold start
    show _ = N.length
    rw [List.length_append, List.length_map, List.length_replicate]
    omega

/-- THE RULE: a def (or a method) of the text, by its body. The body's reading t is chosen for each entry; it is run at the parameters' values -/
theorem fn_of {CX : CXT} {P : Program} {w : World} {K : PySem.W.Frag} {mg : Str → Option Value} {base : Heap} {k : Nat} {f : Addr} {name qual : Str} {params : Arguments} {body : List Stmt} {scope : Scope} {dV kV doc pm cdv ct oc : Value} {an od : Option Addr}
    {osl : Array (Option Value)} {N ps : List Str} {sp : Sp} (lk : K.lookup f = some ⟨oc, od, .func (PySem.W.fnOf name qual params body scope dV kV doc pm an cdv ct), osl⟩) (hcd : PySem.W.codeIn K cdv qual = true) (S : FnScope N ps scope)
    (len : ∀ vs H Q E, sp vs H Q E → vs.length = ps.length)
    (hbody : ∀ (A : Around) (outer : List Env) (s : Shared) (H : Hp) (vs : List V) (Q : VK) (E : XK), Room k (A.deeper (envOfC qual scope s.heap.objs.size f cdv)) → sp vs H Q E →
      ∃ t, PSs (cxOf CX P w K mg base N qual scope f cdv A outer s H E) body t ∧ t { nx := fun _ H' => Q .non H', rt := Q } (start N vs) H) :
    FnOk P w K mg base CX (k + 1) f (PySem.W.fnOf name qual params body scope dV kV doc pm an cdv ct) ps sp := by
  refine ⟨len, fun A outer s H args us vs Q E hr e0 hb r hsp => ?_⟩
  have hl := len _ _ _ _ hsp
  have KX : K.In s.heap := e0.mod.kin.keeps fun b o e => (e0.bs b o e).1
  have lim : s.heap.NoLimit := e0.mod.nolimit.keeps fun b o e => (e0.bs b o e).1
  have hkind : ∀ y ∈ ps.zip us, scope.names.lookup y.1 = some .local ∨ (scope.names.lookup y.1 = some .cell ∧ ((cellsFrom (s.heap.objs.size + 1) scope.names []).lookup y.1).isSome = true) := fun ⟨n, v⟩ hy => by
    rcases S.par n (List.of_mem_zip hy).1 with q | q
    · exact .inl q
    · exact .inr ⟨q, PySem.W.cellsFrom_some _ _ _ (.inl q)⟩
  refine codeAny_call_function hr.depth (KX _ _ lk) rfl S.co S.gen rfl (PySem.W.codeRec_of KX hcd) (hb _ _ _ _ ?_)
  refine wpAny_newFunctionEnv_cells S.kind hkind fun env he s1 x => ?_
  subst he
  refine ⟨lim.keeps x.toInCall.keep, codeAny_func ?_⟩
  obtain ⟨t, ht, hq⟩ := hbody A outer s H vs Q E (hr.deeper _) hsp
  have I : Inv (cxOf CX P w K mg base N qual scope f cdv A outer s H E) [] (start N vs) H s1 := inv_start S hr.hd e0 hl r x
  refine wpAny_mono (ht [] s1 (start N vs) H _ I hq) (fun fl s' hs => ?_) fun e s' hs => hs
  have fin : ∀ {σ' : St} {H' : Hp} {v : V} {u : Value}, Inv (cxOf CX P w K mg base N qual scope f cdv A outer s H E) [] σ' H' s' → RelV v u → Q v H' → CE outer P w H s Q u s' :=
    fun {σ' H' v u} J rv q => ⟨v, H', J.os, J.bare, J.base, J.hok, rv, q⟩
  cases fl with
  | ret u =>
    obtain ⟨v, σ', H', J, rv, q⟩ := hs
    exact fin J rv q
  | next =>
    obtain ⟨σ', H', J, q⟩ := hs
    exact fin (v := V.non) (u := Value.none) J rfl q
  | brk =>
    obtain ⟨_, _, _, q⟩ := hs
    exact False.elim q
  | cont =>
    obtain ⟨_, _, _, q⟩ := hs
    exact False.elim q
end L2

namespace L2
open PySem PySem.Spec PyProof.Rows
section
variable {X : Cx} {x : Str} {p pos : Pos} {e : Expr} {es : List Expr} {t : TA} {id T : String} {r : List V → Hp → VK → Prop}

def tCB (r : List V → Hp → VK → Prop) (t : TA) : TE := fun σ H Q => t σ H fun vs H1 => r vs H1 Q
/-- f(e, ..), f a built-in function -/
theorem pe_callB (hc : CallR X (.builtin id) r) (hg : Gl X x) (hm : X.mg x = none) (hv : bootBuiltins x = some (.builtin id)) (ha : PA X (e :: es) t) (hn : x ≠ "__name__" := by decide) (hdb : (x == ("__debug__" : Str)) = false := by decide)
    (he : starEach (e :: es) X.env = (false, eval e X.env) :: starEach es X.env := by rfl) (hpl : (backTo pos (starEach es X.env)).any (·.1) = false := by rfl) : PE X (.Call (.Name x p) (e :: es) [] pos) (tCB r t) := by
  intro pins s σ H Q I h
  refine wpAny_Call_Name_kw (ld_blt I hg hm hv ?_ hn hdb)
  exact PyProof.Rows.callWith_builtin1 (thn (ha pos pins s σ H _ I h) fun us s1 ⟨vs, H1, I1, r1, q1⟩ => hc pins s1 σ H1 vs us Q I1 r1 q1) he hpl
/-- T(e, ..), T a built-in type -/
theorem pe_callTy (hc : CallR X (.type T) r) (hg : Gl X x) (hm : X.mg x = none) (hv : bootBuiltins x = some (.type T)) (ha : PA X (e :: es) t) (hn : x ≠ "__name__" := by decide) (hdb : (x == ("__debug__" : Str)) = false := by decide)
    (he : starEach (e :: es) X.env = (false, eval e X.env) :: starEach es X.env := by rfl) (hpl : (backTo pos (starEach es X.env)).any (·.1) = false := by rfl) : PE X (.Call (.Name x p) (e :: es) [] pos) (tCB r t) := by
  intro pins s σ H Q I h
  refine wpAny_Call_Name_kw (ld_blt I hg hm hv ?_ hn hdb)
  exact PyProof.Rows.callWith_type1 (thn (ha pos pins s σ H _ I h) fun us s1 ⟨vs, H1, I1, r1, q1⟩ => hc pins s1 σ H1 vs us Q I1 r1 q1) he hpl
end
end L2

namespace HT
open PySem PyProof.Rows



section
open PySem.SeqAt
open PySem.AutoSeq1 (wpAny_loadPart')
open PySem.MeetsSeq PySem.MeetsSeq2 PySem.MeetsSeq3

end

section
variable {prog : Program} {w : World} {A : Around} {E : Value → Shared → Prop} {s : Shared}


/-- t + u, t not empty -/
theorem cat_tup {t b : Addr} {vs ws : List Value} {Q : Value → Shared → Prop} (ht : IsTup s.heap t vs.toArray) (hb : IsTup s.heap b ws.toArray) (hv : vs ≠ [])
    (h1 : ws = [] → Q (.ref t) s) (h2 : ws ≠ [] → Q (.ref s.heap.objs.size) { s with heap := s.heap.push { cls := .type "tuple", data := .seq (vs ++ ws).toArray } })
    (hsz : vs.length + ws.length ≤ sizeLine) : wpAny (model prog w) A (binaryOp .Add (.ref t) (.ref b)) Q E s := by
  obtain ⟨⟨cls, dd, data, sl⟩, ho, hc, n, hd⟩ := id ht
  obtain ⟨⟨cls2, dd2, data2, sl2⟩, ho2, hc2, n2, hd2⟩ := id hb
  simp only at hc hd hc2 hd2
  subst hc hd hc2 hd2
  have e : vs.toArray ++ ws.toArray = (vs ++ ws).toArray := by simp
  by_cases hw : ws = []
  · exact concat_meets ⟨_, ho, rfl⟩ ⟨_, ho2, rfl⟩ noFill_tuple_add seq_tuple_add PySem.F.slot_tuple_add PySem.F.entry_tuple_add (PySem.F.args_tuple_add_2 _ _)
      (tuple_addW1 t b vs.toArray ws.toArray n n2 dd dd2 sl sl2 (by simpa using hv) (by simp [hw])) ⟨ho, ho2, h1 hw⟩
  · refine concat_meets ⟨_, ho, rfl⟩ ⟨_, ho2, rfl⟩ noFill_tuple_add seq_tuple_add PySem.F.slot_tuple_add PySem.F.entry_tuple_add (PySem.F.args_tuple_add_2 _ _)
      (tuple_addW2 t b vs.toArray ws.toArray n n2 dd dd2 sl sl2 (by simpa using hv) (by simpa using hw) (by rw [List.size_toArray, List.size_toArray]; exact hsz)) ⟨ho, ho2, ?_⟩
    rw [e]
    exact h2 hw

/-! ### t[a:b], not the whole -/
/-- a slice's bound as a place among n (d where it is left out) -/
def sIx (n d : Nat) : Option Int → Nat
  | none => d
  | some v => if v < 0 then (v + (n : Int)).toNat else min v.toNat n
theorem sIx_none (n d : Nat) : sIx n d none = d := rfl
theorem sIx_nat (n d k : Nat) : sIx n d (some (k : Int)) = min k n := by
  show (if (k : Int) < 0 then ((k : Int) + (n : Int)).toNat else min (k : Int).toNat n) = min k n
  rw [if_neg (by omega), Int.toNat_natCast]
theorem sIx_le (n d : Nat) (hd : d ≤ n) (o : Option Int) : sIx n d o ≤ n := by
  cases o with
  | none => exact hd
  | some v =>
    show (if v < 0 then (v + (n : Int)).toNat else min v.toNat n) ≤ n
    by_cases hv : v < 0
    · rw [if_pos hv]; omega
    · rw [if_neg hv]; exact Nat.min_le_right _ _
theorem clip_eq (v : Int) (n d : Nat) : (if v < 0 then max (v + (n : Int)) 0 else min v (n : Int)) = ((sIx n d (some v) : Nat) : Int) := by
  show (if v < 0 then max (v + (n : Int)) 0 else min v (n : Int)) = (((if v < 0 then (v + (n : Int)).toNat else min v.toNat n) : Nat) : Int)
  by_cases hv : v < 0
  · simp only [if_pos hv]; omega
  · simp only [if_neg hv]; omega
theorem adjust_gen (lo hi : Option Int) (n : Nat) : Builtin.Slice.sliceAdjust lo hi 1 (n : Int) = (((sIx n 0 lo : Nat) : Int), ((sIx n n hi : Nat) : Int)) := by
  have h1 : ¬ ((1 : Int) < 0) := by omega
  unfold Builtin.Slice.sliceAdjust
  simp only [h1, if_false]
  refine Prod.ext ?_ ?_
  · cases lo with
    | none => rfl
    | some v => exact clip_eq v n 0
  · cases hi with
    | none => rfl
    | some v => exact clip_eq v n n
theorem places_gen (i j : Nat) : Builtin.Slice.slicePlaces (i : Int) (j : Int) 1 = j - i := by
  unfold Builtin.Slice.slicePlaces
  have h1 : (1 : Int) > 0 := by omega
  simp only [h1, if_true, Int.ediv_one]
  split <;> omega
theorem slicePart_ {v : Value} {o : Option Int} {Q : Option Int → Shared → Prop} (p : IsPart v o) (h : Q o s) : wpAny (model prog w) A (Builtin.Slice.slicePartIndex v) Q E s := by
  cases p with
  | none => exact slicePart_none h
  | int i t => exact slicePart_int h
theorem sliceApplied_gen {sl : Addr} {vl vu : Value} {lo hi : Option Int} {n : Nat} {Q : Int × Int × Nat → Shared → Prop} (hs : s.heap.IsSliceOf sl vl vu .none) (pl : IsPart vl lo) (pu : IsPart vu hi)
    (h : Q (((sIx n 0 lo : Nat) : Int), 1, sIx n n hi - sIx n 0 lo) s) : wpAny (model prog w) A (Builtin.Slice.sliceApplied (.ref sl) (pure (n : Int))) Q E s := by
  obtain ⟨os, hos, hcs, hds⟩ := id hs
  unfold Builtin.Slice.sliceApplied Builtin.Slice.sliceFields
  refine wpAny_bind (wpAny_bind (wpAny_field hos hds (x := vl) rfl (wpAny_bind (wpAny_field hos hds (x := vu) rfl (wpAny_bind (wpAny_field hos hds (x := .none) rfl (wpAny_pure ?_)))))))
  refine wpAny_bind (slicePart_none ?_)
  show wpAny _ _ (if ((1 : Int) == 0) = true then _ else _) _ _ s
  rw [if_neg (by decide)]
  refine wpAny_bind (slicePart_ pl (wpAny_bind (slicePart_ pu (wpAny_bind (wpAny_pure ?_)))))
  show wpAny _ _ (match Builtin.Slice.sliceAdjust lo hi 1 (n : Int) with | (lo, hi) => pure (lo, (1 : Int), Builtin.Slice.slicePlaces lo hi 1)) _ _ s
  rw [adjust_gen lo hi n]
  show wpAny _ _ (pure (((sIx n 0 lo : Nat) : Int), (1 : Int), Builtin.Slice.slicePlaces ((sIx n 0 lo : Nat) : Int) ((sIx n n hi : Nat) : Int) 1)) _ _ s
  rw [places_gen]
  exact wpAny_pure h
theorem pick_gen (xs : Array Value) (i k : Nat) : ((List.range k).filterMap fun (m : Nat) => xs[((i : Int) + (m : Int) * 1).toNat]?).toArray = ((xs.toList.drop i).take k).toArray := by
  have e : (fun (m : Nat) => xs[((i : Int) + (m : Int) * 1).toNat]?) = fun m => xs[i + m]? := by
    funext m
    have : ((i : Int) + (m : Int) * 1).toNat = i + m := by omega
    rw [this]
  rw [e]
  have := pick_run xs i k
  rw [List.filterMap_map] at this
  have e2 : ((fun x => xs[x]?) ∘ fun x => i + x) = fun m => xs[i + m]? := rfl
  rw [e2] at this
  rw [this]

theorem getItem_tuple_cut {t sl : Addr} {items : Array Value} {vl vu : Value} {lo hi : Option Int} {Q : Value → Shared → Prop} (ht : IsTup s.heap t items) (hs : s.heap.IsSliceOf sl vl vu .none) (pl : IsPart vl lo) (pu : IsPart vu hi)
    (hw : ¬ (sIx items.size 0 lo = 0 ∧ sIx items.size items.size hi = items.size))
    (h : Q (.ref s.heap.objs.size) { s with heap := s.heap.push { cls := .type "tuple", data := .seq ((items.toList.drop (sIx items.size 0 lo)).take (sIx items.size items.size hi - sIx items.size 0 lo)).toArray } })
    (hsz : items.size ≤ sizeLine) : wpAny (model prog w) A (getItem (.ref t) (.ref sl)) Q E s := by
  have htake : sizeOk (.seq ((items.toList.drop (sIx items.size 0 lo)).take (sIx items.size items.size hi - sIx items.size 0 lo)).toArray) := by
    show ((items.toList.drop (sIx items.size 0 lo)).take (sIx items.size items.size hi - sIx items.size 0 lo)).toArray.size ≤ sizeLine
    rw [List.size_toArray, List.length_take, List.length_drop, Array.length_toList]
    omega
  have hj : sIx items.size items.size hi ≤ items.size := sIx_le _ _ (Nat.le_refl _) hi
  obtain ⟨os, hos, hcs, hds⟩ := id hs
  have hTs : s.TypeIs (.ref sl) "slice" := ⟨os, hos, hcs⟩
  unfold getItem
  try with_reducible refine wpAny_holding ?_
  first | refine wpAny_bind (wpAny_pure ?_) | skip
  refine wpAny_bind (wpAny_sequenceKey ht.typeIs (by decide) ?_)
  refine wpAny_bind (wpAny_callSpecial?_slot (name := Str.ofString "__getitem__") ht.typeIs PyProof.Rows.slot_tuple_getitem
    (wpAny_call_entry PyProof.Rows.slot_tuple_getitem ht.typeIs entry_tuple_getitem ?_ (args_tuple_getitem _ _)))
  show wpAny _ _ (Builtin.Tuple.tupleItemsOf (.ref t) >>= _) _ _ s
  refine wpAny_bind (tupleItemsOf_ ht ?_)
  refine wpAny_bind (wpAny_typeOf hTs ?_)
  rw [if_pos (by decide)]
  refine wpAny_bind (sliceApplied_gen hs pl pu ?_)
  have hno : ¬ ((((sIx items.size 0 lo : Nat) : Int) == 0 && (1 : Int) == 1 && (sIx items.size items.size hi - sIx items.size 0 lo) == items.size) = true) := by
    intro q
    rw [Bool.and_eq_true, Bool.and_eq_true] at q
    have q1 : ((sIx items.size 0 lo : Nat) : Int) = 0 := eq_of_beq q.1.1
    have q2 : sIx items.size items.size hi - sIx items.size 0 lo = items.size := eq_of_beq q.2
    exact hw ⟨by omega, by omega⟩
  show wpAny _ _ (if (((sIx items.size 0 lo : Nat) : Int) == 0 && (1 : Int) == 1 && (sIx items.size items.size hi - sIx items.size 0 lo) == items.size) = true then _ else _) _ _ s
  rw [if_neg hno, pick_gen]
  first
    | exact wpAny_bind (m := Builtin.Tuple.tupleExact _) (wpAny_newObj_type (wpAny_pure ⟨_, rfl, wpAny_pure h⟩) htake)
    | exact wpAny_bind (m := Builtin.Tuple.tupleExact _) (wpAny_newObj_type (wpAny_bind (wpAny_pure (wpAny_pure ⟨_, rfl, wpAny_pure h⟩))) htake)
    | exact wpAny_bind (wpAny_bind (m := Builtin.Tuple.tupleExact _) (wpAny_newObj_type (wpAny_pure (wpAny_pure ⟨_, rfl, wpAny_pure h⟩)) htake))
    | exact wpAny_bind (wpAny_bind (m := Builtin.Tuple.tupleExact _) (wpAny_newObj_type (wpAny_pure ⟨_, rfl, wpAny_pure h⟩) htake))
end
end HT

namespace L2
open PySem PySem.Spec PyProof.Rows

/-! ### the parts of a slice -/
abbrev TO := St → Hp → (Option Int → Hp → Prop) → Prop
/-- a slice's part (left out, or an int) -/
def PO (X : Cx) (e : Option Expr) (t : TO) : Prop :=
  ∀ (pins : List (Addr × Obj)) (s : Shared) (σ : St) (H : Hp) (Q : Option Int → Hp → Prop), Inv X pins σ H s → t σ H Q →
    wpAny (model X.prog X.w) X.A (evalPart e X.env) (fun u s' => ∃ o H', Inv X pins σ H' s' ∧ IsPart u o ∧ Q o H') X.xe s
def tNoPart : TO := fun _ H Q => Q none H
def tPart (t : TE) : TO := fun σ H Q => t σ H fun x H1 => ∃ i, x = .int i ∧ Q (some i) H1


section
variable {X : Cx} {e : Expr} {te : TE} {lo hi : Option Expr} {tl th : TO} {pos p2 : Pos}

theorem po_none : PO X none tNoPart := by
  intro pins s σ H Q I h
  rw [evalPart_none]
  exact wpAny_pure ⟨none, H, I, .none, h⟩
theorem po_some (h : PE X e te) : PO X (some e) (tPart te) := by
  intro pins s σ H Q I hw
  rw [evalPart_some]
  refine thn (h pins s σ H _ I hw) fun u s1 hh => ?_
  obtain ⟨x, H1, I1, r1, q1⟩ := hh
  obtain ⟨i, rfl, q⟩ := q1
  obtain ⟨t, rfl⟩ := r1
  exact ⟨some i, H1, I1, .int i t, q⟩

/-- what a slice of a value is, by values: the slice object stands at sl -/
def SlR (X : Cx) (r : V → Option Int → Option Int → Hp → VK → Prop) : Prop :=
  ∀ (pins : List (Addr × Obj)) (s : Shared) (σ : St) (H : Hp) (x : V) (v vl vu : Value) (lo hi : Option Int) (sl : Addr) (Q : VK), Inv X pins σ H s → RelV x v → s.heap.IsSliceOf sl vl vu .none → IsPart vl lo → IsPart vu hi → r x lo hi H Q →
    ∃ T id, typeLookup (.type T) "__getitem__" = pure (some (.builtin id)) ∧ s.TypeIs v T ∧ wpAny (model X.prog X.w) X.A (getItem v (.ref sl)) (EP X pins σ Q) X.xe s
theorem SlR.or {r r' : V → Option Int → Option Int → Hp → VK → Prop} (h : SlR X r) (h' : SlR X r') : SlR X (fun x lo hi H Q => r x lo hi H Q ∨ r' x lo hi H Q) := by
  intro pins s σ H x v vl vu lo hi sl Q I rx hs pl pu q
  rcases q with q | q
  · exact h pins s σ H x v vl vu lo hi sl Q I rx hs pl pu q
  · exact h' pins s σ H x v vl vu lo hi sl Q I rx hs pl pu q
def tSl (r : V → Option Int → Option Int → Hp → VK → Prop) (te : TE) (tl th : TO) : TE := fun σ H Q => te σ H fun x H1 => tl σ H1 fun l H2 => th σ H2 fun u H3 => r x l u H3 Q
/-- a[lo:hi], any a -/
theorem pe_slice {r : V → Option Int → Option Int → Hp → VK → Prop} (hr : SlR X r) (he : PE X e te) (hl : PO X lo tl) (hu : PO X hi th) : PE X (.Subscript e (.Slice lo hi none p2) pos) (tSl r te tl th) := by
  intro pins s σ H Q I h
  refine Subscript_ (thn (he pins s σ H _ I h) fun v s1 hh => ?_)
  obtain ⟨x, H1, I1, r1, q1⟩ := hh
  refine wpAny_Slice (thn (hl pins s1 σ H1 _ I1 q1) fun vl s2 ⟨l, H2, I2, pl, q2⟩ => thn (hu pins s2 σ H2 _ I2 q2) fun vu s3 hh => ?_)
  obtain ⟨u, H3, I3, pu, q3⟩ := hh
  rw [evalPart_none]
  refine wpAny_pure ?_
  have I4 : Inv X pins σ H3 { s3 with heap := s3.heap.push { cls := .type "slice", data := .fields #[vl, vu, .none] } } := I3.kept (t' := s3.toks) fun b ob q => Heap.get?_push_of_some _ q
  obtain ⟨T, id, hT, ht, hg⟩ := hr pins { s3 with heap := s3.heap.push { cls := .type "slice", data := .fields #[vl, vu, .none] } } σ H3 x v vl vu l u s3.heap.objs.size Q I4 r1 (Heap.IsSliceOf.new ..) pl pu q3
  show wpAny (model X.prog X.w) X.A (subscriptTail e (.Slice lo hi none p2) v (.ref s3.heap.objs.size)) (EP X pins σ Q) X.xe { s3 with heap := s3.heap.push { cls := .type "slice", data := .fields #[vl, vu, .none] } }
  exact tail_any (ops := [.ref s3.heap.objs.size, v]) ht hT hg (by with_unfolding_all rfl)

/-- the items of xs[lo:hi] -/
def cutV (xs : List V) (lo hi : Option Int) : List V := (xs.drop (HT.sIx xs.length 0 lo)).take (HT.sIx xs.length xs.length hi - HT.sIx xs.length 0 lo)
theorem cutV_length (xs : List V) (lo hi : Option Int) : (cutV xs lo hi).length ≤ xs.length := by
  unfold cutV
  rw [List.length_take, List.length_drop]
  omega
/-- t[lo:hi], not the whole of it (the whole would be t itself) -/
def rSlT (K : PySem.W.Frag) : V → Option Int → Option Int → Hp → VK → Prop := fun x lo hi H Q => ∃ a xs, x = .ref a ∧ SqT K H a xs ∧
  ¬ (HT.sIx xs.length 0 lo = 0 ∧ HT.sIx xs.length xs.length hi = xs.length) ∧ ∀ p, H p = none → Q (.ref p) (upd H p (.tup (cutV xs lo hi)))
theorem sl_tup : SlR X (rSlT X.K) := by
  intro pins s σ H x v vl vu lo hi sl Q I rx hs pl pu h
  obtain ⟨a, xs, rfl, hx, hw, q⟩ := h
  cases rx
  obtain ⟨its, r, ht, hz⟩ := I.tuple hx
  have hlen : its.toArray.size = xs.length := by rw [List.size_toArray]; exact r.length.symm
  refine ⟨"tuple", _, PyProof.Rows.slot_tuple_getitem.lookup, ht.typeIs, ?_⟩
  refine HT.getItem_tuple_cut ht hs pl pu (by rw [hlen]; exact hw) ?_ (by rw [hlen]; exact hz)
  rw [hlen]
  refine ⟨.ref s.heap.objs.size, _, I.laid (t' := s.toks) (o := .tup (cutV xs lo hi)) (fun b ob q => Heap.get?_push_of_some _ q) (Nat.le_refl _) ?_, rfl, q _ (I.hok.fresh (Nat.le_refl _))⟩
  exact ⟨Nat.le_trans (cutV_length xs lo hi) hz, _, (r.drop (HT.sIx xs.length 0 lo)).take (HT.sIx xs.length xs.length hi - HT.sIx xs.length 0 lo), IsTup.new _ _⟩

/-! ### t < u, t + u -/
/-- t + u, t not empty: u empty gives t itself -/
def rCatT (K : PySem.W.Frag) : R2 := fun x y H Q => ∃ a b xs ys, x = .ref a ∧ y = .ref b ∧ SqT K H a xs ∧ SqT K H b ys ∧ xs ≠ [] ∧ xs.length + ys.length ≤ sizeLine ∧
  (ys = [] → Q (.ref a) H) ∧ (ys ≠ [] → ∀ p, H p = none → Q (.ref p) (upd H p (.tup (xs ++ ys))))
theorem Vals.nil_iff {xs : List V} {us : List Value} (r : Vals xs us) : us = [] ↔ xs = [] := by
  cases r with
  | nil => simp
  | cons _ _ => simp
theorem op_catT : OpR X (binaryOp .Add) (rCatT X.K) := by
  intro pins s σ H x y v u Q I rx ry h
  obtain ⟨a, b, xs, ys, rfl, rfl, ha, hb, hx, hz, q1, q2⟩ := h
  cases rx
  cases ry
  obtain ⟨its, r1, p1, _⟩ := I.tuple ha
  obtain ⟨its2, r2, p2, _⟩ := I.tuple hb
  refine HT.cat_tup p1 p2 (fun z => hx (r1.nil_iff.mp z)) (fun z => ⟨.ref a, H, I, rfl, q1 (r2.nil_iff.mp z)⟩) (fun z => ?_) (by rw [← r1.length, ← r2.length]; exact hz)
  refine ⟨.ref s.heap.objs.size, _, I.laid (t' := s.toks) (o := .tup (xs ++ ys)) (fun b ob q => Heap.get?_push_of_some _ q) (Nat.le_refl _) ?_, rfl, q2 (fun w => z (r2.nil_iff.mpr w)) _ (I.hok.fresh (Nat.le_refl _))⟩
  exact ⟨by rw [List.length_append]; exact hz, _, r1.append r2, IsTup.new _ _⟩
end
end L2

namespace L2
open PySem PySem.Spec PyProof.Rows

/-! ### places -/
/-- the place that an index of any sign means -/
def ixN (n : Nat) (i : Int) : Option Nat := if 0 ≤ i then (if i < n then some i.toNat else none) else if -(n : Int) ≤ i then some (i + n).toNat else none
def atI {α : Type} (xs : List α) (i : Int) : Option α := (ixN xs.length i).bind fun j => xs[j]?
theorem ixN_seq {n : Nat} {i : Int} {j : Nat} (h : ixN n i = some j) : seqIndex? i n = some j ∧ j < n ∧ -(n : Int) ≤ i ∧ i < n := by
  unfold ixN at h
  by_cases h0 : 0 ≤ i
  · rw [if_pos h0] at h
    by_cases h1 : i < n
    · rw [if_pos h1] at h
      have e : i.toNat = j := Option.some.inj h
      exact ⟨by rw [seqIndex_of h0 h1, e], by omega, by omega, h1⟩
    · rw [if_neg h1] at h; cases h
  · rw [if_neg h0] at h
    by_cases h1 : -(n : Int) ≤ i
    · rw [if_pos h1] at h
      have e : (i + n).toNat = j := Option.some.inj h
      exact ⟨by rw [seqIndex_neg (by omega) h1, e], by omega, h1, by omega⟩
    · rw [if_neg h1] at h; cases h
theorem atI_get {α : Type} {xs : List α} {i : Int} {v : α} (h : atI xs i = some v) : ∃ j, seqIndex? i xs.length = some j ∧ xs[j]? = some v ∧ j < xs.length ∧ -(xs.length : Int) ≤ i ∧ i < xs.length := by
  unfold atI at h
  cases e : ixN xs.length i with
  | none => rw [e] at h; cases h
  | some j =>
    rw [e] at h
    obtain ⟨h1, h2, h3, h4⟩ := ixN_seq e
    exact ⟨j, h1, h, h2, h3, h4⟩
theorem atI_nat {α : Type} {xs : List α} {j : Nat} {v : α} (h : xs[j]? = some v) : atI xs (j : Int) = some v := by
  have hj : j < xs.length := (List.getElem?_eq_some_iff.mp h).1
  have e : ixN xs.length (j : Int) = some j := by
    unfold ixN
    rw [if_pos (by omega), if_pos (by omega)]; simp
  unfold atI; rw [e]; exact h

/-! ### what may be subscripted -/
/-- what stands as an index of a plain subscript -/
def PlainIx (b : Expr) : Prop := ∀ o i, subscripted b false o i = operate [o, i] (getItem o i)
/-- a subscript by values -/
def IxR (X : Cx) (r : R2) : Prop :=
  ∀ (value slice : Expr) (pins : List (Addr × Obj)) (s : Shared) (σ : St) (H : Hp) (x y : V) (v u : Value) (Q : VK), Inv X pins σ H s → RelV x v → RelV y u → r x y H Q →
    subscripted slice false v u = operate [v, u] (getItem v u) → wpAny (model X.prog X.w) X.A (subscriptTail value slice v u) (EP X pins σ Q) X.xe s
/-- a call of a builtin's method by values: the receiver, the arguments -/
def MtR (X : Cx) (id : String) (r : V → List V → Hp → VK → Prop) : Prop :=
  ∀ (pins : List (Addr × Obj)) (s : Shared) (σ : St) (H : Hp) (x : V) (xs : List V) (v : Value) (us : List Value) (Q : VK), Inv X pins σ H s → RelV x v → Vals xs us → r x xs H Q →
    wpAny (model X.prog X.w) X.A (call (.builtin id) (v :: us)) (EP X pins σ Q) X.xe s
section
variable {X : Cx} {a b : Expr} {ta tb : TE} {pos : Pos}
theorem IxR.or {r r' : R2} (h : IxR X r) (h' : IxR X r') : IxR X (fun x y H Q => r x y H Q ∨ r' x y H Q) := by
  intro value slice pins s σ H x y v u Q I rx ry q hs
  rcases q with q | q
  · exact h value slice pins s σ H x y v u Q I rx ry q hs
  · exact h' value slice pins s σ H x y v u Q I rx ry q hs
theorem MtR.or {id : String} {r r' : V → List V → Hp → VK → Prop} (h : MtR X id r) (h' : MtR X id r') : MtR X id (fun x xs H Q => r x xs H Q ∨ r' x xs H Q) := by
  intro pins s σ H x xs v us Q I rx rs q
  rcases q with q | q
  · exact h pins s σ H x xs v us Q I rx rs q
  · exact h' pins s σ H x xs v us Q I rx rs q
/-- a[b] -/
theorem pe_ix {r : R2} (hr : IxR X r) (ha : PE X a ta) (hb : PE X b tb) (hs : PlainIx b) : PE X (.Subscript a b pos) (tOp r ta tb) := by
  intro pins s σ H Q I h
  exact Subscript_ (binT ha hb I h fun v u s2 x y H2 I2 rx ry q => hr a b pins s2 σ H2 x y v u Q I2 rx ry q (hs _ _))

def rIxL (K : PySem.W.Frag) : R2 := fun x y H Q => ∃ p xs i v, x = .ref p ∧ y = .int i ∧ SqL K H p xs ∧ atI xs i = some v ∧ Q v H
def rIxT (K : PySem.W.Frag) : R2 := fun x y H Q => ∃ p xs i v, x = .ref p ∧ y = .int i ∧ SqT K H p xs ∧ atI xs i = some v ∧ Q v H
theorem ix_list : IxR X (rIxL X.K) := by
  intro value slice pins s σ H x y v u Q I rx ry h hs
  obtain ⟨p, xs, i, z, rfl, rfl, hq, he, q⟩ := h
  cases rx
  obtain ⟨t, rfl⟩ := ry
  obtain ⟨its, r, pl, hz⟩ := I.list hq
  obtain ⟨j, h1, h2, h3, h4, h5⟩ := atI_get he
  obtain ⟨w, ew, rw'⟩ := r.get h2
  have hl := r.length
  have hn := line63
  have fin : EP X pins σ Q w s := ⟨z, H, I, rw', q⟩
  by_cases h0 : 0 ≤ i
  · have hj : i.toNat = j := by
      rw [seqIndex_of h0 h5] at h1
      exact Option.some.inj h1
    exact item_listR pl.isList h0 (by omega) (by rw [hj]; simpa using ew) fin hs
  · have hj : (i + (its.toArray.size : Int)).toNat = j := by
      rw [seqIndex_neg (by omega) h4] at h1
      rw [List.size_toArray, ← hl]
      exact Option.some.inj h1
    exact subscriptTail_builtinR (x := w) pl.isList.typeIs slot_list_getitem.lookup
      (wpAny_getItem_list_neg (Q := fun r s' => r = w ∧ EP X pins σ Q r s') pl.isList (by omega) (by rw [List.size_toArray] <;> omega) (by omega) (by rw [hj]; simpa using ew) ⟨rfl, fin⟩) hs
theorem ix_tup : IxR X (rIxT X.K) := by
  intro value slice pins s σ H x y v u Q I rx ry h hs
  obtain ⟨p, xs, i, z, rfl, rfl, hq, he, q⟩ := h
  cases rx
  obtain ⟨t, rfl⟩ := ry
  obtain ⟨its, r, pl, hz⟩ := I.tuple hq
  obtain ⟨j, h1, h2, h3, h4, h5⟩ := atI_get he
  obtain ⟨w, ew, rw'⟩ := r.get h2
  have hl := r.length
  have hn := line63
  have fin : EP X pins σ Q w s := ⟨z, H, I, rw', q⟩
  exact subscriptTail_builtinR (x := w) pl.typeIs slot_tuple_getitem.lookup
    (getItem_tuple (j := j) (Q := fun r s' => r = w ∧ EP X pins σ Q r s') pl (by omega) (by omega) (by rw [List.size_toArray, ← hl]; exact h1) (by simpa using ew) ⟨rfl, fin⟩) hs

/-! ### xs[i] = v, any sign -/
theorem Inv.lst {pins : List (Addr × Obj)} {σ : St} {H : Hp} {s : Shared} {p : Addr} {xs : List V} (I : Inv X pins σ H s) (h : H p = some (.lst xs)) :
    ∃ (its : List Value) (n : Nat), Vals xs its ∧ s.heap.get? p = some { cls := .type "list", data := .seq its.toArray n } ∧ xs.length ≤ sizeLine := by
  obtain ⟨z, its, n, r, e⟩ := I.hok p _ h
  exact ⟨its, n, r, e, z⟩

/-! ### slices -/
theorem slice_bounds (lo hi : Option Int) (n : Nat) : (sliceBounds lo hi none n).1 = ((HT.sIx n 0 lo : Nat) : Int) ∧ (sliceBounds lo hi none n).2.1 = ((HT.sIx n n hi : Nat) : Int) ∧ (sliceBounds lo hi none n).2.2 = 1 := by
  refine ⟨?_, ?_, rfl⟩
  · cases lo with
    | none => simp [sliceBounds, HT.sIx]
    | some i =>
      simp only [sliceBounds, HT.sIx, Option.getD_none, show (1 : Int) > 0 by decide, if_true]
      by_cases h : i < 0
      · simp only [h, if_true] <;> omega
      · simp only [h, if_false] <;> omega
  · cases hi with
    | none => simp [sliceBounds, HT.sIx]
    | some i =>
      simp only [sliceBounds, HT.sIx, Option.getD_none, show (1 : Int) > 0 by decide, if_true]
      by_cases h : i < 0
      · simp only [h, if_true] <;> omega
      · simp only [h, if_false] <;> omega
theorem slicePick_cut (its : List Value) (lo hi : Option Int) : slicePick its.toArray lo hi none = ((its.drop (HT.sIx its.length 0 lo)).take (HT.sIx its.length its.length hi - HT.sIx its.length 0 lo)).toArray := by
  obtain ⟨h1, h2, h3⟩ := slice_bounds lo hi its.toArray.size
  unfold slicePick
  rw [h1, h2, h3]
  simp only [sliceRange_one, pick_run, List.size_toArray] <;> rfl
/-- xs[lo:hi] of a list: a new list -/
def rSlL (K : PySem.W.Frag) : V → Option Int → Option Int → Hp → VK → Prop := fun x lo hi H Q => ∃ a xs, x = .ref a ∧ SqL K H a xs ∧ ∀ p, H p = none → Q (.ref p) (upd H p (.lst (cutV xs lo hi)))
theorem sl_list : SlR X (rSlL X.K) := by
  intro pins s σ H x v vl vu lo hi sl Q I rx hs pl pu h
  obtain ⟨a, xs, rfl, hx, q⟩ := h
  cases rx
  obtain ⟨its, r, ht, hz⟩ := I.list hx
  have hlen := r.length
  refine ⟨"list", _, slot_list_getitem.lookup, ht.isList.typeIs, ?_⟩
  refine wpAny_getItem_list_slice ht.isList hs pl pu .none (by simp) ?_ (by rw [List.size_toArray] <;> omega)
  rw [slicePick_cut, ← hlen]
  refine ⟨.ref s.heap.objs.size, _, I.laid (t' := s.toks) (o := .lst (cutV xs lo hi)) (fun b ob q => Heap.get?_push_of_some _ q) (Nat.le_refl _) ?_, rfl, q _ (I.hok.fresh (Nat.le_refl _))⟩
  exact ⟨Nat.le_trans (cutV_length xs lo hi) hz, _, 0, (r.drop (HT.sIx xs.length 0 lo)).take (HT.sIx xs.length xs.length hi - HT.sIx xs.length 0 lo), Heap.get?_push_size _ rfl⟩

/-! ### in, not in: flat items -/
def flatV : V → Bool
  | .non => true
  | .bl _ => true
  | .int _ => true
  | .str _ => true
  | _ => false
/-- == of flat values -/
def eqV : V → V → Bool
  | .non, .non => true
  | .bl a, .bl b => a == b
  | .bl a, .int b => (if a then 1 else 0) == b
  | .int a, .bl b => a == (if b then 1 else 0)
  | .int a, .int b => a == b
  | .str a, .str b => a == b
  | _, _ => false
theorem eqAt_V {A : Around} {s : Shared} {y x : V} {u v : Value} (ry : RelV y u) (rx : RelV x v) (fy : flatV y = true) (fx : flatV x = true) : SeqAt.EqAt A s u v (eqV y x) := by
  cases y with
  | non =>
    cases ry
    cases x with
    | non => cases rx; exact SeqAt.EqAt.same _
    | bl b => cases rx; exact SeqAt.EqAt.none_bool b
    | int b => obtain ⟨t, rfl⟩ := rx; exact SeqAt.EqAt.none_int b t
    | str b => obtain ⟨t, rfl⟩ := rx; exact SeqAt.EqAt.none_str b t
    | _ => exact absurd (show false = true from fx) Bool.false_ne_true
  | bl a =>
    cases ry
    cases x with
    | non => cases rx; exact SeqAt.EqAt.bool_none a
    | bl b => cases rx; exact SeqAt.EqAt.bool_bool a b
    | int b => obtain ⟨t, rfl⟩ := rx; exact SeqAt.EqAt.bool_int a b t
    | str b => obtain ⟨t, rfl⟩ := rx; exact SeqAt.EqAt.bool_str a b t
    | _ => exact absurd (show false = true from fx) Bool.false_ne_true
  | int a =>
    obtain ⟨t', rfl⟩ := ry
    cases x with
    | non => cases rx; exact SeqAt.EqAt.int_none a t'
    | bl b => cases rx; exact SeqAt.EqAt.int_bool a t' b
    | int b => obtain ⟨t, rfl⟩ := rx; exact SeqAt.EqAt.int_int a t' b t
    | str b => obtain ⟨t, rfl⟩ := rx; exact SeqAt.EqAt.int_str a t' b t
    | _ => exact absurd (show false = true from fx) Bool.false_ne_true
  | str a =>
    obtain ⟨t', rfl⟩ := ry
    cases x with
    | non => cases rx; exact SeqAt.EqAt.str_none a t'
    | bl b => cases rx; exact SeqAt.EqAt.str_bool a t' b
    | int b => obtain ⟨t, rfl⟩ := rx; exact SeqAt.EqAt.str_int a t' b t
    | str b => obtain ⟨t, rfl⟩ := rx; exact SeqAt.EqAt.str_str a t' b t
    | _ => exact absurd (show false = true from fx) Bool.false_ne_true
  | _ => exact absurd (show false = true from fy) Bool.false_ne_true

/-! ### len, list(x), tuple(x) of any list or tuple that is read -/
theorem call_len_seq : CallR X (.builtin "len") (fun xs H Q => ∃ p ys, xs = [.ref p] ∧ (SqL X.K H p ys ∨ SqT X.K H p ys) ∧ Q (.int ys.length) H) := by
  intro pins s σ H xs us Q I r h
  obtain ⟨p, ys, rfl, hq, q⟩ := h
  obtain ⟨u, rfl, rx⟩ := vals1 r
  cases rx
  have hn := line63
  rcases hq with hq | hq
  · obtain ⟨its, r', pl, hz⟩ := I.list hq
    have hlen := r'.length
    exact Calls.call_len_list pl.isList (by simp only [List.size_toArray] <;> omega) ⟨.int ys.length, H, I.tok _, ⟨s.toks + 1, by rw [List.size_toArray, hlen]⟩, q⟩
  · obtain ⟨its, r', pl, hz⟩ := I.tuple hq
    have hlen := r'.length
    exact len_tuple pl (by simp only [List.size_toArray] <;> omega) ⟨.int ys.length, H, I.tok _, ⟨s.toks + 1, by rw [List.size_toArray, hlen]⟩, q⟩
theorem CallR.or {f : Value} {r r' : List V → Hp → VK → Prop} (h : CallR X f r) (h' : CallR X f r') : CallR X f (fun xs H Q => r xs H Q ∨ r' xs H Q) := by
  intro pins s σ H xs us Q I rs q
  rcases q with q | q
  · exact h pins s σ H xs us Q I rs q
  · exact h' pins s σ H xs us Q I rs q
theorem call_list_of : CallR X (.type "list") (fun xs H Q => ∃ p ys, xs = [.ref p] ∧ (SqL X.K H p ys ∨ SqT X.K H p ys) ∧ ∀ l, H l = none → Q (.ref l) (upd H l (.lst ys))) := by
  intro pins s σ H xs us Q I r h
  obtain ⟨p, ys, rfl, hq, q⟩ := h
  obtain ⟨u, rfl, rx⟩ := vals1 r
  cases rx
  have fin : ∀ (its : List Value), Vals ys its → ys.length ≤ sizeLine → ∀ (h' : Heap) (c' : Nat), (∀ b o', s.heap.get? b = some o' → h'.get? b = some o') →
      h'.get? s.heap.objs.size = some { cls := .type "list", dict := none, data := .seq its.toArray c', slots := #[] } → EP X pins σ Q (.ref s.heap.objs.size) { s with heap := h' } := fun its r' hz h' c' kp e =>
    ⟨.ref s.heap.objs.size, _, I.laid (t' := s.toks) kp (Nat.le_refl _) (show ObjOk X.prog X.w _ h' _ (.lst ys) from ⟨hz, its, c', r', e⟩), rfl, q _ (I.hok.fresh (Nat.le_refl _))⟩
  rcases hq with hq | hq
  · obtain ⟨its, r', pl, hz⟩ := I.list hq
    have hlen := r'.length
    obtain ⟨o, ho, hc, n, hd⟩ := pl.isList
    exact call_list_seq p (.inl rfl) ho hc hd (fun h' c' kp e => fin its r' hz h' c' kp e) (by simp only [List.size_toArray] <;> omega)
  · obtain ⟨its, r', pl, hz⟩ := I.tuple hq
    have hlen := r'.length
    obtain ⟨o, ho, hc, n, hd⟩ := pl
    exact call_list_seq p (.inr rfl) ho hc hd (fun h' c' kp e => fin its r' hz h' c' kp e) (by simp only [List.size_toArray] <;> omega)
theorem call_tuple_of : CallR X (.type "tuple") (fun xs H Q => ∃ p ys, xs = [.ref p] ∧ ((SqL X.K H p ys ∧ ∀ l, H l = none → Q (.ref l) (upd H l (.tup ys))) ∨ (SqT X.K H p ys ∧ Q (.ref p) H))) := by
  intro pins s σ H xs us Q I r h
  obtain ⟨p, ys, rfl, h⟩ := h
  obtain ⟨u, rfl, rx⟩ := vals1 r
  cases rx
  rcases h with ⟨hq, q⟩ | ⟨hq, q⟩
  · obtain ⟨its, r', pl, hz⟩ := I.list hq
    have hlen := r'.length
    refine call_tuple_list pl.isList (fun h' kp => ?_) (by simp only [List.size_toArray] <;> omega)
    have I1 : Inv X pins σ H { s with heap := h' } := I.kept (t' := s.toks) kp
    have I2 : Inv X pins σ (upd H h'.objs.size (.tup ys)) { s with heap := h'.push { cls := .type "tuple", data := .seq its.toArray } } :=
      I1.laid (t' := s.toks) (fun b o e => Heap.get?_push_of_some _ e) (Nat.le_refl _) (show ObjOk X.prog X.w _ _ _ (.tup ys) from ⟨hz, its, r', IsTup.new _ _⟩)
    exact ⟨.ref h'.objs.size, _, I2, rfl, q _ (I1.hok.fresh (Nat.le_refl _))⟩
  · obtain ⟨its, r', pl, hz⟩ := I.tuple hq
    exact call_tuple_same pl ⟨.ref p, H, I, rfl, q⟩

/-! ### the call of a builtin's method: o.m(..) -/
/-- the value is of that builtin type -/
def tyV (K : PySem.W.Frag) (T : String) (x : V) (H : Hp) : Prop := match x with
  | .str _ => T = "str"
  | .int _ => T = "int"
  | .ref p => (T = "list" ∧ ∃ xs, SqL K H p xs) ∨ (T = "tuple" ∧ ∃ o, K.lookup p = some o ∧ o.cls = .type "tuple" ∧ o.dict = none) ∨
      (T = "dict" ∧ ((∃ kvs, H p = some (.dK kvs)) ∨ ∃ kvs, H p = some (.dT kvs))) ∨ (T = "set" ∧ ∃ S n, H p = some (.set S n))
  | _ => False
theorem tyV_is {pins : List (Addr × Obj)} {σ : St} {H : Hp} {s : Shared} {T : String} {x : V} {v : Value} (I : Inv X pins σ H s) (r : RelV x v) (ty : tyV X.K T x H) :
    s.TypeIs v T ∧ ∀ a, v = .ref a → ∃ ob, s.heap.get? a = some ob ∧ ob.dict = none := by
  cases x with
  | str z =>
    obtain ⟨t, rfl⟩ := r
    cases (show T = "str" from ty)
    exact ⟨typeIs_str s z t, fun _ e => nomatch e⟩
  | int i =>
    obtain ⟨t, rfl⟩ := r
    cases (show T = "int" from ty)
    exact ⟨typeIs_int s i t, fun _ e => nomatch e⟩
  | ref p =>
    cases r
    rcases ty with ⟨rfl, xs, hq⟩ | ⟨rfl, o, hk, hc, hd⟩ | ⟨rfl, hk⟩ | ⟨rfl, S, n, hk⟩
    · obtain ⟨its, _, pl, _⟩ := I.list hq
      refine ⟨pl.isList.typeIs, fun a e => ?_⟩
      cases e
      obtain ⟨o, n, e, c, hd, _⟩ := pl
      exact ⟨o, e, hd⟩
    · refine ⟨⟨o, I.kIn p o hk, hc⟩, fun a e => ?_⟩
      cases e
      exact ⟨o, I.kIn _ o hk, hd⟩
    · have z : ∃ o, s.heap.get? p = some o ∧ o.ExactDict := by
        rcases hk with ⟨kvs, hk⟩ | ⟨kvs, hk⟩
        · obtain ⟨_, _, _, _, o, _, _, e, ex, _⟩ := I.hok p _ hk
          exact ⟨o, e, ex⟩
        · obtain ⟨_, _, _, _, o, _, _, e, ex, _⟩ := I.hok p _ hk
          exact ⟨o, e, ex⟩
      obtain ⟨o, e, ex⟩ := z
      refine ⟨⟨o, e, ex.1⟩, fun a e2 => ?_⟩
      cases e2
      exact ⟨o, e, ex.2.1⟩
    · obtain ⟨o, _, _, _, e, ex, _⟩ := I.hok p _ hk
      refine ⟨⟨o, e, ex.1⟩, fun a e2 => ?_⟩
      cases e2
      exact ⟨o, e, ex.2.1⟩
  | _ => exact False.elim ty
def tBM0 (K : PySem.W.Frag) (T : String) (r : V → List V → Hp → VK → Prop) (to : TE) : TE := fun σ H Q => to σ H fun x H1 => tyV K T x H1 ∧ r x [] H1 Q
def tBM (K : PySem.W.Frag) (T : String) (r : V → List V → Hp → VK → Prop) (to : TE) (t : TA) : TE := fun σ H Q => to σ H fun x H1 => tyV K T x H1 ∧ t σ H1 fun xs H2 => r x xs H2 Q
variable {o e : Expr} {es : List Expr} {to : TE} {t : TA} {name : Str} {apos cpos : Pos} {T id : String} {r : V → List V → Hp → VK → Prop}
theorem pe_bm0 (pa : PlainAttrs T) (slot : Slot T name id) (hty : typeOf (.builtin id) = pure (.type "method_descriptor")) (hm : MtR X id r) (ho : PE X o to)
    (hbase : attributeBase o name X.env (eval o X.env) = eval o X.env := by rfl) (hline : (apos.endLine == cpos.line) = true := by rfl) : PE X (.Call (.Attribute o name apos) [] [] cpos) (tBM0 X.K T r to) := by
  intro pins s σ H Q I h
  refine wpAny_Call_method0_late hbase hline (thn (ho pins s σ H _ I h) fun v s1 hh => ?_)
  obtain ⟨x, H1, I1, r1, ty, q1⟩ := hh
  obtain ⟨h1, h2⟩ := tyV_is I1 r1 ty
  exact ⟨T, id, pa, slot, hty, h1, h2, Calls.callWith_builtin rfl (PySem.evalArgs_none (hm pins s1 σ H1 x [] v [] Q I1 r1 .nil q1))⟩
theorem pe_bm (pa : PlainAttrs T) (slot : Slot T name id) (hty : typeOf (.builtin id) = pure (.type "method_descriptor")) (hm : MtR X id r) (ho : PE X o to) (ha : PA X (e :: es) t)
    (hbase : attributeBase o name X.env (eval o X.env) = eval o X.env := by rfl)
    (hfew : ((backTo cpos (starEach (e :: es) X.env)).all (fun x => !x.1) && (backToKw cpos (keywordEach [] X.env)).all (fun x => x.1.isSome)
      && decide ((e :: es).length + ([] : List Keyword).length + (if ([] : List Keyword).isEmpty then 0 else 1) < 30)) = true := by rfl)
    (hline : (apos.endLine == cpos.line) = true := by rfl) (hs : starEach (e :: es) X.env = (false, eval e X.env) :: starEach es X.env := by rfl) (hplain : (backTo cpos (starEach es X.env)).any (·.1) = false := by rfl) :
    PE X (.Call (.Attribute o name apos) (e :: es) [] cpos) (tBM X.K T r to t) := by
  intro pins s σ H Q I h
  refine wpAny_Call_method_late hbase hfew hline rfl (thn (ho pins s σ H _ I h) fun v s1 hh => ?_)
  obtain ⟨x, H1, I1, r1, ty, q1⟩ := hh
  obtain ⟨h1, h2⟩ := tyV_is I1 r1 ty
  refine ⟨T, id, pa, slot, hty, h1, h2, ?_⟩
  have hA := ha cpos pins s1 σ H1 _ I1 q1
  rw [hs] at hA ⊢
  refine Calls.callWith_builtin (by show (false || (backTo cpos (starEach es X.env)).any (·.1)) = false; rw [hplain] <;> rfl) (Calls.evalArgs_plain ?_)
  exact thn hA fun us s2 ⟨vs, H2, I2, r2, q2⟩ => hm pins s2 σ H2 x vs v us Q I2 r1 r2 q2
/- xs.append(e), list.index on a module's tuple .. are MtR facts of 06m -/
end
end L2

namespace L2
open PySem PySem.Spec PyProof.Rows

def MtM (X : Cx) (id : String) (r : V → List V → Hp → VK → Prop) : Prop :=
  ∀ (pins : List (Addr × Obj)) (s : Shared) (σ : St) (H : Hp) (x : V) (xs : List V) (v : Value) (us : List Value) (Q : VK), Inv X pins σ H s → RelV x v → Vals xs us → r x xs H Q →
    wpAny (model X.prog X.w) X.A (call (.builtin id) (v :: us)) (EP X pins σ Q) X.xe s

/-! ### lists of values -/
theorem Vals.one : ∀ {x : V} {us : List Value}, Vals [x] us → ∃ u, us = [u] ∧ RelV x u
  | _, _, .cons r .nil => ⟨_, rfl, r⟩
theorem Vals.two : ∀ {x y : V} {us : List Value}, Vals [x, y] us → ∃ u v, us = [u, v] ∧ RelV x u ∧ RelV y v
  | _, _, _, .cons r (.cons q .nil) => ⟨_, _, rfl, r, q⟩
theorem Vals.zero : ∀ {us : List Value}, Vals [] us → us = []
  | _, .nil => rfl
theorem Vals.reverse {xs : List V} {us : List Value} (h : Vals xs us) : Vals xs.reverse us.reverse := by
  induction h with
  | nil => exact .nil
  | cons r t ih => rw [List.reverse_cons, List.reverse_cons]; exact Vals.append ih (.cons r .nil)
theorem Vals.rep {xs : List V} {us : List Value} (h : Vals xs us) : ∀ k : Nat, Vals (List.replicate k xs).flatten (List.replicate k us).flatten
  | 0 => .nil
  | k + 1 => by
    rw [List.replicate_succ, List.replicate_succ, List.flatten_cons, List.flatten_cons]
    exact Vals.append h (Vals.rep h k)

section
variable {X : Cx} {pins : List (Addr × Obj)} {σ : St} {H : Hp} {s : Shared} {l b : Addr} {xs ys zs : List V}

/-! ### the two steps: a tracked list is rewritten, a new list is laid -/
theorem Inv.lset {its its' : List Value} {n : Nat} {f : Array Value → Array Value} {t' : Nat} (I : Inv X pins σ H s) (hH : H l = some (.lst xs))
    (e : s.heap.get? l = some { cls := .type "list", data := .seq its.toArray n }) (hf : f its.toArray = its'.toArray) (hv : Vals ys its') (hz : ys.length ≤ sizeLine) :
    Inv X pins σ (upd H l (.lst ys)) { s with heap := s.heap.update l (Obj.mapSeq f), toks := t' } := by
  have q := PySem.IsL.update e f
  rw [hf] at q
  refine I.write (x := l) (e := l) (by rw [hH]; exact trivial) (.inl rfl) (fun b' u hb hu => (Heap.get?_update_other s.heap (Obj.mapSeq f) (Ne.symm hb)).trans hu) ⟨_, q⟩ ?_
  exact ⟨hz, its', _, hv, q⟩
theorem Inv.lnew {its : List Value} {t' : Nat} (I : Inv X pins σ H s) (hv : Vals ys its) (hz : ys.length ≤ sizeLine) :
    Inv X pins σ (upd H s.heap.objs.size (.lst ys)) { s with heap := s.heap.push { cls := .type "list", data := .seq its.toArray }, toks := t' } :=
  I.laid (fun _ _ q => Heap.get?_push_of_some _ q) (Nat.le_refl _) ⟨hz, its, 0, hv, Heap.get?_push_size _ rfl⟩
theorem Inv.fresh (I : Inv X pins σ H s) : H s.heap.objs.size = none := I.hok.fresh (Nat.le_refl _)
theorem Inv.lstM (I : Inv X pins σ H s) (hH : H l = some (.lst xs)) : xs.length ≤ sizeLine ∧ ∃ (its : List Value) (n : Nat), Vals xs its ∧ xs.length = its.length ∧ s.heap.get? l = some { cls := .type "list", data := .seq its.toArray n } := by
  obtain ⟨z, its, n, r, e⟩ := I.hok l _ hH
  exact ⟨z, its, n, r, r.length, e⟩

end

section
variable {X : Cx}

/-! ### methods -/
def rAppend : V → List V → Hp → VK → Prop := fun x vs H Q => ∃ l xs y, x = .ref l ∧ vs = [y] ∧ H l = some (.lst xs) ∧ xs.length < sizeLine ∧ Q .non (upd H l (.lst (xs ++ [y])))
theorem mt_append : MtM X "list.append" rAppend := by
  intro pins s σ H x vs v us Q I rx rv h
  obtain ⟨l, xs, y, rfl, rfl, hH, hz, q⟩ := h
  cases rx
  obtain ⟨u, rfl, ru⟩ := rv.one
  obtain ⟨z, its, n, r, hl, e⟩ := I.lstM hH
  refine call_meets F.slot_list_append ⟨_, e, rfl⟩ F.entry_list_append (F.args_list_append_2 _ _) (PySem.list_append l its.toArray n u (by rw [List.size_toArray]; omega)) ⟨e, ?_⟩
  refine ⟨.non, _, I.lset (its' := its ++ [u]) hH e (by simp) (r.append (.cons ru .nil)) ?_, rfl, q⟩
  rw [List.length_append, List.length_singleton]
  omega





def rClear : V → List V → Hp → VK → Prop := fun x vs H Q => ∃ l xs, x = .ref l ∧ vs = [] ∧ H l = some (.lst xs) ∧ Q .non (upd H l (.lst []))
theorem mt_clear : MtM X "list.clear" rClear := by
  intro pins s σ H x vs v us Q I rx rv h
  obtain ⟨l, xs, rfl, rfl, hH, q⟩ := h
  cases rx
  have hus := rv.zero
  subst hus
  obtain ⟨z, its, n, r, hl, e⟩ := I.lstM hH
  refine call_meets F.slot_list_clear ⟨_, e, rfl⟩ F.entry_list_clear (F.args_list_clear_1 _) (AutoSeq1.list_clear_list_0 l its.toArray n (by rw [List.size_toArray]; omega)) ⟨e, ?_⟩
  exact ⟨.non, _, I.lset (its' := []) (ys := []) hH e rfl .nil (Nat.zero_le _), rfl, q⟩

/-! ### list + list, list += list, list * int -/
def rCat : R2 := fun x y H Q => ∃ l b xs zs, x = .ref l ∧ y = .ref b ∧ H l = some (.lst xs) ∧ H b = some (.lst zs) ∧ xs.length + zs.length ≤ sizeLine ∧ ∀ p, H p = none → Q (.ref p) (upd H p (.lst (xs ++ zs)))
theorem op_cat : OpR X (binaryOp .Add) rCat := by
  intro pins s σ H x y v u Q I rx ry h
  obtain ⟨l, b, xs, zs, rfl, rfl, hH, hB, hz, q⟩ := h
  cases rx
  cases ry
  obtain ⟨z, its, n, r, hl, e⟩ := I.lstM hH
  obtain ⟨z2, its2, n2, r2, hl2, e2⟩ := I.lstM hB
  refine PySem.P.add_list e e2 ?_ (by rw [List.size_toArray, List.size_toArray]; omega)
  have ea : its.toArray ++ its2.toArray = (its ++ its2).toArray := by simp
  rw [ea]
  exact ⟨.ref _, _, I.lnew (t' := s.toks) (r.append r2) (by rw [List.length_append]; omega), rfl, q _ I.fresh⟩

/-! ### del xs[i] -/
end

/-! ### xs[a:b] = ys -/
section
variable {prog : Program} {w : World} {A : Around} {E : Value → Shared → Prop} {s : Shared}
end

section
variable {X : Cx}
end
end L2

namespace Att
open PySem PySem.W PySem.Calls PyProof.Rows

/-! ### the script -/
theorem ints_of_wellAll {P : Params} {h : Heap} : ∀ (ns : List Int) (vs : List Value), WellAll P h vs (ns.map WData.int) → IntsAre vs ns := by
  intro ns
  induction ns with
  | nil =>
    intro vs w
    rw [List.map_nil] at w
    cases w
    exact .nil
  | cons n ns ih =>
    intro vs w
    rw [List.map_cons] at w
    cases w with
    | cons a b =>
      cases a
      exact .cons _ _ (ih _ b)

theorem script_of {l : OpenLaw} {n : Nat} (hn : l.most = some n) {P : Params} {h : Heap} {args : List WData} {vals : List Value}
    (hpre : l.row.toRowW.claim.pre args = true) (hwl : WellAll P h vals args) :
    ∃ a vs ns, vals = [Value.ref a] ∧ args = [WData.list (ns.map WData.int)] ∧ h.get? a = some { cls := .type "list", data := .seq vs.toArray } ∧ IntsAre vs ns ∧ ns.length ≤ n := by
  have hsh : WShape.hasAll [] args [.list .int] = true := (pre_splitW hpre).1
  have hc : l.pre.holds [] { args := args } = true := (pre_splitW hpre).2
  obtain ⟨d, r, rfl, h1, h2⟩ := hasAllW_cons hsh
  obtain rfl := hasAllW_nil h2
  obtain ⟨xs, rfl, h3⟩ := hasW_list h1
  obtain ⟨ns, rfl⟩ := items_int h3
  have hlen : ns.length ≤ n := by
    unfold OpenLaw.pre at hc
    have h4 : (WTm.not (.lt (.lit (.int (n : Int))) (.len (.arg 0)))).holds [] { args := [.list (ns.map .int)] } = true := by
      have h4 := (holds_andW hc).1
      rw [hn] at h4
      exact h4
    have h5 := condW_of h4 (w_not (w_lt w_lit (w_len_list (w_arg rfl))))
    rw [List.length_map] at h5
    refine Nat.le_of_not_lt fun q => ?_
    have q' : (n : Int) < ((ns.length : Nat) : Int) := by omega
    first
      | (rw [decide_eq_true q'] at h5; exact absurd h5 (by decide))
      | (simp at h5; omega)
  cases hwl with
  | cons w1 w2 =>
    cases w2
    cases w1 with
    | list ho hall => exact ⟨_, _, ns, rfl, rfl, ho, ints_of_wellAll ns _ hall, hlen⟩

theorem post_true (l : OpenLaw) (args : List WData) : l.row.toRowW.claim.post args (.bool true) args = true :=
  postW_of (r := l.row.toRowW) (X := (true == true))
    (show WShape.has [] (.bool true) .bool = true by first | rfl | decide | simp [WShape.has, WShape.arms, WShape.armsAll])
    (show (WTm.eq .res (.lit (.bool true))).value [] { args := args, res := some (.bool true), after := args } = some (.bool (true == true)) from w_eq_bool (w_res rfl) w_lit) rfl

/-! ### the attachment: holds_open's last premise (the goal 'hc' behind k_head) from a wpAny of the law's body -/

/-- the same from a codeAny of the CALL (for a layer whose function contracts speak of calls) -/
theorem attach_call {l : OpenLaw} {n : Nat} {q : Program} {loose : List Str} {XP : (Str → Option Value) → Heap → Prop} {YP : World → Heap → Prop} {d : DefRec}
    (hn : l.most = some n) (hdf : d.params.defaults = [])
    (call : ∀ (w : World) (s₀ s₁ : Shared) (mg mb : Str → Option Value) (fa : Addr) (o : Obj) (pm cd doc : Value) (a : Addr) (vs : List Value) (ns : List Int),
      Ground q loose [] XP w s₀ mg mb s₁.heap → YP w s₁.heap →
      s₁.heap.get? fa = some o → o.data = .func (docDef d.name d.params d.body d.scope pm cd doc) → s₁.heap.CodeRec cd d.name → mg d.name = some (.ref fa) →
      s₁.heap.get? a = some { cls := .type "list", data := .seq vs.toArray } → IntsAre vs ns → ns.length ≤ n → s₁.gens = #[] →
      codeAny (model l.prog w) callerA (.call (.ref fa) ⟨[.ref a], []⟩) (fun r s' => r = .ok (.ret (.bool true)) ∧ OldK s₁.heap s'.heap ∧ s'.os = s₁.os ∧ AllBare s'.gens) s₁) :
    WalkO q loose XP YP l.row.toRowW d [] (fun f vs => PySem.call f vs) := by
  intro w s₀ s₁ mg mb G Y fa o pm cd doc dV kV ho hd hcd hD hmg hg args vals as hpre hlay hrd hwl hlo
  obtain rfl : dV = .none := Dflts.none hD hdf
  obtain rfl : kV = .none := Dflts.noKw hD
  obtain ⟨a, vs, ns, rfl, rfl, hobj, hints, hlen⟩ := script_of hn hpre hwl
  refine enter_call (codeAny_mono (call w s₀ s₁ mg mb fa o pm cd doc a vs ns G Y ho (fd_plain hd) hcd hmg hobj hints hlen hg) fun r s' hq => ?_)
  obtain ⟨rfl, h2, h3, h4⟩ := hq
  exact ⟨.inl ⟨.bool true, .bool true, [], rfl, fun _ => rfl, .bool true, post_true l _, fun _ => ⟨List.Pairwise.nil, fun _ hm => (nomatch hm)⟩⟩, h2, h3, h4⟩


/-! ### rules over ANY heap (no ledger) from facts about the written part K: the library's own take a ledger (News) for what they write -/
section
variable {prog : Program} {w : World} {A : Around} {E : Value → Shared → Prop} {s : Shared} {K : Frag}





/-! the whole heap as the ledger: makes every rule that writes through a ledger a rule over any heap -/
def ledger (h : Heap) (L d : Addr) : List (Addr × Obj) := (List.range h.objs.size).filterMap fun a => if a = L ∨ a = d then none else (h.get? a).map fun o => (a, o)

end
end Att

namespace L2
open PySem PySem.Spec PyProof.Rows

theorem vals_ints : ∀ {vs : List Value} {ns : List Int}, IntsAre vs ns → Vals (ns.map V.int) vs
  | _, _, .nil => .nil
  | _, _, .cons n t h => .cons ⟨t, rfl⟩ (vals_ints h)

end L2


/-! SHORT WORDS over the layer: a def of the text, its body, what a loop and a test want. -/
namespace L2
open PySem PySem.Spec PyProof.Rows

/-! ### the text by places -/
def defArgs (s : Stmt) : Arguments := match s with
  | .FunctionDef _ a _ _ _ _ _ _ _ _ => a
  | _ => { posonlyargs := [], args := [], vararg := none, kwonlyargs := [], kw_defaults := [], kwarg := none, defaults := [] }
def defBody (s : Stmt) : List Stmt := match s with
  | .FunctionDef _ _ b _ _ _ _ _ _ _ => b
  | _ => []
def defScope (s : Stmt) : Scope := match s with
  | .FunctionDef _ _ _ _ _ _ sc _ _ _ => sc
  | _ => { kind := .function, names := [], isGenerator := false, isCoroutine := false }

/-! ### no exception leaves a def -/
abbrev CX0 : CXT := fun _ _ _ _ _ _ => False

/-! ### a def (or method) of the text as it stands behind the top -/
structure Fun (K : PySem.W.Frag) (x qual : Str) (st : Stmt) (f : Addr) (fd : FuncData) : Prop where
  ex : ∃ (oc : Value) (od : Option Addr) (kV doc pm : Value) (an : Option Addr) (cdv ct : Value) (osl : Array (Option Value)),
    fd = PySem.W.fnOf x qual (defArgs st) (defBody st) (defScope st) .none kV doc pm an cdv ct ∧ K.lookup f = some ⟨oc, od, .func fd, osl⟩ ∧ PySem.W.codeIn K cdv qual = true
  kp : PySem.W.keepIn K (.ref f) = true
section
variable {P : Program} {w : World} {K : PySem.W.Frag} {mg : Str → Option Value} {base : Heap}
/-- THE RULE for a def: its body as a term of rules, and the reading of that term -/
theorem Fun.ok {x qual : Str} {st : Stmt} {f : Addr} {fd : FuncData} {N ps : List Str} {k : Nat} {sp : Sp} (F : Fun K x qual st f fd) (S : FnScope N ps (defScope st)) (len : ∀ vs H Q E, sp vs H Q E → vs.length = ps.length)
    (hbody : ∀ (cdv : Value) (A : Around) (outer : List Env) (s : Shared) (H : Hp) (vs : List V) (Q : VK) (E : XK), Room k (A.deeper (envOfC qual (defScope st) s.heap.objs.size f cdv)) → sp vs H Q E →
      ∃ t, PSs (cxOf CX0 P w K mg base N qual (defScope st) f cdv A outer s H E).nox (defBody st) t ∧ t { nx := fun _ H' => Q .non H', rt := Q } (start N vs) H) : FnOk P w K mg base CX0 (k + 1) f fd ps sp := by
  obtain ⟨oc, od, kV, doc, pm, an, cdv, ct, osl, rfl, lk, hcd⟩ := F.ex
  refine fn_of lk hcd S len fun A outer s H vs Q E hr hsp => ?_
  obtain ⟨t, h, q⟩ := hbody cdv A outer s H vs Q E hr hsp
  exact ⟨t, h.nox, q⟩
/-- how its arguments bind (no defaults): h is «fun _ _ _ _ _ _ us hl => match us, hl with | [_, _], _ => rfl», one _ a parameter -/
theorem Fun.binds {x qual : Str} {st : Stmt} {f : Addr} {fd : FuncData} {ps : List Str} (F : Fun K x qual st f fd)
    (h : ∀ (kV doc pm : Value) (an : Option Addr) (cdv ct : Value) (us : List Value), us.length = ps.length → bindArgs (PySem.W.fnOf x qual (defArgs st) (defBody st) (defScope st) .none kV doc pm an cdv ct) ⟨us, []⟩ = pure (ps.zip us)) : Binds K fd ps [] := by
  obtain ⟨oc, od, kV, doc, pm, an, cdv, ct, osl, rfl, lk, hcd⟩ := F.ex
  exact .all (h kV doc pm an cdv ct)
theorem fun_mk {x qual : Str} {st : Stmt} {f : Addr} {oc : Value} {od an : Option Addr} {osl : Array (Option Value)} {kV doc pm cdv ct : Value} (l : K.lookup f = some ⟨oc, od, .func (PySem.W.fnOf x qual (defArgs st) (defBody st) (defScope st) .none kV doc pm an cdv ct), osl⟩)
    (c : PySem.W.codeIn K cdv qual = true) (k : PySem.W.keepIn K (.ref f) = true) : Fun K x qual st f (PySem.W.fnOf x qual (defArgs st) (defBody st) (defScope st) .none kV doc pm an cdv ct) := ⟨⟨oc, od, kV, doc, pm, an, cdv, ct, osl, rfl, l, c⟩, k⟩
end
theorem small1000 {n : Nat} (h : n ≤ 1000) : n < sizeLine := Nat.lt_of_le_of_lt h (by decide)

/-! ### expressions in short: the name that stands in the i-th slot -/
section
variable {X : Cx}
theorem pv (i : Nat) {x : Str} {pos : Pos} (hN : X.N[i]? = some x := by rfl) (hv : Vis X.env.scope x := by first | exact Or.inl rfl | exact Or.inr (Or.inl rfl) | exact Or.inr (Or.inr rfl)) (hd : (x == ("__debug__" : Str)) = false := by decide)
    (hcd : (x == ("__classdict__" : Str)) = false := by decide) : PE X (.Name x pos) (tVar i) := pe_var hN hv hd hcd
end

/-! ### tests -/

/-! ### heaps -/
/-- all that was tracked is as it was -/
def Same (H H' : Hp) : Prop := ∀ b o, H b = some o → H' b = some o
theorem Same.refl (H : Hp) : Same H H := fun _ _ h => h
theorem Same.trans {H H1 H2 : Hp} (a : Same H H1) (b : Same H1 H2) : Same H H2 := fun c o h => b c o (a c o h)
theorem Same.free {H H' : Hp} (e : Same H H') {l : Addr} (h : H' l = Option.none) : H l = Option.none := by
  cases q : H l with
  | none => rfl
  | some o =>
    rw [e l o q] at h
    cases h
theorem Same.seq {K : PySem.W.Frag} {H H' : Hp} {a : Addr} {xs : List V} (e : Same H H') (h : SqL K H a xs) : SqL K H' a xs := by
  rcases h with (h | ⟨o, h⟩) | h
  · exact .inl (.inl (e _ _ h))
  · exact .inl (.inr ⟨o, e _ _ h⟩)
  · exact .inr h

end L2
set_option maxHeartbeats 4000000
namespace CH
/-- the greatest common divisor, as an Int -/
def g (a b : Int) : Int := (Int.gcd a b : Int)
theorem g_pos {a b : Int} (h : b ≠ 0) : 0 < g a b := by
  have := Int.gcd_pos_of_ne_zero_right a h
  unfold g; omega
theorem g_turn {x y : Int} (hy : 0 < y) : g y (x % y) = g x y := by
  unfold g
  have e : x % y = x - y * (x / y) := Int.emod_def x y
  rw [e, Int.gcd_sub_mul_left_right, Int.gcd_comm]
theorem g_end {x : Int} (hx : 0 ≤ x) : g x 0 = x := by
  unfold g; rw [Int.gcd_zero]; omega
theorem g_abs (a b : Int) : g (if a < 0 then -a else a) (if b < 0 then -b else b) = g a b := by
  unfold g
  split <;> split <;> simp
theorem g_dvd1 (a b : Int) : g a b ∣ a := Int.gcd_dvd_left a b
theorem g_dvd2 (a b : Int) : g a b ∣ b := Int.gcd_dvd_right a b
/-- the divisor that ratio takes -/
def cm (a b : Int) : Int := if b < 0 then -(g a b) else g a b
theorem fdiv_exact {a c : Int} (h : c ∣ a) (hc : c ≠ 0) : Int.fdiv a c * c = a := by
  obtain ⟨k, rfl⟩ := h
  rw [Int.mul_comm c k, Int.mul_fdiv_cancel _ hc]
theorem rat_parts {a b : Int} (hb : b ≠ 0) : Int.fdiv a (cm a b) = (Rat.divInt a b).num ∧ Int.fdiv b (cm a b) = ((Rat.divInt a b).den : Int) := by
  have hg := g_pos (a := a) hb
  have d1 := g_dvd1 a b
  have d2 := g_dvd2 a b
  rw [Rat.num_divInt, Rat.den_divInt, if_neg hb]
  have eg : ((b.gcd a : Nat) : Int) = g a b := by unfold g; rw [Int.gcd_comm]
  rw [Int.natCast_ediv, eg]
  unfold cm
  split
  · rename_i h
    rw [Int.sign_eq_neg_one_of_neg h]
    have e1 : (-1 * a) / g a b = Int.fdiv a (-(g a b)) := by
      obtain ⟨k, hk⟩ := d1
      have : -1 * a = (-k) * g a b := by grind
      rw [this, Int.mul_ediv_cancel _ (by omega)]
      have : a = (-k) * (-(g a b)) := by grind
      have q := Int.mul_fdiv_cancel (-k) (show -(g a b) ≠ 0 by omega)
      rw [← this] at q
      exact q.symm
    have e2 : ((b.natAbs : Nat) : Int) / g a b = Int.fdiv b (-(g a b)) := by
      obtain ⟨k, hk⟩ := d2
      have hn : ((b.natAbs : Nat) : Int) = -b := by omega
      rw [hn]
      have : -b = (-k) * g a b := by grind
      rw [this, Int.mul_ediv_cancel _ (by omega)]
      have : b = (-k) * (-(g a b)) := by grind
      have q := Int.mul_fdiv_cancel (-k) (show -(g a b) ≠ 0 by omega)
      rw [← this] at q
      exact q.symm
    exact ⟨e1.symm, e2.symm⟩
  · rename_i h
    have hp : 0 < b := by omega
    rw [Int.sign_eq_one_of_pos hp, Int.one_mul]
    have hn : ((b.natAbs : Nat) : Int) = b := by omega
    rw [hn, Int.fdiv_eq_ediv_of_nonneg _ (by omega), Int.fdiv_eq_ediv_of_nonneg _ (by omega)]
    exact ⟨rfl, rfl⟩
theorem cm_ne {a b : Int} (hb : b ≠ 0) : cm a b ≠ 0 := by
  have := g_pos (a := a) hb
  unfold cm; split <;> omega
theorem den_pos (q : Rat) : 1 ≤ (q.den : Int) := by have := q.den_pos; omega
theorem num_eq (q : Rat) : (q.num : Rat) = q * q.den := by
  have h := Rat.num_divInt_den q
  rw [Rat.divInt_eq_div] at h
  have hd : ((q.den : Int) : Rat) ≠ 0 := by
    have := q.den_nz
    simp [this]
  have e : ((q.den : Int) : Rat) = (q.den : Rat) := rfl
  rw [e] at h hd
  grind
theorem den_ne (q : Rat) : (q.den : Rat) ≠ 0 := by have := q.den_nz; simp [this]
theorem lt_iff (p q : Rat) : p.num * (q.den : Int) < q.num * (p.den : Int) ↔ p < q := (Rat.lt_iff p q).symm
theorem plus_eq (p q : Rat) : Rat.divInt (p.num * q.den + q.num * p.den) ((p.den : Int) * q.den) = p + q := by
  rw [Rat.divInt_eq_div, Rat.intCast_add, Rat.intCast_mul, Rat.intCast_mul, Rat.intCast_mul, num_eq p, num_eq q]
  have h1 := den_ne p
  have h2 := den_ne q
  have e1 : ((p.den : Int) : Rat) = (p.den : Rat) := rfl
  have e2 : ((q.den : Int) : Rat) = (q.den : Rat) := rfl
  rw [e1, e2]
  grind
theorem minus_eq (p q : Rat) : Rat.divInt (p.num * q.den - q.num * p.den) ((p.den : Int) * q.den) = p - q := by
  rw [Rat.divInt_eq_div, Rat.intCast_sub, Rat.intCast_mul, Rat.intCast_mul, Rat.intCast_mul, num_eq p, num_eq q]
  have h1 := den_ne p
  have h2 := den_ne q
  have e1 : ((p.den : Int) : Rat) = (p.den : Rat) := rfl
  have e2 : ((q.den : Int) : Rat) = (q.den : Rat) := rfl
  rw [e1, e2]
  grind
theorem times_eq (p q : Rat) : Rat.divInt (p.num * q.num) ((p.den : Int) * q.den) = p * q := by
  rw [Rat.divInt_eq_div, Rat.intCast_mul, Rat.intCast_mul, num_eq p, num_eq q]
  have h1 := den_ne p
  have h2 := den_ne q
  have e1 : ((p.den : Int) : Rat) = (p.den : Rat) := rfl
  have e2 : ((q.den : Int) : Rat) = (q.den : Rat) := rfl
  rw [e1, e2]
  grind
theorem over_eq (p q : Rat) (hq : q ≠ 0) : Rat.divInt (p.num * q.den) ((p.den : Int) * q.num) = p / q := by
  rw [Rat.divInt_eq_div, Rat.intCast_mul, Rat.intCast_mul, num_eq p, num_eq q]
  have h1 := den_ne p
  have h2 := den_ne q
  have e1 : ((p.den : Int) : Rat) = (p.den : Rat) := rfl
  have e2 : ((q.den : Int) : Rat) = (q.den : Rat) := rfl
  rw [e1, e2]
  grind
end CH
namespace CH
/-! ### sizes of ratios -/
def Sz (k : Nat) (q : Rat) : Prop := q.num.natAbs < 2 ^ k ∧ q.den < 2 ^ k
theorem pow_le {k m : Nat} (h : k ≤ m) : 2 ^ k ≤ 2 ^ m := Nat.pow_le_pow_right (by decide) h
theorem Sz.mono {k m : Nat} {q : Rat} (h : Sz k q) (hk : k ≤ m) : Sz m q := ⟨Nat.lt_of_lt_of_le h.1 (pow_le hk), Nat.lt_of_lt_of_le h.2 (pow_le hk)⟩
theorem natAbs_le_mul {a c x : Int} (h : x * c = a) (hc : c ≠ 0) : x.natAbs ≤ a.natAbs := by
  rw [← h, Int.natAbs_mul]
  exact Nat.le_mul_of_pos_right _ (by omega)
theorem sz_divInt {a b : Int} {k : Nat} (hb : b ≠ 0) (h1 : a.natAbs < 2 ^ k) (h2 : b.natAbs < 2 ^ k) : Sz k (Rat.divInt a b) := by
  have p := rat_parts (a := a) hb
  have d1 : cm a b ∣ a := by
    unfold cm; split
    · exact Int.neg_dvd.mpr (g_dvd1 a b)
    · exact g_dvd1 a b
  have d2 : cm a b ∣ b := by
    unfold cm; split
    · exact Int.neg_dvd.mpr (g_dvd2 a b)
    · exact g_dvd2 a b
  have e1 := natAbs_le_mul (fdiv_exact d1 (cm_ne hb)) (cm_ne hb)
  have e2 := natAbs_le_mul (fdiv_exact d2 (cm_ne hb)) (cm_ne hb)
  rw [p.1] at e1
  rw [p.2] at e2
  have e3 : (((Rat.divInt a b).den : Int)).natAbs = (Rat.divInt a b).den := Int.natAbs_natCast _
  rw [e3] at e2
  exact ⟨by omega, by omega⟩
theorem mul_lt {a b : Int} {k m : Nat} (h1 : a.natAbs < 2 ^ k) (h2 : b.natAbs < 2 ^ m) : (a * b).natAbs < 2 ^ (k + m) := by
  rw [Int.natAbs_mul, Nat.pow_add]
  exact Nat.mul_lt_mul'' h1 h2
theorem add_lt {a b : Int} {k : Nat} (h1 : a.natAbs < 2 ^ k) (h2 : b.natAbs < 2 ^ k) : (a + b).natAbs < 2 ^ (k + 1) := by
  rw [Nat.pow_succ]
  generalize 2 ^ k = p at *
  omega
theorem sub_lt {a b : Int} {k : Nat} (h1 : a.natAbs < 2 ^ k) (h2 : b.natAbs < 2 ^ k) : (a - b).natAbs < 2 ^ (k + 1) := by
  rw [Nat.pow_succ]
  generalize 2 ^ k = p at *
  omega
theorem den_lt {k : Nat} {q : Rat} (h : Sz k q) : ((q.den : Int)).natAbs < 2 ^ k := by rw [Int.natAbs_natCast]; exact h.2
theorem dd_ne (p q : Rat) : (p.den : Int) * (q.den : Int) ≠ 0 := by
  have h1 := den_pos p
  have h2 := den_pos q
  exact Int.mul_ne_zero (by omega) (by omega)
theorem up_lt {k m : Nat} {x : Nat} (h : x < 2 ^ k) (e : k ≤ m) : x < 2 ^ m := Nat.lt_of_lt_of_le h (pow_le e)
theorem Sz.add {k m : Nat} {p q : Rat} (hp : Sz k p) (hq : Sz m q) : Sz (k + m + 1) (p + q) := by
  rw [← plus_eq]
  have a1 := mul_lt hp.1 (den_lt hq)
  have a2 := mul_lt hq.1 (den_lt hp)
  have a3 := mul_lt (den_lt hp) (den_lt hq)
  rw [Nat.add_comm m k] at a2
  exact sz_divInt (dd_ne p q) (add_lt a1 a2) (up_lt a3 (Nat.le_succ _))
theorem Sz.sub {k m : Nat} {p q : Rat} (hp : Sz k p) (hq : Sz m q) : Sz (k + m + 1) (p - q) := by
  rw [← minus_eq]
  have a1 := mul_lt hp.1 (den_lt hq)
  have a2 := mul_lt hq.1 (den_lt hp)
  have a3 := mul_lt (den_lt hp) (den_lt hq)
  rw [Nat.add_comm m k] at a2
  exact sz_divInt (dd_ne p q) (sub_lt a1 a2) (up_lt a3 (Nat.le_succ _))
theorem Sz.mul {k m : Nat} {p q : Rat} (hp : Sz k p) (hq : Sz m q) : Sz (k + m) (p * q) := by
  rw [← times_eq]
  exact sz_divInt (dd_ne p q) (mul_lt hp.1 hq.1) (mul_lt (den_lt hp) (den_lt hq))
theorem Sz.zero : Sz 1 0 := ⟨by decide, by decide⟩
theorem Sz.den_ne {k : Nat} {p q : Rat} (hq : q ≠ 0) : (p.den : Int) * q.num ≠ 0 := by
  have h1 := den_pos p
  have h2 : q.num ≠ 0 := fun z => hq (Rat.num_eq_zero.mp z)
  exact Int.mul_ne_zero (by omega) h2
theorem Sz.div {k m : Nat} {p q : Rat} (hp : Sz k p) (hq : Sz m q) (h0 : q ≠ 0) : Sz (k + m) (p / q) := by
  rw [← over_eq p q h0]
  exact sz_divInt (Sz.den_ne (k := 0) h0) (mul_lt hp.1 (den_lt hq)) (mul_lt (den_lt hp) hq.1)
end CH
namespace L3
open PySem PySem.Spec PyProof.Rows L2
abbrev St := L2.St

def isStar : Expr → Bool
  | .Starred .. => true
  | _ => false
theorem starE {e : Expr} {es : List Expr} {env : Env} (h : isStar e = false) : starEach (e :: es) env = (false, eval e env) :: starEach es env := by
  cases e <;> first | rfl | cases h
theorem plainE {pos : Pos} {env : Env} : ∀ {es : List Expr}, es.all (fun e => !isStar e) = true → (backTo pos (starEach es env)).any (·.1) = false
  | [], _ => rfl
  | e :: es, h => by
    rw [List.all_cons, Bool.and_eq_true] at h
    have h1 : isStar e = false := by
      cases q : isStar e with
      | false => rfl
      | true => rw [q] at h; exact absurd h.1 (by decide)
    rw [starE h1]
    show (false || (backTo pos (starEach es env)).any (·.1)) = false
    rw [plainE h.2]
    rfl
/-! ### data without a heap -/
inductive D where
  | non | bl (b : Bool) | int (i : Int) | str (x : Str) | ty (n : String) | tup (xs : List D) | lst (xs : List D) | ref (a : Addr)
/-- what a name holds: data; a list of data that is the frame's own; a list that is only read -/
inductive S where
  | d (x : D) | l (xs : List D) | r (xs : List D)
def S.isL : S → Bool
  | .d _ => false
  | _ => true
def S.share : S → S
  | .l xs => .r xs
  | s => s
def S.own : S → Bool
  | .l _ => true
  | _ => false

inductive Is (K : PySem.W.Frag) (H : Hp) : V → D → Prop where
  | non : Is K H .non .non
  | bl (b : Bool) : Is K H (.bl b) (.bl b)
  | int (i : Int) : Is K H (.int i) (.int i)
  | str (x : Str) : Is K H (.str x) (.str x)
  | ty (n : String) : Is K H (.ty n) (.ty n)
  | ref (a : Addr) : Is K H (.ref a) (.ref a)
  | tup {a : Addr} {vs : List V} {xs : List D} (h : SqT K H a vs) (hl : vs.length = xs.length) (r : ∀ (i : Nat) (v : V) (x : D), vs[i]? = some v → xs[i]? = some x → Is K H v x) : Is K H (.ref a) (.tup xs)
  | lst {a : Addr} {vs : List V} {xs : List D} (h : H a = some (.lst vs)) (hl : vs.length = xs.length) (r : ∀ (i : Nat) (v : V) (x : D), vs[i]? = some v → xs[i]? = some x → Is K H v x) : Is K H (.ref a) (.lst xs)
def Iss (K : PySem.W.Frag) (H : Hp) (vs : List V) (xs : List D) : Prop :=
  vs.length = xs.length ∧ ∀ (i : Nat) (v : V) (x : D), vs[i]? = some v → xs[i]? = some x → Is K H v x
/-- the heap, and the part of it that stays as it is (data lie there; the own lists don't) -/
structure HZ where
  h : Hp
  z : Hp
structure Ext (p q : HZ) : Prop where
  hh : Same p.h q.h
  zz : Same p.z q.z
  sub : Same q.z q.h
  new : ∀ a o, q.z a = some o → p.z a = some o ∨ p.h a = none
theorem Ext.refl {p : HZ} (h : Same p.z p.h) : Ext p p := ⟨Same.refl _, Same.refl _, h, fun _ _ e => .inl e⟩
theorem Ext.trans {p q r : HZ} (a : Ext p q) (b : Ext q r) : Ext p r := ⟨a.hh.trans b.hh, a.zz.trans b.zz, b.sub, fun c o e => by
  rcases b.new c o e with e | e
  · exact a.new c o e
  · exact .inr (a.hh.free e)⟩
/-- the heap grows, the part that stays is the same -/
theorem Ext.grow {H H' z : Hp} (h : Same z H) (e : Same H H') : Ext ⟨H, z⟩ ⟨H', z⟩ := ⟨e, Same.refl _, h.trans e, fun _ _ e => .inl e⟩
theorem same_new {H : Hp} {p : Addr} (h : H p = none) (o : HO) : Same H (upd H p o) := fun b u q => by rw [upd_ne (ne_of_none q h)]; exact q
/-- an object becomes data -/
theorem Ext.freeze {p q : HZ} {a : Addr} {o : HO} (e : Ext p q) (n : p.h a = none) (nz : q.z a = none) (h : q.h a = some o) : Ext p ⟨q.h, upd q.z a o⟩ := by
  refine ⟨e.hh, e.zz.trans (same_new nz o), fun b u hb => ?_, fun b u hb => ?_⟩
  · by_cases z : b = a
    · subst z
      have hb' : upd q.z b o b = some u := hb
      rw [upd_same] at hb'
      cases hb'
      exact h
    · have hb' : upd q.z a o b = some u := hb
      rw [upd_ne z] at hb'
      exact e.sub b u hb'
  · by_cases z : b = a
    · subst z; exact .inr n
    · have hb' : upd q.z a o b = some u := hb
      rw [upd_ne z] at hb'
      exact e.new b u hb'
/-- a new object, which may change -/
theorem Ext.own {H z : Hp} {a : Addr} (h : Same z H) (n : H a = none) (o : HO) : Ext ⟨H, z⟩ ⟨upd H a o, z⟩ := Ext.grow h (same_new n o)
/-- a new object, which stays -/
theorem Ext.lay {H z : Hp} {a : Addr} (h : Same z H) (n : H a = none) (o : HO) : Ext ⟨H, z⟩ ⟨upd H a o, upd z a o⟩ :=
  (Ext.own h n o).freeze n (h.free n) upd_same
def IsS (K : PySem.W.Frag) (p : HZ) (v : V) : S → Prop
  | .d x => Is K p.z v x
  | .l xs => ∃ a vs, v = .ref a ∧ p.h a = some (.lst vs) ∧ Iss K p.z vs xs
  | .r xs => ∃ a vs, v = .ref a ∧ SqL K p.h a vs ∧ Iss K p.z vs xs
section
variable {K : PySem.W.Frag} {H H' : Hp} {p q : HZ} {a : Addr} {v : V} {x : D} {vs : List V} {xs : List D}
theorem SqT.same (e : Same H H') (h : SqT K H a vs) : SqT K H' a vs := by
  rcases h with (h | ⟨o, h⟩) | h
  · exact .inl (.inl (e _ _ h))
  · exact .inl (.inr ⟨o, e _ _ h⟩)
  · exact .inr h
theorem Is.mono (e : Same H H') (h : Is K H v x) : Is K H' v x := by
  induction h with
  | non => exact .non
  | bl b => exact .bl b
  | int i => exact .int i
  | str y => exact .str y
  | ty n => exact .ty n
  | ref a => exact .ref a
  | tup h hl r ih => exact .tup (SqT.same e h) hl ih
  | lst h hl r ih => exact .lst (e _ _ h) hl ih
theorem Iss.mono (e : Same H H') (h : Iss K H vs xs) : Iss K H' vs xs := ⟨h.1, fun i v x h1 h2 => (h.2 i v x h1 h2).mono e⟩
theorem Iss.nil : Iss K H [] [] := ⟨rfl, fun i v x h => by simp at h⟩
theorem Iss.cons (h : Is K H v x) (t : Iss K H vs xs) : Iss K H (v :: vs) (x :: xs) := by
  refine ⟨by simp [t.1], fun i w y h1 h2 => ?_⟩
  cases i with
  | zero =>
    simp at h1 h2
    subst h1; subst h2
    exact h
  | succ i => exact t.2 i w y (by simpa using h1) (by simpa using h2)
theorem Iss.snoc (t : Iss K H vs xs) (h : Is K H v x) : Iss K H (vs ++ [v]) (xs ++ [x]) := by
  refine ⟨by simp [t.1], fun i w y h1 h2 => ?_⟩
  by_cases hi : i < vs.length
  · rw [List.getElem?_append_left hi] at h1
    rw [List.getElem?_append_left (by have := t.1; omega)] at h2
    exact t.2 i w y h1 h2
  · rw [List.getElem?_append_right (by omega)] at h1
    rw [List.getElem?_append_right (by have := t.1; omega)] at h2
    have e : i - vs.length = 0 := by
      have := (List.getElem?_eq_some_iff.mp h1).1
      simp at this
      omega
    have e2 : i - xs.length = 0 := by have := t.1; omega
    rw [e] at h1
    rw [e2] at h2
    simp at h1 h2
    subst h1; subst h2
    exact h
theorem IsS.mono {s : S} (e : Ext p q) (h : IsS K p v s) : IsS K q v s := by
  cases s with
  | d x => exact Is.mono e.zz h
  | l xs =>
    obtain ⟨a, vs, e1, h1, h2⟩ := h
    exact ⟨a, vs, e1, e.hh _ _ h1, h2.mono e.zz⟩
  | r xs =>
    obtain ⟨a, vs, e1, h1, h2⟩ := h
    exact ⟨a, vs, e1, e.hh.seq h1, h2.mono e.zz⟩
theorem IsS.share {s : S} (h : IsS K p v s) : IsS K p v s.share := by
  cases s with
  | d x => exact h
  | l xs =>
    obtain ⟨a, vs, e1, h1, h2⟩ := h
    exact ⟨a, vs, e1, SqL.of h1, h2⟩
  | r xs => exact h
theorem Is.tup_inv {xs : List D} (h : Is K H v (.tup xs)) : ∃ a vs, v = .ref a ∧ SqT K H a vs ∧ Iss K H vs xs := by
  cases h with
  | tup h hl r => exact ⟨_, _, rfl, h, hl, r⟩
theorem Is.lst_inv {xs : List D} (h : Is K H v (.lst xs)) : ∃ a vs, v = .ref a ∧ SqL K H a vs ∧ Iss K H vs xs := by
  cases h with
  | lst h hl r => exact ⟨_, _, rfl, SqL.of h, hl, r⟩
theorem Is.lst_own {xs : List D} (h : Is K H v (.lst xs)) : ∃ a vs, v = .ref a ∧ H a = some (.lst vs) ∧ Iss K H vs xs := by
  cases h with
  | lst h hl r => exact ⟨_, _, rfl, h, hl, r⟩
theorem Is.int_inv {i : Int} (h : Is K H v (.int i)) : v = .int i := by cases h; rfl
theorem Is.bl_inv {i : Bool} (h : Is K H v (.bl i)) : v = .bl i := by cases h; rfl
theorem Is.non_inv (h : Is K H v .non) : v = .non := by cases h; rfl
theorem Is.str_inv {i : Str} (h : Is K H v (.str i)) : v = .str i := by cases h; rfl
end

abbrev Tau := List (Option S)
/-- a new list, nobody's yet -/
def Fr3 (K : PySem.W.Frag) (p q : HZ) (v : V) (s : S) : Prop := ∀ xs a, s = .l xs → v = .ref a → p.h a = none ∧ K.lookup a = none ∧ q.z a = none
structure Rep (X : Cx) (b : HZ) (τ : Tau) (σ : St) (p : HZ) : Prop where
  len : σ.length = τ.length
  ext : Ext b p
  val : ∀ (i : Nat) (s : S), τ[i]? = some (some s) → ∃ v, σ[i]? = some (some v) ∧ IsS X.K p v s
  own : ∀ (i : Nat) (xs : List D) (a : Addr), τ[i]? = some (some (.l xs)) → σ[i]? = some (some (.ref a)) → b.h a = none ∧ X.K.lookup a = none ∧ p.z a = none
  sep : ∀ (i j : Nat) (xs : List D) (s : S) (a : Addr), i ≠ j → τ[i]? = some (some (.l xs)) → τ[j]? = some (some s) → s.isL = true → σ[i]? = some (some (.ref a)) → σ[j]? ≠ some (some (.ref a))
  top : X.lent = none → Same X.H₀ b.h
  pin : ∀ i a, X.lent = some (i, a) → σ[i]? = some (some (.ref a))
/-- a name that is not the lent list's -/
def PinOk (X : Cx) (i : Nat) : Prop := ∀ k a, X.lent = some (k, a) → k ≠ i
theorem pin_no {X : Cx} {i : Nat} (h : X.lent = none) : PinOk X i := fun k a e => by rw [h] at e; cases e
theorem pin_ne {X : Cx} {i k : Nat} {a : Addr} (h : X.lent = some (k, a)) (n : k ≠ i) : PinOk X i := fun k' a' e => by rw [h] at e; cases e; exact n
section
variable {X : Cx} {b b' p q : HZ} {τ τ' : Tau} {σ : St} {v : V} {s : S}
theorem Rep.all (r : Rep X b τ σ p) (hl : X.lent = none) : Same X.H₀ p.h := (r.top hl).trans r.ext.hh
theorem Rep.own_list {i : Nat} {xs : List D} {a : Addr} (r : Rep X b τ σ p) (h1 : τ[i]? = some (some (.l xs))) (h2 : σ[i]? = some (some (.ref a))) : ∃ vs, p.h a = some (.lst vs) ∧ Iss X.K p.z vs xs := by
  obtain ⟨v, e, c, vs, e1, h3, h4⟩ := r.val i _ h1
  rw [h2] at e
  cases e
  cases e1
  exact ⟨vs, h3, h4⟩
theorem Rep.mono (r : Rep X b τ σ p) (e : Ext p q) : Rep X b τ σ q :=
  ⟨r.len, r.ext.trans e, fun i s h => let ⟨v, h1, h2⟩ := r.val i s h; ⟨v, h1, h2.mono e⟩, (fun i xs a h1 h2 => by
    obtain ⟨o1, o2, o3⟩ := r.own i xs a h1 h2
    obtain ⟨vs, hv, _⟩ := r.own_list h1 h2
    refine ⟨o1, o2, ?_⟩
    cases z : q.z a with
    | none => rfl
    | some o =>
      rcases e.new a o z with x | x
      · rw [o3] at x; cases x
      · rw [hv] at x; cases x), r.sep, r.top, r.pin⟩
theorem fr_up {K : PySem.W.Frag} (e : Ext b p) (f : Fr3 K p q v s) : Fr3 K b q v s := fun xs a h1 h2 => ⟨e.hh.free (f xs a h1 h2).1, (f xs a h1 h2).2⟩
theorem set_get {α : Type} {l : List (Option α)} {i j : Nat} {x y : α} (h : (l.set i (some x))[j]? = some (some y)) : (j = i ∧ y = x) ∨ (j ≠ i ∧ l[j]? = some (some y)) := by
  rw [List.getElem?_set] at h
  by_cases hij : i = j
  · rw [if_pos hij] at h
    split at h
    · cases h
      exact .inl ⟨hij.symm, rfl⟩
    · cases h
  · rw [if_neg hij] at h
    exact .inr ⟨fun z => hij z.symm, h⟩
theorem Rep.set {i : Nat} (r : Rep X b τ σ p) (e : Ext p q) (h : IsS X.K q v s) (f : Fr3 X.K p q v s) (hr : s.isL = s.own) (hp : PinOk X i) : Rep X b (τ.set i (some s)) (σ.set i (some v)) q := by
  have r' := r.mono e
  refine ⟨by simp [r.len], r'.ext, fun j s' hj => ?_, fun j xs a hj ha => ?_, fun j k xs s' a hjk hj hk hs ha => ?_, r.top, fun k a hk => by rw [List.getElem?_set_ne (fun z => hp k a hk z.symm)]; exact r.pin k a hk⟩
  · rcases set_get hj with ⟨rfl, rfl⟩ | ⟨hn, hj⟩
    · have hl : j < σ.length := by
        rw [r.len]
        have := (List.getElem?_eq_some_iff.mp hj).1
        simpa using this
      exact ⟨v, by rw [List.getElem?_set_self hl], h⟩
    · obtain ⟨w, h1, h2⟩ := r'.val j s' hj
      exact ⟨w, by rw [List.getElem?_set_ne (fun z => hn z.symm)]; exact h1, h2⟩
  · rcases set_get hj with ⟨rfl, e1⟩ | ⟨hn, hj⟩
    · rcases set_get ha with ⟨_, e2⟩ | ⟨hn, _⟩
      · exact (fr_up r.ext f) xs a e1.symm e2.symm
      · exact absurd rfl hn
    · rcases set_get ha with ⟨e2, _⟩ | ⟨_, ha⟩
      · exact absurd e2 hn
      · exact r'.own j xs a hj ha
  · -- two lists stand apart
    have fresh : ∀ (m : Nat) (t : S), τ[m]? = some (some t) → t.isL = true → s.own = true → v = .ref a → σ[m]? ≠ some (some (.ref a)) := by
      intro m t hm ht ho hv hσ
      obtain ⟨w, h1, h2⟩ := r.val m t hm
      rw [hσ] at h1
      cases h1
      cases s with
      | d _ => cases ho
      | r _ => cases ho
      | l ys =>
        obtain ⟨f1, f2, _⟩ := f ys a rfl hv
        cases t with
        | d _ => cases ht
        | l zs =>
          obtain ⟨c, vs, e1, h3, _⟩ := h2
          cases e1
          rw [f1] at h3
          cases h3
        | r zs =>
          obtain ⟨c, vs, e1, h3, _⟩ := h2
          cases e1
          rcases h3 with (h3 | ⟨o, h3⟩) | ⟨o, its, n, h3, _⟩
          · rw [f1] at h3; cases h3
          · rw [f1] at h3; cases h3
          · rw [f2] at h3; cases h3
    intro hσk
    rcases set_get hj with ⟨rfl, e1⟩ | ⟨hn, hj'⟩
    · rcases set_get ha with ⟨_, e2⟩ | ⟨hn, _⟩
      · rcases set_get hk with ⟨e3, _⟩ | ⟨_, hk⟩
        · exact hjk e3.symm
        · rcases set_get hσk with ⟨e4, _⟩ | ⟨_, hσk⟩
          · exact hjk e4.symm
          · exact fresh k s' hk hs (by rw [← e1]; rfl) e2.symm hσk
      · exact absurd rfl hn
    · rcases set_get ha with ⟨e2, _⟩ | ⟨_, ha'⟩
      · exact absurd e2 hn
      · rcases set_get hk with ⟨e3, e4⟩ | ⟨hkn, hk'⟩
        · rcases set_get hσk with ⟨_, e5⟩ | ⟨hx, _⟩
          · subst e4
            exact fresh j (.l xs) hj' rfl (by rw [← hr]; exact hs) e5.symm ha'
          · exact absurd e3 hx
        · rcases set_get hσk with ⟨e5, _⟩ | ⟨_, hσk'⟩
          · exact absurd e5 hkn
          · exact r.sep j k xs s' a hjk hj' hk' hs ha' hσk'
/-- a name's list is only read from here on -/
theorem Rep.freeze {i : Nat} {xs : List D} (r : Rep X b τ σ p) (h : τ[i]? = some (some s)) (e : s.share = .r xs) : Rep X b (τ.set i (some (.r xs))) σ p := by
  have hs : s.isL = true := by
    cases s with
    | d _ => cases e
    | l _ => rfl
    | r _ => rfl
  refine ⟨by simp [r.len], r.ext, fun j s' hj => ?_, fun j ys a hj ha => ?_, fun j k ys s' a hjk hj hk hs' ha => ?_, r.top, r.pin⟩
  · rcases set_get hj with ⟨rfl, rfl⟩ | ⟨hn, hj⟩
    · obtain ⟨v, h1, h2⟩ := r.val j s h
      exact ⟨v, h1, by rw [← e]; exact h2.share⟩
    · exact r.val j s' hj
  · rcases set_get hj with ⟨rfl, e1⟩ | ⟨hn, hj⟩
    · cases e1
    · exact r.own j ys a hj ha
  · rcases set_get hj with ⟨rfl, e1⟩ | ⟨hn, hj'⟩
    · cases e1
    · rcases set_get hk with ⟨rfl, e4⟩ | ⟨hkn, hk'⟩
      · exact r.sep j k ys s a hjk hj' h hs ha
      · exact r.sep j k ys s' a hjk hj' hk' hs' ha
/-- a name's own list becomes data -/
theorem Rep.data {i : Nat} {xs : List D} {h z : Hp} (r : Rep X b τ σ ⟨h, z⟩) (hi : τ[i]? = some (some (.l xs))) : ∃ z', Rep X b (τ.set i (some (.d (.lst xs)))) σ ⟨h, z'⟩ := by
  obtain ⟨v, h1, a, vs, rfl, h2, h3⟩ := r.val i _ hi
  obtain ⟨o1, o2, o3⟩ := r.own i xs a hi h1
  have zz : Same z (upd z a (.lst vs)) := same_new o3 _
  refine ⟨upd z a (.lst vs), by simp [r.len], r.ext.freeze o1 o3 h2, fun j s' hj => ?_, fun j ys c hj hc => ?_, fun j k ys s' c hjk hj hk hs' hc => ?_, r.top, r.pin⟩
  · rcases set_get hj with ⟨rfl, rfl⟩ | ⟨hn, hj⟩
    · have h3' := h3.mono zz
      exact ⟨.ref a, h1, Is.lst upd_same h3'.1 h3'.2⟩
    · obtain ⟨w, w1, w2⟩ := r.val j s' hj
      refine ⟨w, w1, ?_⟩
      cases s' with
      | d x => exact Is.mono zz w2
      | l zs => obtain ⟨c, us, e1, q1, q2⟩ := w2; exact ⟨c, us, e1, q1, q2.mono zz⟩
      | r zs => obtain ⟨c, us, e1, q1, q2⟩ := w2; exact ⟨c, us, e1, q1, q2.mono zz⟩
  · rcases set_get hj with ⟨rfl, e1⟩ | ⟨hn, hj'⟩
    · cases e1
    · obtain ⟨q1, q2, q3⟩ := r.own j ys c hj' hc
      refine ⟨q1, q2, ?_⟩
      show upd z a (.lst vs) c = none
      have hca : c ≠ a := by
        rintro rfl
        exact r.sep j i ys (.l xs) c hn hj' hi rfl hc h1
      rw [upd_ne hca]
      exact q3
  · rcases set_get hj with ⟨rfl, e1⟩ | ⟨hn, hj'⟩
    · cases e1
    · rcases set_get hk with ⟨rfl, e4⟩ | ⟨hkn, hk'⟩
      · subst e4; cases hs'
      · exact r.sep j k ys s' c hjk hj' hk' hs' hc

/-! ### the loop's own base: all but the own lists -/
open Classical in
noncomputable def cutB (τ : Tau) (σ : St) (H : Hp) : Hp := fun b => if ∃ (i : Nat) (xs : List D), τ[i]? = some (some (S.l xs)) ∧ σ[i]? = some (some (V.ref b)) then none else H b
theorem cutB_le {H : Hp} : Same (cutB τ σ H) H := fun b o h => by
  unfold cutB at h
  split at h
  · cases h
  · exact h
theorem cutB_not {H : Hp} {c : Addr} (h : ∀ (i : Nat) (xs : List D), τ[i]? = some (some (S.l xs)) → σ[i]? ≠ some (some (V.ref c))) : cutB τ σ H c = H c := by
  unfold cutB
  rw [if_neg]
  rintro ⟨i, xs, h1, h2⟩
  exact h i xs h1 h2
theorem Rep.baseB (r : Rep X b τ σ p) : Same b.h (cutB τ σ p.h) := fun c o h => by
  rw [cutB_not]
  · exact r.ext.hh c o h
  · intro i xs h1 h2
    have := (r.own i xs c h1 h2).1
    rw [h] at this
    cases this
theorem Rep.inB (r : Rep X b τ σ p) : Rep X ⟨cutB τ σ p.h, p.z⟩ τ σ p :=
  ⟨r.len, ⟨cutB_le, Same.refl _, r.ext.sub, fun _ _ e => .inl e⟩, r.val, fun i xs a h1 h2 => ⟨by show cutB τ σ p.h a = none; unfold cutB; rw [if_pos ⟨i, xs, h1, h2⟩], (r.own i xs a h1 h2).2⟩, r.sep, fun h => (r.top h).trans r.baseB, r.pin⟩
structure LeB (X : Cx) (b b' : HZ) : Prop where
  hh : Same b.h b'.h
  zz : Same b.z b'.z
  new : ∀ a o, b'.z a = some o → b.z a = some o ∨ b.h a = none
  top : X.lent = none → Same X.H₀ b.h
theorem LeB.ext (e : LeB X b b') (f : Ext b' p) : Ext b p := ⟨e.hh.trans f.hh, e.zz.trans f.zz, f.sub, fun a o h => by
  rcases f.new a o h with x | x
  · exact e.new a o x
  · exact .inr (e.hh.free x)⟩
theorem Rep.outB (e : LeB X b b') (r : Rep X b' τ σ p) : Rep X b τ σ p :=
  ⟨r.len, e.ext r.ext, r.val, fun i xs a h1 h2 => ⟨e.hh.free (r.own i xs a h1 h2).1, (r.own i xs a h1 h2).2⟩, r.sep, e.top, r.pin⟩
theorem Rep.leB (r : Rep X b τ σ p) : LeB X b ⟨cutB τ σ p.h, p.z⟩ := ⟨r.baseB, r.ext.zz, r.ext.new, r.top⟩
theorem Rep.leR (r : Rep X b τ σ p) : LeB X b b := ⟨Same.refl _, Same.refl _, fun _ _ e => .inl e, r.top⟩
end

/-! ### readings over data -/
abbrev TE3 := Tau → (S → Prop) → Prop
abbrev TT3 := Tau → (Bool → Prop) → Prop
abbrev TA3 := Tau → (List S → Prop) → Prop
structure Ends3 where
  nx : Tau → Prop
  rt : S → Prop
  bk : Tau → Prop := fun _ => False
  ct : Tau → Prop := fun _ => False
abbrev TS3 := Ends3 → Tau → Prop
def Args (K : PySem.W.Frag) (p : HZ) (vs : List V) (ss : List S) : Prop :=
  vs.length = ss.length ∧ ∀ (i : Nat) (v : V) (s : S), vs[i]? = some v → ss[i]? = some s → IsS K p v s ∧ s.own = false
def FE (X : Cx) (t : TE3) : TE := fun σ H Q => ∃ B z τ R, Rep X B τ σ ⟨H, z⟩ ∧ t τ R ∧ ∀ s v q, Ext ⟨H, z⟩ q → IsS X.K q v s → Fr3 X.K ⟨H, z⟩ q v s → R s → Q v q.h
def FT (X : Cx) (t : TT3) : TT := fun σ H Q => ∃ B z τ R, Rep X B τ σ ⟨H, z⟩ ∧ t τ R ∧ ∀ c q, Ext ⟨H, z⟩ q → R c → Q c q.h
def FA (X : Cx) (t : TA3) : TA := fun σ H Q => ∃ B z τ R, Rep X B τ σ ⟨H, z⟩ ∧ t τ R ∧ ∀ ss vs q, Ext ⟨H, z⟩ q → Args X.K q vs ss → R ss → Q vs q.h
structure Cont (X : Cx) (B : HZ) (D3 : Ends3) (D2 : Ends) : Prop where
  nx : ∀ τ σ p, Rep X B τ σ p → D3.nx τ → D2.nx σ p.h
  bk : ∀ τ σ p, Rep X B τ σ p → D3.bk τ → D2.bk σ p.h
  ct : ∀ τ σ p, Rep X B τ σ p → D3.ct τ → D2.ct σ p.h
  rt : ∀ s v q, Ext B q → IsS X.K q v s → Fr3 X.K B q v s → D3.rt s → D2.rt v q.h
def FS (X : Cx) (t : TS3) : TS := fun D2 σ H => ∃ B z τ D3, Rep X B τ σ ⟨H, z⟩ ∧ t D3 τ ∧ Cont X B D3 D2
structure PE3 (X : Cx) (e : Expr) (t : TE3) : Prop where
  out : PE X e (FE X t)
structure PT3 (X : Cx) (e : Expr) (t : TT3) : Prop where
  out : PT X e (FT X t)
structure PW3 (X : Cx) (e : Expr) (t : TT3) : Prop where
  out : PW X e (FT X t)
structure PA3 (X : Cx) (es : List Expr) (t : TA3) : Prop where
  out : PA X es (FA X t)
structure PS3 (X : Cx) (st : Stmt) (t : TS3) : Prop where
  out : PS X st (FS X t)
structure PSs3 (X : Cx) (st : List Stmt) (t : TS3) : Prop where
  out : PSs X st (FS X t)
theorem PW3.pt {X : Cx} {e : Expr} {t : TT3} (h : PW3 X e t) : PT3 X e t := ⟨h.out _⟩

section
variable {X : Cx} {e a b : Expr} {ta tb : TE3} {pos : Pos}
theorem pe_imp {t t' : TE} (h : PE X e t) (f : ∀ σ H Q, t' σ H Q → t σ H Q) : PE X e t' := fun pins s σ H Q I q => h pins s σ H Q I (f σ H Q q)
theorem pt_imp {t t' : TT} (h : PT X e t) (f : ∀ σ H Q, t' σ H Q → t σ H Q) : PT X e t' := fun pins s σ H Q I q => h pins s σ H Q I (f σ H Q q)
theorem pw_imp {t t' : TT} (h : PW X e t) (f : ∀ σ H Q, t' σ H Q → t σ H Q) : PW X e t' := fun wh pins s σ H Q I q => h wh pins s σ H Q I (f σ H Q q)
theorem pa_imp {es : List Expr} {t t' : TA} (h : PA X es t) (f : ∀ σ H Q, t' σ H Q → t σ H Q) : PA X es t' := fun pos pins s σ H Q I q => h pos pins s σ H Q I (f σ H Q q)
theorem ps_imp {st : Stmt} {t t' : TS} (h : PS X st t) (f : ∀ D σ H, t' D σ H → t D σ H) : PS X st t' := fun pins s σ H D I q => h pins s σ H D I (f D σ H q)
theorem pss_imp {st : List Stmt} {t t' : TS} (h : PSs X st t) (f : ∀ D σ H, t' D σ H → t D σ H) : PSs X st t' := fun pins s σ H D I q => h pins s σ H D I (f D σ H q)

/-! #### names, constants -/
def vVar (i : Nat) : TE3 := fun τ R => match τ[i]? with
  | some (some s) => R s.share
  | _ => False
def vC (d : D) : TE3 := fun _ R => R (.d d)
theorem fr_share {K : PySem.W.Frag} {p q : HZ} {v : V} {s : S} : Fr3 K p q v s.share := by
  intro xs a h
  cases s <;> cases h
theorem fr_d {K : PySem.W.Frag} {p q : HZ} {v : V} {d : D} : Fr3 K p q v (.d d) := by
  intro xs a h
  cases h
theorem v_var {i : Nat} {x : Str} (h : PE X (.Name x pos) (tVar i)) : PE3 X (.Name x pos) (vVar i) := by
  refine ⟨?_⟩
  refine pe_imp h fun σ H Q hh9 => ?_
  obtain ⟨B, z, τ, R, r, ht, q⟩ := hh9
  unfold vVar at ht
  split at ht
  · rename_i s hs
    obtain ⟨v, h1, h2⟩ := r.val i s hs
    exact ⟨v, h1, q _ v ⟨H, z⟩ (Ext.refl r.ext.sub) h2.share fr_share ht⟩
  · exact ht.elim
theorem v_const {v : V} {d : D} (h : PE X e (tC v)) (hd : ∀ K H, Is K H v d) : PE3 X e (vC d) := ⟨pe_imp h fun σ H Q hh => by obtain ⟨B, z, τ, R, r, ht, q⟩ := hh; exact q (.d d) v ⟨H, z⟩ (Ext.refl r.ext.sub) (hd _ _) fr_d ht⟩
theorem v_int {i j} : PE3 X (.Constant (.int i) j pos) (vC (.int i)) := v_const pe_int fun _ _ => .int i
theorem v_bl {i j} : PE3 X (.Constant (.bool i) j pos) (vC (.bl i)) := v_const pe_bl fun _ _ => .bl i
theorem v_str {x j} : PE3 X (.Constant (.str x) j pos) (vC (.str x)) := v_const pe_str fun _ _ => .str x

/-! #### operators -/
abbrev R3 := D → D → (D → Prop) → Prop
def lft (K : PySem.W.Frag) (r3 : R3) : R2 := fun x y H Q => ∃ z dx dy R, Same z H ∧ Is K z x dx ∧ Is K z y dy ∧ r3 dx dy R ∧ ∀ d v q, Ext ⟨H, z⟩ q → Is K q.z v d → R d → Q v q.h
def OpR3 (X : Cx) (f : Value → Value → Sem Value) (r3 : R3) : Prop := OpR X f (lft X.K r3)
theorem opr_imp {f : Value → Value → Sem Value} {r r' : R2} (h : OpR X f r) (i : ∀ x y H Q, r' x y H Q → r x y H Q) : OpR X f r' := fun pins s σ H x y v u Q I rx ry q => h pins s σ H x y v u Q I rx ry (i x y H Q q)
def oI (C : Int → Int → Prop) (g : Int → Int → Int) : R3 := fun dx dy R => match dx, dy with
  | .int i, .int j => C i j ∧ R (.int (g i j))
  | _, _ => False
def oI0 (g : Int → Int → Int) : R3 := fun dx dy R => match dx, dy with
  | .int i, .int j => R (.int (g i j))
  | _, _ => False
def oB0 (g : Int → Int → Bool) : R3 := fun dx dy R => match dx, dy with
  | .int i, .int j => R (.bl (g i j))
  | _, _ => False
theorem o_int {f : Value → Value → Sem Value} {C : Int → Int → Prop} {g : Int → Int → Int} (h : OpR X f (rI C fun i j => .int (g i j))) : OpR3 X f (oI C g) :=
  opr_imp h fun x y H Q hh => by
    obtain ⟨z, dx, dy, R, hz, hx, hy, h3, q⟩ := hh
    unfold oI at h3
    split at h3
    · rename_i i j
      exact ⟨i, j, hx.int_inv, hy.int_inv, h3.1, q _ _ ⟨H, z⟩ (Ext.refl hz) (.int _) h3.2⟩
    · exact h3.elim
theorem o_int0 {f : Value → Value → Sem Value} {g : Int → Int → Int} (h : OpR X f (rI0 fun i j => .int (g i j))) : OpR3 X f (oI0 g) :=
  opr_imp h fun x y H Q hh => by
    obtain ⟨z, dx, dy, R, hz, hx, hy, h3, q⟩ := hh
    unfold oI0 at h3
    split at h3
    · rename_i i j
      exact ⟨i, j, hx.int_inv, hy.int_inv, q _ _ ⟨H, z⟩ (Ext.refl hz) (.int _) h3⟩
    · exact h3.elim
theorem o_bl0 {f : Value → Value → Sem Value} {g : Int → Int → Bool} (h : OpR X f (rI0 fun i j => .bl (g i j))) : OpR3 X f (oB0 g) :=
  opr_imp h fun x y H Q hh => by
    obtain ⟨z, dx, dy, R, hz, hx, hy, h3, q⟩ := hh
    unfold oB0 at h3
    split at h3
    · rename_i i j
      exact ⟨i, j, hx.int_inv, hy.int_inv, q _ _ ⟨H, z⟩ (Ext.refl hz) (.bl _) h3⟩
    · exact h3.elim
theorem op_mulB : OpR X (binaryOp .Mult) (rI IntMulOk fun i j => .int (i * j)) := opI fun _ _ _ _ _ _ _ hc q => mul_int q hc
def CDv (i j : Int) : Prop := j ≠ 0 ∧ Builtin.divisionGoesByPylong i j = false
theorem op_fdivB : OpR X (binaryOp .FloorDiv) (rI CDv fun i j => .int (i.fdiv j)) := opI fun _ _ _ _ _ _ _ hc q => floordiv_int hc.1 q (.inl hc.2)
def oAdd : R3 := fun dx dy R => match dx, dy with
  | .int i, .int j => R (.int (i + j))
  | _, _ => False
theorem o_add : OpR3 X (binaryOp .Add) oAdd := o_int0 op_add
def oSub : R3 := fun dx dy R => match dx, dy with
  | .int i, .int j => R (.int (i - j))
  | _, _ => False
theorem o_sub : OpR3 X (binaryOp .Sub) oSub := o_int0 op_sub
def oMul : R3 := fun dx dy R => match dx, dy with
  | .int i, .int j => IntMulOk i j ∧ R (.int (i * j))
  | _, _ => False
theorem o_mul : OpR3 X (binaryOp .Mult) oMul := o_int op_mulB
def oFdiv : R3 := fun dx dy R => match dx, dy with
  | .int i, .int j => CDv i j ∧ R (.int (i.fdiv j))
  | _, _ => False
theorem o_fdiv : OpR3 X (binaryOp .FloorDiv) oFdiv := o_int op_fdivB
def oMod : R3 := fun dx dy R => match dx, dy with
  | .int i, .int j => j ≠ 0 ∧ R (.int (i.fmod j))
  | _, _ => False
theorem o_mod : OpR3 X (binaryOp .Mod) oMod := o_int op_modN
def oPow : R3 := fun dx dy R => match dx, dy with
  | .int i, .int j => CPow i j ∧ R (.int (i ^ j.toNat))
  | _, _ => False
theorem o_pow : OpR3 X (binaryOp .Pow) oPow := o_int op_pow
def oLt : R3 := fun dx dy R => match dx, dy with
  | .int i, .int j => R (.bl (decide (i < j)))
  | _, _ => False
theorem o_lt : OpR3 X (compareOp .Lt) oLt := o_bl0 op_lt
def oGt : R3 := fun dx dy R => match dx, dy with
  | .int i, .int j => R (.bl (decide (j < i)))
  | _, _ => False
theorem o_gt : OpR3 X (compareOp .Gt) oGt := o_bl0 op_gt
/-- == of ints, bools, texts -/
def oEq : R3 := fun dx dy R => match dx, dy with
  | .int i, .int j => R (.bl (decide (i = j)))
  | .bl i, .bl j => R (.bl (decide (i = j)))
  | .str i, .str j => R (.bl (decide (i = j)))
  | _, _ => False
def oNe : R3 := fun dx dy R => match dx, dy with
  | .int i, .int j => R (.bl (!decide (i = j)))
  | .bl i, .bl j => R (.bl (!decide (i = j)))
  | .str i, .str j => R (.bl (!decide (i = j)))
  | _, _ => False
theorem dec_v {α β : Type} {i j : α} {f : α → β} [DecidableEq α] [DecidableEq β] (h : ∀ a b, f a = f b → a = b) : decide (f i = f j) = decide (i = j) := by
  by_cases e : i = j
  · rw [decide_eq_true e, decide_eq_true (by rw [e])]
  · rw [decide_eq_false e, decide_eq_false fun z => e (h _ _ z)]
theorem o_eq : OpR3 X (compareOp .Eq) oEq :=
  opr_imp op_eq fun x y H Q hh => by
    obtain ⟨z, dx, dy, R, hz, hx, hy, h3, q⟩ := hh
    unfold oEq at h3
    split at h3
    · rename_i i j
      cases hx.int_inv
      cases hy.int_inv
      exact ⟨rfl, by rw [dec_v (f := V.int) (fun _ _ z => by cases z; rfl)]; exact q _ _ ⟨H, z⟩ (Ext.refl hz) (.bl _) h3⟩
    · rename_i i j
      cases hx.bl_inv
      cases hy.bl_inv
      exact ⟨rfl, by rw [dec_v (f := V.bl) (fun _ _ z => by cases z; rfl)]; exact q _ _ ⟨H, z⟩ (Ext.refl hz) (.bl _) h3⟩
    · rename_i i j
      cases hx.str_inv
      cases hy.str_inv
      exact ⟨rfl, by rw [dec_v (f := V.str) (fun _ _ z => by cases z; rfl)]; exact q _ _ ⟨H, z⟩ (Ext.refl hz) (.bl _) h3⟩
    · exact h3.elim
theorem o_ne : OpR3 X (compareOp .NotEq) oNe :=
  opr_imp op_ne fun x y H Q hh => by
    obtain ⟨z, dx, dy, R, hz, hx, hy, h3, q⟩ := hh
    unfold oNe at h3
    split at h3
    · rename_i i j
      cases hx.int_inv
      cases hy.int_inv
      exact ⟨rfl, by rw [dec_v (f := V.int) (fun _ _ z => by cases z; rfl)]; exact q _ _ ⟨H, z⟩ (Ext.refl hz) (.bl _) h3⟩
    · rename_i i j
      cases hx.bl_inv
      cases hy.bl_inv
      exact ⟨rfl, by rw [dec_v (f := V.bl) (fun _ _ z => by cases z; rfl)]; exact q _ _ ⟨H, z⟩ (Ext.refl hz) (.bl _) h3⟩
    · rename_i i j
      cases hx.str_inv
      cases hy.str_inv
      exact ⟨rfl, by rw [dec_v (f := V.str) (fun _ _ z => by cases z; rfl)]; exact q _ _ ⟨H, z⟩ (Ext.refl hz) (.bl _) h3⟩
    · exact h3.elim
def dd (x : S) (k : D → Prop) : Prop := match x with
  | .d d => k d
  | _ => False
def vOp (r3 : R3) (ta tb : TE3) : TE3 := fun τ R => ta τ fun x => tb τ fun y => dd x fun dx => dd y fun dy => r3 dx dy fun d => R (.d d)
theorem dd_inv {x : S} {k : D → Prop} (h : dd x k) : ∃ d, x = .d d ∧ k d := by
  cases x with
  | d d => exact ⟨d, rfl, h⟩
  | l _ => exact h.elim
  | r _ => exact h.elim
theorem two {r3 : R3} {σ : St} {H : Hp} {Q : VK} (h : FE X (vOp r3 ta tb) σ H Q) : tOp (lft X.K r3) (FE X ta) (FE X tb) σ H Q := by
  obtain ⟨B, z, τ, R, r, ht, q⟩ := h
  refine ⟨B, _, τ, _, r, ht, fun x v H1 e1 i1 f1 h1 => ?_⟩
  refine ⟨B, _, τ, _, r.mono e1, h1, fun y u H2 e2 i2 f2 h2 => ?_⟩
  obtain ⟨dx, rfl, h4⟩ := dd_inv h2
  obtain ⟨dy, rfl, h5⟩ := dd_inv h4
  exact ⟨H2.z, dx, dy, _, e2.sub, Is.mono e2.zz i1, i2, h5, fun d w H3 e3 i3 h3 => q (.d d) w H3 (e1.trans (e2.trans e3)) i3 fr_d h3⟩
theorem v_op {op : Operator} {r3 : R3} (ho : OpR3 X (binaryOp op) r3) (ha : PE3 X a ta) (hb : PE3 X b tb) : PE3 X (.BinOp a op b pos) (vOp r3 ta tb) := ⟨pe_imp (pe_op ho ha.out hb.out) fun _ _ _ h => two h⟩
theorem v_cmp {op : CmpOp} {r3 : R3} (ho : OpR3 X (compareOp op) r3) (ha : PE3 X a ta) (hb : PE3 X b tb) (hm : behindInMarks op b = false) : PE3 X (.Compare a [op] [b] pos) (vOp r3 ta tb) := ⟨pe_imp (pe_cmpR ho ha.out hb.out hm) fun _ _ _ h => two h⟩
def bb (x : S) (k : Bool → Prop) : Prop := match x with
  | .d (.bl c) => k c
  | _ => False
theorem bb_inv {x : S} {k : Bool → Prop} (h : bb x k) : ∃ c, x = .d (.bl c) ∧ k c := by
  unfold bb at h
  split at h
  · exact ⟨_, rfl, h⟩
  · exact h.elim
def vTest (t : TE3) : TT3 := fun τ R => t τ fun x => bb x R
theorem w_cmp {op : CmpOp} {r3 : R3} (ho : OpR3 X (compareOp op) r3) (ha : PE3 X a ta) (hb : PE3 X b tb) (hm : behindInMarks op b = false) : PT3 X (.Compare a [op] [b] pos) (vTest (vOp r3 ta tb)) := ⟨pt_imp (pt_cmpR ho ha.out hb.out hm) fun σ H Q hh => by obtain ⟨B, z, τ, R, r, ht, q⟩ := hh; exact two ⟨B, _, τ, _, r, ht, fun s v H' e i f h => by
    obtain ⟨c, rfl, h⟩ := bb_inv h
    cases Is.bl_inv i
    exact ⟨c, rfl, q c H' e h⟩⟩⟩
theorem w_val {t : TE3} (h : PE3 X e t) (he : ∀ whole, isTrue e X.env whole = (do let v ← whole; standAt e.pos; holding [v] (truthy v)) := by intro _; rfl) : PT3 X e (vTest t) := ⟨pt_imp (pt_val h.out he) fun σ H Q hh => by obtain ⟨B, z, τ, R, r, ht, q⟩ := hh; exact ⟨B, _, τ, _, r, ht, fun s v H' e i f hz => by
    obtain ⟨c, rfl, hz⟩ := bb_inv hz
    cases Is.bl_inv i
    exact ⟨c, rfl, q c H' e hz⟩⟩⟩
def vNeg (ta : TE3) : TE3 := fun τ R => ta τ fun x => match x with
  | .d (.int i) => R (.d (.int (-i)))
  | _ => False
theorem v_neg (ha : PE3 X a ta) : PE3 X (.UnaryOp .USub a pos) (vNeg ta) := ⟨pe_imp (pe_un un_neg ha.out) fun σ H Q hh => by obtain ⟨B, z, τ, R, r, ht, q⟩ := hh; exact ⟨B, _, τ, _, r, ht, fun s v H' e i f h => by
    split at h
    · rename_i i'
      exact ⟨i', Is.int_inv i, q (.d _) _ H' e (Is.int _) fr_d h⟩
    · exact h.elim⟩⟩
/-! #### and, or, not -/
variable {tA tB' : TT3} {rest : List Expr}
def wAnd (t u : TT3) : TT3 := fun τ R => t τ fun c => if c = true then u τ R else R false
def wOr (t u : TT3) : TT3 := fun τ R => t τ fun c => if c = true then R true else u τ R
def wNot (t : TT3) : TT3 := fun τ R => t τ fun c => R (!c)
theorem w_and1 (ha : PT3 X a tA) : PW3 X (.BoolOp .And [a] pos) tA := ⟨pw_and1 ha.out⟩
theorem w_or1 (ha : PT3 X a tA) : PW3 X (.BoolOp .Or [a] pos) tA := ⟨pw_or1 ha.out⟩
theorem w_and (ha : PT3 X a tA) (hb : PW3 X (.BoolOp .And (b :: rest) pos) tB') : PW3 X (.BoolOp .And (a :: b :: rest) pos) (wAnd tA tB') := ⟨pw_imp (pw_and ha.out hb.out) fun σ H Q hh => by obtain ⟨B, z, τ, R, r, ht, q⟩ := hh; exact ⟨B, _, τ, _, r, ht, fun c H1 e h => by
    cases c with
    | true => rw [if_pos rfl] at h ⊢; exact ⟨B, _, τ, R, r.mono e, h, fun d H2 e2 h2 => q d H2 (e.trans e2) h2⟩
    | false => rw [if_neg Bool.false_ne_true] at h ⊢; exact q _ _ e h⟩⟩
theorem w_or (ha : PT3 X a tA) (hb : PW3 X (.BoolOp .Or (b :: rest) pos) tB') : PW3 X (.BoolOp .Or (a :: b :: rest) pos) (wOr tA tB') := ⟨pw_imp (pw_or ha.out hb.out) fun σ H Q hh => by obtain ⟨B, z, τ, R, r, ht, q⟩ := hh; exact ⟨B, _, τ, _, r, ht, fun c H1 e h => by
    cases c with
    | false => rw [if_neg Bool.false_ne_true] at h ⊢; exact ⟨B, _, τ, R, r.mono e, h, fun d H2 e2 h2 => q d H2 (e.trans e2) h2⟩
    | true => rw [if_pos rfl] at h ⊢; exact q _ _ e h⟩⟩
theorem w_not (ha : PT3 X a tA) : PT3 X (.UnaryOp .Not a pos) (wNot tA) := ⟨pt_imp (pt_not ha.out) fun σ H Q hh => by obtain ⟨B, z, τ, R, r, ht, q⟩ := hh; exact ⟨B, _, τ, _, r, ht, fun c H1 e h => q _ _ e h⟩⟩
def vAnd (ta tb : TE3) : TE3 := fun τ R => ta τ fun x => bb x fun c => if c = true then tb τ R else R (.d (.bl false))
def vNot (ta : TE3) : TE3 := fun τ R => ta τ fun x => bb x fun c => R (.d (.bl (!c)))
theorem v_one {op} {t : TE3} (h : PE3 X a t) : PE3 X (.BoolOp op [a] pos) t := ⟨pe_one h.out⟩
theorem v_and (ha : PE3 X a ta) (hb : PE3 X (.BoolOp .And (b :: rest) pos) tb) : PE3 X (.BoolOp .And (a :: b :: rest) pos) (vAnd ta tb) := ⟨pe_imp (pe_and ha.out hb.out) fun σ H Q hh => by obtain ⟨B, z, τ, R, r, ht, q⟩ := hh; exact ⟨B, _, τ, _, r, ht, fun s v H1 e i f h => by
    obtain ⟨c, rfl, h'⟩ := bb_inv h
    cases Is.bl_inv i
    refine ⟨c, rfl, ?_⟩
    cases c with
    | true => rw [if_pos rfl] at h' ⊢; exact ⟨B, _, τ, R, r.mono e, h', fun s2 v2 H2 e2 i2 f2 h2 => q _ _ _ (e.trans e2) i2 (fr_up e f2) h2⟩
    | false => rw [if_neg Bool.false_ne_true] at h' ⊢; exact q (.d _) _ _ e (Is.bl _) fr_d h'⟩⟩
theorem v_not (ha : PE3 X a ta) : PE3 X (.UnaryOp .Not a pos) (vNot ta) := ⟨pe_imp (pe_not ha.out) fun σ H Q hh => by obtain ⟨B, z, τ, R, r, ht, q⟩ := hh; exact ⟨B, _, τ, _, r, ht, fun s v H1 e i f h => by
    obtain ⟨c, rfl, h'⟩ := bb_inv h
    cases Is.bl_inv i
    exact ⟨c, rfl, q (.d _) _ _ e (Is.bl _) fr_d h'⟩⟩⟩
/-! #### items -/
def items : S → Option (List D)
  | .d (.tup xs) => some xs
  | .d (.lst xs) => some xs
  | .l xs => some xs
  | .r xs => some xs
  | _ => none
def vIx (ta tb : TE3) : TE3 := fun τ R => ta τ fun x => tb τ fun y => match items x, y with
  | some xs, .d (.int i) => match atI xs i with
    | some d => R (.d d)
    | none => False
  | _, _ => False
theorem atI_rel {K : PySem.W.Frag} {H : Hp} {vs : List V} {xs : List D} {i : Int} {d : D} (h : Iss K H vs xs) (e : atI xs i = some d) : ∃ v, atI vs i = some v ∧ Is K H v d := by
  unfold atI at e ⊢
  rw [h.1]
  cases q : ixN xs.length i with
  | none => rw [q] at e; cases e
  | some j =>
    rw [q] at e
    have e' : xs[j]? = some d := e
    have hj := (List.getElem?_eq_some_iff.mp e').1
    have hl : j < vs.length := by rw [h.1]; exact hj
    have hv : vs[j]? = some vs[j] := List.getElem?_eq_getElem hl
    exact ⟨vs[j], hv, h.2 j _ _ hv e'⟩
theorem v_ix (ha : PE3 X a ta) (hb : PE3 X b tb) (hs : PlainIx b) : PE3 X (.Subscript a b pos) (vIx ta tb) := ⟨pe_imp (pe_ix (ix_list.or ix_tup) ha.out hb.out hs) fun σ H Q hh => by
    obtain ⟨B, z, τ, R, r, ht, q⟩ := hh
    refine ⟨B, _, τ, _, r, ht, fun x v H1 e1 i1 f1 h1 => ?_⟩
    refine ⟨B, _, τ, _, r.mono e1, h1, fun y u H2 e2 i2 f2 h2 => ?_⟩
    split at h2
    · rename_i xs i hx
      split at h2
      · rename_i d hd
        cases Is.int_inv i2
        have i1' := IsS.mono e2 i1
        cases x with
        | d z =>
          cases z with
          | tup zs =>
            cases hx
            obtain ⟨p, vs, rfl, h3, h4⟩ := Is.tup_inv i1'
            obtain ⟨w, hw, iw⟩ := atI_rel h4 hd
            exact .inr ⟨p, vs, i, w, rfl, rfl, SqT.same e2.sub h3, hw, q (.d _) _ _ (e1.trans e2) iw fr_d h2⟩
          | lst zs =>
            cases hx
            obtain ⟨p, vs, rfl, h3, h4⟩ := Is.lst_inv i1'
            obtain ⟨w, hw, iw⟩ := atI_rel h4 hd
            exact .inl ⟨p, vs, i, w, rfl, rfl, e2.sub.seq h3, hw, q (.d _) _ _ (e1.trans e2) iw fr_d h2⟩
          | _ => cases hx
        | l zs =>
          cases hx
          obtain ⟨p, vs, rfl, h3, h4⟩ := i1'
          obtain ⟨w, hw, iw⟩ := atI_rel h4 hd
          exact .inl ⟨p, vs, i, w, rfl, rfl, SqL.of h3, hw, q (.d _) _ _ (e1.trans e2) iw fr_d h2⟩
        | r zs =>
          cases hx
          obtain ⟨p, vs, rfl, h3, h4⟩ := i1'
          obtain ⟨w, hw, iw⟩ := atI_rel h4 hd
          exact .inl ⟨p, vs, i, w, rfl, rfl, h3, hw, q (.d _) _ _ (e1.trans e2) iw fr_d h2⟩
      · exact h2.elim
    · exact h2.elim⟩

/-! #### argument lists, displays -/
variable {es : List Expr} {tr : TA3} {te : TE3}
def aNil : TA3 := fun _ R => R []
/-- what is handed on: a new list becomes data -/
def S.arg : S → S
  | .l xs => .d (.lst xs)
  | s => s
def aCons (ta : TE3) (tr : TA3) : TA3 := fun τ R => ta τ fun x => tr τ fun xs => R (x.arg :: xs)
theorem a_nil : PA3 X [] aNil := ⟨pa_imp pa_nil fun σ H Q hh => by obtain ⟨B, z, τ, R, r, ht, q⟩ := hh; exact q [] [] ⟨H, z⟩ (Ext.refl r.ext.sub) ⟨rfl, fun i v s h => by simp at h⟩ ht⟩
theorem arg_own (s : S) : s.arg.own = false := by cases s <;> rfl
/-- a value that is handed on -/
theorem arg_ext {K : PySem.W.Frag} {p q : HZ} {v : V} {s : S} (e : Ext p q) (i : IsS K q v s) (f : Fr3 K p q v s) : ∃ z', Ext p ⟨q.h, z'⟩ ∧ IsS K ⟨q.h, z'⟩ v s.arg := by
  cases s with
  | d x => exact ⟨q.z, e, i⟩
  | r xs => exact ⟨q.z, e, i⟩
  | l xs =>
    obtain ⟨a, vs, rfl, h1, h2⟩ := i
    obtain ⟨f1, f2, f3⟩ := f xs a rfl rfl
    have h3 := h2.mono (same_new f3 (.lst vs))
    exact ⟨upd q.z a (.lst vs), e.freeze f1 f3 h1, Is.lst upd_same h3.1 h3.2⟩
theorem a_cons (ha : PE3 X e te) (hr : PA3 X es tr) (hs : starEach (e :: es) X.env = (false, eval e X.env) :: starEach es X.env := by exact starE rfl) : PA3 X (e :: es) (aCons te tr) :=
  ⟨pa_imp (pa_cons ha.out hr.out hs) fun σ H Q hh => by
    obtain ⟨B, z, τ, R, r, ht, q⟩ := hh
    refine ⟨B, _, τ, _, r, ht, fun x v H1 e1 i1 f1 h1 => ?_⟩
    obtain ⟨z1, e1', i1'⟩ := arg_ext e1 i1 f1
    refine ⟨B, z1, τ, _, r.mono e1', h1, fun ss vs H2 e2 i2 h2 => ?_⟩
    refine q _ _ _ (e1'.trans e2) ⟨by simp [i2.1], fun i w s hw hs => ?_⟩ h2
    cases i with
    | zero =>
      simp at hw hs
      subst hw; subst hs
      exact ⟨IsS.mono e2 i1', arg_own x⟩
    | succ i => exact i2.2 i w s (by simpa using hw) (by simpa using hs)⟩
def allD : List S → Option (List D)
  | [] => some []
  | .d x :: r => (allD r).map (x :: ·)
  | _ :: _ => none
theorem allD_inv : ∀ {ss : List S} {ds : List D}, allD ss = some ds → ss = ds.map S.d
  | [], ds, h => by cases h; rfl
  | .d x :: r, ds, h => by
    unfold allD at h
    cases q : allD r with
    | none => rw [q] at h; cases h
    | some ys =>
      rw [q] at h
      cases h
      rw [allD_inv q]
      rfl
  | .l _ :: _, _, h => by cases h
  | .r _ :: _, _, h => by cases h
theorem args_iss {K : PySem.W.Frag} {p : HZ} {vs : List V} {ds : List D} (h : Args K p vs (ds.map S.d)) : Iss K p.z vs ds := by
  refine ⟨by simpa using h.1, fun i v x h1 h2 => ?_⟩
  exact (h.2 i v (.d x) h1 (by rw [List.getElem?_map, h2]; rfl)).1
def vTup (t : TA3) : TE3 := fun τ R => t τ fun ss => match allD ss with
  | some ds => ds.length ≤ 1000 ∧ R (.d (.tup ds))
  | none => False
theorem small_ {n : Nat} (h : n ≤ 1000) : n ≤ sizeLine := Nat.le_of_lt (small1000 h)
theorem v_tup {x1} (h : PA3 X es tr) : PE3 X (.Tuple es x1 pos) (vTup tr) :=
  ⟨pe_imp (pe_tup h.out) fun σ H Q hh => by obtain ⟨B, z, τ, R, r, ht, q⟩ := hh; exact ⟨B, _, τ, _, r, ht, fun ss vs H1 e1 i1 h1 => by
    try dsimp only at h1
    split at h1
    · rename_i ds hd
      rw [allD_inv hd] at i1
      have j := args_iss i1
      refine ⟨by rw [j.1]; exact small_ h1.1, fun p hp => ?_⟩
      have el := Ext.lay (o := .tup vs) e1.sub hp
      have j' := j.mono (same_new (e1.sub.free hp) (.tup vs))
      exact q (.d _) _ _ (e1.trans el) (Is.tup (SqT.of upd_same) j'.1 j'.2) fr_d h1.2
    · exact h1.elim⟩⟩
/-- a new list, unknown to the module too -/
theorem pe_lstN {t : TA} (h : PA X es t) : PE X (.List es pos) (fun σ H Q => t σ H fun xs H1 => xs.length ≤ sizeLine ∧ ∀ p, H1 p = none → X.K.lookup p = none → Q (.ref p) (upd H1 p (.lst xs))) := by
  intro pins s σ H Q I hq
  refine wpAny_List_spliced (thn (h pos pins s σ H _ I hq) fun us s1 ⟨xs, H1, I1, r, z, q⟩ => ⟨by rw [← r.length]; exact z, ?_⟩)
  have hf : H1 s1.heap.objs.size = none := I1.hok.fresh (Nat.le_refl _)
  have hk : X.K.lookup s1.heap.objs.size = none := by
    cases e : X.K.lookup s1.heap.objs.size with
    | none => rfl
    | some o => exact absurd (Heap.lt_size (I1.kIn _ _ e)) (Nat.lt_irrefl _)
  refine ⟨.ref s1.heap.objs.size, upd H1 s1.heap.objs.size (.lst xs), I1.laid (t' := s1.toks) (fun b u e => Heap.get?_push_of_some _ e) (Nat.le_refl _) ?_, rfl, q _ hf hk⟩
  exact ⟨z, us, 0, r, Heap.get?_push_size _ rfl⟩
def vLst (t : TA3) : TE3 := fun τ R => t τ fun ss => match allD ss with
  | some ds => ds.length ≤ 1000 ∧ R (.l ds)
  | none => False
theorem v_lst (h : PA3 X es tr) : PE3 X (.List es pos) (vLst tr) :=
  ⟨pe_imp (pe_lstN h.out) fun σ H Q hh => by obtain ⟨B, z, τ, R, r, ht, q⟩ := hh; exact ⟨B, _, τ, _, r, ht, fun ss vs H1 e1 i1 h1 => by
    try dsimp only at h1
    split at h1
    · rename_i ds hd
      rw [allD_inv hd] at i1
      have j := args_iss i1
      refine ⟨by rw [j.1]; exact small_ h1.1, fun p hp hk => q (.l ds) _ ⟨_, H1.z⟩ (e1.trans (Ext.own e1.sub hp _)) ⟨p, vs, rfl, upd_same, j⟩ (fun xs a _ h2 => ?_) h1.2⟩
      cases h2
      exact ⟨e1.hh.free hp, hk, e1.sub.free hp⟩
    · exact h1.elim⟩⟩

/-! #### calls of built-ins -/
def vCB (r : List S → (S → Prop) → Prop) (t : TA3) : TE3 := fun τ R => t τ fun ss => r ss R
def CallR3 (X : Cx) (f : Value) (r3 : List S → (S → Prop) → Prop) : Prop :=
  CallR X f (fun xs H Q => ∃ z ss R, Same z H ∧ Args X.K ⟨H, z⟩ xs ss ∧ r3 ss R ∧ ∀ s v q, Ext ⟨H, z⟩ q → IsS X.K q v s → Fr3 X.K ⟨H, z⟩ q v s → R s → Q v q.h)
theorem callr_imp {f : Value} {r r' : List V → Hp → VK → Prop} (h : CallR X f r) (i : ∀ xs H Q, r' xs H Q → r xs H Q) : CallR X f r' := fun pins s σ H xs us Q I rs q => h pins s σ H xs us Q I rs (i xs H Q q)
theorem v_callB {x : Str} {p : Pos} {id : String} {r : List S → (S → Prop) → Prop} (hc : CallR3 X (.builtin id) r) (hg : Gl X x) (hm : X.mg x = none) (hv : bootBuiltins x = some (.builtin id)) (ha : PA3 X (e :: es) tr) (hn : x ≠ "__name__" := by decide)
    (hdb : (x == ("__debug__" : Str)) = false := by decide) (he : starEach (e :: es) X.env = (false, eval e X.env) :: starEach es X.env := by exact starE rfl) (hpl : (backTo pos (starEach es X.env)).any (·.1) = false := by exact plainE rfl) :
    PE3 X (.Call (.Name x p) (e :: es) [] pos) (vCB r tr) := ⟨pe_imp (pe_callB hc hg hm hv ha.out hn hdb he hpl) fun σ H Q hh => by obtain ⟨B, z, τ, R, r, ht, q⟩ := hh; exact ⟨B, _, τ, _, r, ht, fun ss vs H1 e1 i1 h1 => ⟨H1.z, ss, R, e1.sub, i1, h1, fun s v H2 e2 i2 f2 h2 => q s v H2 (e1.trans e2) i2 (fr_up e1 f2) h2⟩⟩⟩
theorem len1 {α : Type} {l : List α} (h : l.length = 1) : ∃ a, l = [a] := by
  cases l with
  | nil => cases h
  | cons a t => exact ⟨a, by rw [List.length_eq_zero_iff.mp (Nat.succ.inj h)]⟩
theorem len2 {α : Type} {l : List α} (h : l.length = 2) : ∃ a b, l = [a, b] := by
  cases l with
  | nil => cases h
  | cons a t =>
    obtain ⟨b, e⟩ := len1 (Nat.succ.inj h)
    exact ⟨a, b, by rw [e]⟩
theorem args1 {K : PySem.W.Frag} {H : HZ} {vs : List V} {s : S} (h : Args K H vs [s]) : ∃ v, vs = [v] ∧ IsS K H v s := by
  obtain ⟨hl, hv⟩ := h
  obtain ⟨v, rfl⟩ := len1 hl
  exact ⟨v, rfl, (hv 0 v s rfl rfl).1⟩
theorem args2 {K : PySem.W.Frag} {H : HZ} {vs : List V} {s t : S} (h : Args K H vs [s, t]) : ∃ v u, vs = [v, u] ∧ IsS K H v s ∧ IsS K H u t := by
  obtain ⟨hl, hv⟩ := h
  obtain ⟨v, u, rfl⟩ := len2 hl
  exact ⟨v, u, rfl, (hv 0 v s rfl rfl).1, (hv 1 u t rfl rfl).1⟩
def bAbs : List S → (S → Prop) → Prop := fun ss R => match ss with
  | [.d (.int i)] => R (.d (.int (if i < 0 then -i else i)))
  | _ => False
theorem b_abs : CallR3 X (.builtin "abs") bAbs :=
  callr_imp call_abs fun xs H Q hh => by
    obtain ⟨z, ss, R, hz, ha, h3, q⟩ := hh
    unfold bAbs at h3
    split at h3
    · rename_i i
      obtain ⟨v, rfl, h⟩ := args1 ha
      cases Is.int_inv h
      exact ⟨i, rfl, q (.d _) _ ⟨H, z⟩ (Ext.refl hz) (Is.int _) fr_d h3⟩
    · exact h3.elim
def bLen : List S → (S → Prop) → Prop := fun ss R => match ss with
  | [s] => match items s with
    | some xs => R (.d (.int xs.length))
    | none => False
  | _ => False
theorem b_len : CallR3 X (.builtin "len") bLen :=
  callr_imp call_len_seq fun xs H Q hh => by
    obtain ⟨z, ss, R, hz, ha, h3, q⟩ := hh
    unfold bLen at h3
    split at h3
    · rename_i s
      split at h3
      · rename_i ys hy
        obtain ⟨v, rfl, h⟩ := args1 ha
        cases s with
        | d z =>
          cases z with
          | tup zs =>
            cases hy
            obtain ⟨p, vs, rfl, h1, h2⟩ := Is.tup_inv h
            exact ⟨p, vs, rfl, .inr (SqT.same hz h1), by rw [h2.1]; exact q (.d _) _ ⟨H, z⟩ (Ext.refl hz) (Is.int _) fr_d h3⟩
          | lst zs =>
            cases hy
            obtain ⟨p, vs, rfl, h1, h2⟩ := Is.lst_inv h
            exact ⟨p, vs, rfl, .inl (hz.seq h1), by rw [h2.1]; exact q (.d _) _ ⟨H, z⟩ (Ext.refl hz) (Is.int _) fr_d h3⟩
          | _ => cases hy
        | l zs =>
          cases hy
          obtain ⟨p, vs, rfl, h1, h2⟩ := h
          exact ⟨p, vs, rfl, .inl (SqL.of h1), by rw [h2.1]; exact q (.d _) _ ⟨H, z⟩ (Ext.refl hz) (Is.int _) fr_d h3⟩
        | r zs =>
          cases hy
          obtain ⟨p, vs, rfl, h1, h2⟩ := h
          exact ⟨p, vs, rfl, .inl h1, by rw [h2.1]; exact q (.d _) _ ⟨H, z⟩ (Ext.refl hz) (Is.int _) fr_d h3⟩
      · exact h3.elim
    · exact h3.elim

/-! #### isinstance of a built-in type -/
inductive Ty where
  | int | bool | tuple | str | list
def nameT : Ty → String
  | .int => "int"
  | .bool => "bool"
  | .tuple => "tuple"
  | .str => "str"
  | .list => "list"
def isKB : Ty → S → Bool
  | .int, .d (.int _) => true
  | .int, .d (.bl _) => true
  | .bool, .d (.bl _) => true
  | .tuple, .d (.tup _) => true
  | .str, .d (.str _) => true
  | .list, .l _ => true
  | .list, .r _ => true
  | .list, .d (.lst _) => true
  | _, _ => false
def noTy : S → Prop
  | .d (.ty _) => False
  | .d (.ref _) => False
  | _ => True
theorem call_isi (k : Ty) : CallR X (.builtin "isinstance") (fun xs H Q => ∃ z x s, Same z H ∧ xs = [x, .ty (nameT k)] ∧ IsS X.K ⟨H, z⟩ x s ∧ noTy s ∧ Q (.bl (isKB k s)) H) := by
  intro pins s σ H xs us Q I rs h
  obtain ⟨zz, x, z, hz, rfl, h1, h2, q⟩ := h
  obtain ⟨v', u', rfl, r1, r2⟩ := vals2 rs
  cases r2
  have fin : ∀ tk, EP X pins σ Q (.bool (isKB k z)) { s with toks := tk } := fun tk => ⟨.bl _, H, I.tok tk, rfl, q⟩
  cases z with
  | d z =>
    cases z with
    | non => cases Is.non_inv h1; exact isinst_ok I r1 .non (by cases k <;> kernel_rfl) fin
    | bl y => cases Is.bl_inv h1; exact isinst_ok I r1 (.bl y) (by cases k <;> kernel_rfl) fin
    | int y => cases Is.int_inv h1; exact isinst_ok I r1 (.int y) (by cases k <;> kernel_rfl) fin
    | str y => cases Is.str_inv h1; exact isinst_ok I r1 (.str y) (by cases k <;> kernel_rfl) fin
    | ty y => exact h2.elim
    | ref y => exact h2.elim
    | lst y =>
      obtain ⟨p, vs, rfl, g1, g2⟩ := Is.lst_inv h1
      cases r1
      obtain ⟨its, _, pl, _⟩ := I.list (hz.seq g1)
      obtain ⟨o, n', e1, e2, _⟩ := pl
      exact PySem.W.kia_one PySem.W.kitx_list I.kIn ⟨o, e1, e2⟩ (by cases k <;> kernel_rfl) (fun z => nomatch z) fin
    | tup y =>
      obtain ⟨p, vs, rfl, g1, g2⟩ := Is.tup_inv h1
      cases r1
      obtain ⟨its, _, pl, _⟩ := I.tuple (SqT.same hz g1)
      obtain ⟨o, e1, e2, _⟩ := pl
      exact PySem.W.kia_one PySem.W.kitx_tuple I.kIn ⟨o, e1, e2⟩ (by cases k <;> kernel_rfl) (fun z => nomatch z) fin
  | l y =>
    obtain ⟨p, vs, rfl, g1, g2⟩ := h1
    cases r1
    obtain ⟨its, _, pl, _⟩ := I.list (SqL.of g1)
    obtain ⟨o, n', e1, e2, _⟩ := pl
    exact PySem.W.kia_one PySem.W.kitx_list I.kIn ⟨o, e1, e2⟩ (by cases k <;> kernel_rfl) (fun z => nomatch z) fin
  | r y =>
    obtain ⟨p, vs, rfl, g1, g2⟩ := h1
    cases r1
    obtain ⟨its, _, pl, _⟩ := I.list g1
    obtain ⟨o, n', e1, e2, _⟩ := pl
    exact PySem.W.kia_one PySem.W.kitx_list I.kIn ⟨o, e1, e2⟩ (by cases k <;> kernel_rfl) (fun z => nomatch z) fin

def vIsi (k : Ty) (te : TE3) : TE3 := fun τ R => te τ fun x => noTy x ∧ R (.d (.bl (isKB k x)))
theorem v_isi (k : Ty) {y : Str} {p p2 : Pos} (ha : PE3 X e te) (hg : Gl X "isinstance") (hm : X.mg "isinstance" = none) (hg2 : Gl X y) (hm2 : X.mg y = none) (hv : bootBuiltins y = some (.type (nameT k)))
    (hn : y ≠ "__name__" := by decide) (hd : (y == ("__debug__" : Str)) = false := by decide)
    (he : starEach [e, .Name y p2] X.env = (false, eval e X.env) :: starEach [.Name y p2] X.env := by exact starE rfl) (he2 : starEach [.Name y p2] X.env = (false, eval (.Name y p2) X.env) :: starEach [] X.env := by exact starE rfl) (hpl : (backTo pos (starEach [.Name y p2] X.env)).any (·.1) = false := by exact plainE rfl) :
    PE3 X (.Call (.Name "isinstance" p) [e, .Name y p2] [] pos) (vIsi k te) := ⟨pe_imp (pe_callB (call_isi k) hg hm PyProof.Rows.boot_isinstance (pa_cons ha.out (pa_cons (pe_bltn (v := .ty (nameT k)) hg2 hm2 hv rfl hn hd) pa_nil he2) he) (he := he) (hpl := hpl)) fun σ H Q ⟨B, z, τ, R, r, ht, q⟩ =>
    ⟨B, _, τ, _, r, ht, fun s v H1 e1 i1 f1 h1 => ⟨H1.z, v, s, e1.sub, rfl, i1, h1.1, q (.d _) _ H1 e1 (Is.bl _) fr_d h1.2⟩⟩⟩
/-! #### calls of defs -/
abbrev Sp3 := List S → (S → Prop) → (Str → Prop) → Prop
def liftSp (K : PySem.W.Frag) (mg : Str → Option Value) (sp : Sp3) : Sp := fun vs H Q E => ∃ z ss R U, Same z H ∧ Args K ⟨H, z⟩ vs ss ∧ sp ss R U ∧ (∀ s v q, Ext ⟨H, z⟩ q → IsS K q v s → Fr3 K ⟨H, z⟩ q v s → R s → Q v q.h) ∧
  ∀ x C H', Same H H' → mg x = some (.ref C) → U x → E (.ref C) none H'
structure Cal (P : Program) (w : World) (K : PySem.W.Frag) (mg : Str → Option Value) (base : Heap) (CX : CXT) (k : Nat) (x : Str) (ps : List Str) (sp : Sp3) : Prop where
  ex : ∃ f fd, FnOk P w K mg base CX k f fd ps (liftSp K mg sp) ∧ mg x = some (.ref f) ∧ PySem.W.keepIn K (.ref f) = true ∧ Binds K fd ps []
def NoU : Str → Prop := fun _ => False

/-! #### statements -/
variable {st : Stmt} {rest' : List Stmt} {t u : TS3}
def sNext : TS3 := fun D3 τ => D3.nx τ
def sSeq (t u : TS3) : TS3 := fun D3 τ => t { D3 with nx := u D3 } τ
def sCut (t u : TS3) : TS3 := fun D3 τ => ∃ mid : Tau → Prop, t { D3 with nx := mid } τ ∧ ∀ τ', mid τ' → u D3 τ'
theorem ss_nil : PSs3 X [] sNext := ⟨pss_imp pss_nil fun _ _ _ ⟨_, _, _, _, r, ht, c⟩ => c.nx _ _ _ r ht⟩
theorem ss_one (h : PS3 X st t) : PSs3 X [st] t := ⟨pss_one h.out⟩
theorem ss_cons (h1 : PS3 X st t) (h2 : PSs3 X rest' u) : PSs3 X (st :: rest') (sSeq t u) := ⟨pss_imp (pss_cons h1.out h2.out) fun D2 σ H hh => by obtain ⟨B, z, τ, D3, r, ht, c⟩ := hh; exact ⟨B, _, τ, { D3 with nx := u D3 }, r, ht, ⟨fun τ' σ' p' r' h' => ⟨B, _, τ', D3, r', h', c⟩, c.bk, c.ct, c.rt⟩⟩⟩
theorem ss_cut (h1 : PS3 X st t) (h2 : PSs3 X rest' u) : PSs3 X (st :: rest') (sCut t u) := ⟨pss_imp (pss_cons h1.out h2.out) fun D2 σ H ⟨B, z, τ, D3, r, ⟨mid, ht, hm⟩, c⟩ => ⟨B, _, τ, { D3 with nx := mid }, r, ht, ⟨fun τ' σ' p' r' h' => ⟨B, _, τ', D3, r', hm τ' h', c⟩, c.bk, c.ct, c.rt⟩⟩⟩
/-- a test whose way out leaves the def: the state stays -/
def sGd (t u : TS3) : TS3 := fun D3 τ => t { D3 with nx := fun τ' => τ' = τ } τ ∧ u D3 τ
theorem ss_gd (h1 : PS3 X st t) (h2 : PSs3 X rest' u) : PSs3 X (st :: rest') (sGd t u) := ⟨pss_imp (ss_cut h1 h2).out fun D2 σ H ⟨B, z, τ, D3, r, ⟨ht, hu⟩, c⟩ => ⟨B, _, τ, D3, r, ⟨fun τ' => τ' = τ, ht, fun τ' e => by subst e; exact hu⟩, c⟩⟩
def sNever : TS3 := fun _ _ => False
theorem s_never : PS3 X st sNever := ⟨ps_imp ps_never fun _ _ _ ⟨_, _, _, _, _, h, _⟩ => h.elim⟩
def sDrop (te : TE3) : TS3 := fun D3 τ => te τ fun _ => D3.nx τ
theorem s_expr (he : PE3 X e te) (hs : swapsWith e none pos.line X.env = pure false := by rfl) : PS3 X (.Expr e pos) (sDrop te) := ⟨ps_imp (ps_expr he.out hs) fun D2 σ H hh => by obtain ⟨B, z, τ, D3, r, ht, c⟩ := hh; exact ⟨B, _, τ, _, r, ht, fun s v H' e i f h => c.nx _ _ _ (r.mono e) h⟩⟩
def sRet (te : TE3) : TS3 := fun D3 τ => te τ D3.rt
theorem s_ret (he : PE3 X e te) : PS3 X (.Return (some e) pos) (sRet te) := ⟨ps_imp (ps_ret he.out) fun D2 σ H hh => by obtain ⟨B, z, τ, D3, r, ht, c⟩ := hh; exact ⟨B, _, τ, _, r, ht, fun s v H' e i f h => c.rt s v H' (r.ext.trans e) i (fr_up r.ext f) h⟩⟩
def sRetV (i : Nat) : TS3 := fun D3 τ => match τ[i]? with
  | some (some s) => D3.rt s
  | _ => False
theorem s_retV {i : Nat} {x : Str} {pos' : Pos} (h : PE X (.Name x pos') (tVar i)) : PS3 X (.Return (some (.Name x pos')) pos) (sRetV i) := ⟨ps_imp (ps_ret h) fun D2 σ H hh => by
    obtain ⟨B, z, τ, D3, r, ht, c⟩ := hh
    unfold sRetV at ht
    split at ht
    · rename_i s hs
      obtain ⟨v, h1, h2⟩ := r.val i s hs
      exact ⟨v, h1, c.rt s v ⟨H, z⟩ r.ext h2 (fun xs a e1 e2 => r.own i xs a (by rw [← e1]; exact hs) (by rw [← e2]; exact h1)) ht⟩
    · exact ht.elim⟩
def sIf (c : TT3) (t u : TS3) : TS3 := fun D3 τ => c τ fun b => if b = true then t D3 τ else u D3 τ
theorem s_if {c : Expr} {as bs : List Stmt} {tc : TT3} (hc : PT3 X c tc) (ha : PSs3 X as t) (hb : PSs3 X bs u) : PS3 X (.If c as bs pos) (sIf tc t u) := ⟨ps_imp (ps_if hc.out ha.out hb.out) fun D2 σ H hh => by obtain ⟨B, z, τ, D3, r, ht, c⟩ := hh; exact ⟨B, _, τ, _, r, ht, fun b H1 e h => by
    cases b with
    | true => rw [if_pos rfl] at h ⊢; exact ⟨B, _, τ, D3, r.mono e, h, c⟩
    | false => rw [if_neg Bool.false_ne_true] at h ⊢; exact ⟨B, _, τ, D3, r.mono e, h, c⟩⟩⟩
def sSet (i : Nat) (te : TE3) : TS3 := fun D3 τ => te τ fun s => match s with
  | .r _ => False
  | .d x => D3.nx (τ.set i (some (.d x)))
  | .l xs => D3.nx (τ.set i (some (.l xs)))
theorem s_set {i : Nat} {x : Str} {pos' : Pos} (hN : X.N.Nodup) (hi : X.N[i]? = some x) (hx : Loc X.env.scope x) (he : PE3 X e te) (hs : swapsWith e (some (.Name x pos')) pos.line X.env = pure false := by rfl) (hf : X.fn x = true ∨ X.env.scope.names.lookup x = some .local := by first | exact .inl rfl | exact .inr rfl | assumption) (hp : PinOk X i := by first | exact pin_no rfl | exact pin_ne rfl (by decide) | assumption) :
    PS3 X (.Assign [.Name x pos'] e pos) (sSet i te) := ⟨ps_imp (ps_set hN hi hx he.out hs hf) fun D2 σ H hh => by obtain ⟨B, z, τ, D3, r, ht, c⟩ := hh; exact ⟨B, _, τ, _, r, ht, fun s v H' e i f h => by
    cases s with
    | r _ => exact h.elim
    | d y => exact c.nx _ _ _ (r.set e i f rfl hp) h
    | l ys => exact c.nx _ _ _ (r.set e i f rfl hp) h⟩⟩
/-! #### append -/
theorem Rep.push {B : HZ} {H z : Hp} {τ : Tau} {σ : St} {i : Nat} {xs : List D} {l : Addr} {vs : List V} {w : V} {d : D} (r : Rep X B τ σ ⟨H, z⟩) (hi : τ[i]? = some (some (.l xs))) (hσ : σ[i]? = some (some (.ref l)))
    (hl : H l = some (.lst vs)) (hv : Iss X.K z vs xs) (iw : Is X.K z w d) : Rep X B (τ.set i (some (.l (xs ++ [d])))) σ ⟨upd H l (.lst (vs ++ [w])), z⟩ := by
  obtain ⟨o1, o2, o3⟩ := r.own i xs l hi hσ
  refine ⟨by simp [r.len], ⟨fun b o h => ?_, r.ext.zz, fun b o h => ?_, r.ext.new⟩, fun j s hj => ?_, fun j ys a hj ha => ?_, fun j k ys s a hjk hj hk hs ha => ?_, r.top, r.pin⟩
  · have hb : b ≠ l := by
      rintro rfl
      rw [h] at o1
      cases o1
    show upd H l _ b = some o
    rw [upd_ne hb]
    exact r.ext.hh b o h
  · have hb : b ≠ l := by
      rintro rfl
      have h' : z b = some o := h
      rw [show z b = none from o3] at h'
      cases h'
    show upd H l _ b = some o
    rw [upd_ne hb]
    exact r.ext.sub b o h
  · rcases set_get hj with ⟨rfl, rfl⟩ | ⟨hn, hj⟩
    · exact ⟨.ref l, hσ, l, _, rfl, upd_same, hv.snoc iw⟩
    · obtain ⟨v, h1, h2⟩ := r.val j s hj
      refine ⟨v, h1, ?_⟩
      cases s with
      | d x => exact h2
      | l ys =>
        obtain ⟨b, ws, rfl, h3, h4⟩ := h2
        have hb : b ≠ l := by
          rintro rfl
          exact r.sep i j xs (.l ys) b (fun z => hn z.symm) hi hj rfl hσ h1
        exact ⟨b, ws, rfl, by show upd H l _ b = _; rw [upd_ne hb]; exact h3, h4⟩
      | r ys =>
        obtain ⟨b, ws, rfl, h3, h4⟩ := h2
        have hb : b ≠ l := by
          rintro rfl
          exact r.sep i j xs (.r ys) b (fun z => hn z.symm) hi hj rfl hσ h1
        refine ⟨b, ws, rfl, ?_, h4⟩
        rcases h3 with (h3 | ⟨o, h3⟩) | h3
        · exact .inl (.inl (by show upd H l _ b = _; rw [upd_ne hb]; exact h3))
        · exact .inl (.inr ⟨o, by show upd H l _ b = _; rw [upd_ne hb]; exact h3⟩)
        · exact .inr h3
  · rcases set_get hj with ⟨rfl, _⟩ | ⟨hn, hj⟩
    · exact r.own j xs a hi ha
    · exact r.own j ys a hj ha
  · rcases set_get hj with ⟨rfl, _⟩ | ⟨hn, hj'⟩
    · rcases set_get hk with ⟨e3, _⟩ | ⟨hkn, hk'⟩
      · exact absurd e3.symm hjk
      · exact r.sep j k xs s a hjk hi hk' hs ha
    · rcases set_get hk with ⟨rfl, rfl⟩ | ⟨hkn, hk'⟩
      · exact r.sep j k ys (.l xs) a hjk hj' hi rfl ha
      · exact r.sep j k ys s a hjk hj' hk' hs ha
def sApp (i : Nat) (te : TE3) : TS3 := fun D3 τ => match τ[i]? with
  | some (some (.l xs)) => te τ fun s => dd s.arg fun d => xs.length < 1000000 ∧ D3.nx (τ.set i (some (.l (xs ++ [d]))))
  | _ => False
theorem s_app {i : Nat} {o : Expr} {apos cpos : Pos} (h : PS X (.Expr (.Call (.Attribute o "append" apos) [e] [] cpos) pos) (tDrop (tBM X.K "list" rAppend (tVar i) (tCons (FE X te) tNil)))) :
    PS3 X (.Expr (.Call (.Attribute o "append" apos) [e] [] cpos) pos) (sApp i te) := ⟨ps_imp h fun D2 σ H hh => by
    obtain ⟨B, z, τ, D3, r, ht, c⟩ := hh
    unfold sApp at ht
    split at ht
    · rename_i xs hs
      obtain ⟨v, h1, a, vs, rfl, h2, h3⟩ := r.val i _ hs
      refine ⟨.ref a, h1, .inl ⟨rfl, vs, SqL.of h2⟩, B, _, τ, _, r, ht, fun s v H' e i' f h => ?_⟩
      obtain ⟨d, hd, h4, h5⟩ := dd_inv h
      obtain ⟨z', e', i''⟩ := arg_ext e i' f
      rw [hd] at i''
      have sz : (1000000 : Nat) < sizeLine := by decide
      exact ⟨a, vs, v, rfl, rfl, e.hh _ _ h2, by rw [h3.1]; omega, c.nx _ _ _ ((r.mono e').push hs h1 (e.hh _ _ h2) (h3.mono e'.zz) i'') h5⟩
    · exact ht.elim⟩
/-! #### while -/
def sWhile (c : TT3) (tb : TS3) : TS3 := fun D3 τ => ∃ W : Nat → Tau → Prop, (∃ m, W m τ) ∧ ∀ m τ, W m τ →
  c τ fun b => if b = true then tb { D3 with nx := fun τ' => ∃ m', m' < m ∧ W m' τ', ct := fun τ' => ∃ m', m' < m ∧ W m' τ', bk := D3.nx } τ else D3.nx τ
theorem s_while {c : Expr} {body : List Stmt} {tc : TT3} {tb : TS3} (hp : PassesOwn (model X.prog X.w) X.A X.env X.xe) (hc : PT3 X c tc) (hb : PSs3 X body tb) : PS3 X (.While c body [] pos) (sWhile tc tb) := ⟨ps_imp (ps_while hp hc.out hb.out) fun D2 σ H hh => by
    obtain ⟨B, z, τ, D3, r, ⟨W, ⟨m0, w0⟩, turn⟩, c⟩ := hh
    refine ⟨fun m σ H => ∃ z τ, Rep X B τ σ ⟨H, z⟩ ∧ W m τ, ⟨m0, z, τ, r, w0⟩, ?_⟩
    rintro m σ1 H1 ⟨z1, τ1, r1, w1⟩
    refine ⟨B, _, τ1, _, r1, turn m τ1 w1, fun b H2 e h => ?_⟩
    cases b with
    | true =>
      rw [if_pos rfl] at h ⊢
      refine ⟨fun σ' H' => ∃ m', m' < m ∧ ∃ z τ, Rep X B τ σ' ⟨H', z⟩ ∧ W m' τ, fun σ' H' ⟨m', h1, h2⟩ => ⟨m', h1, h2⟩, B, _, τ1, _, r1.mono e, h, ⟨?_, c.nx, ?_, c.rt⟩⟩
      · rintro τ' σ' p' r' ⟨m', h1, h2⟩
        exact ⟨m', h1, p'.z, τ', r', h2⟩
      · rintro τ' σ' p' r' ⟨m', h1, h2⟩
        exact ⟨m', h1, p'.z, τ', r', h2⟩
    | false =>
      rw [if_neg Bool.false_ne_true] at h ⊢
      exact c.nx _ _ _ (r1.mono e) h⟩
/-! #### for -/
def sTurn (i : Nat) (xs : List D) (tb : TS3) (D3 : Ends3) (τ0 : Tau) : Prop := ∃ I : Nat → Tau → Prop, I 0 τ0 ∧
  (∀ n τ x, xs[n]? = some x → I n τ → tb { D3 with nx := I (n + 1), ct := I (n + 1), bk := D3.nx } (τ.set i (some (.d x)))) ∧ ∀ τ, I xs.length τ → D3.nx τ
theorem Rep.setd {B p : HZ} {τ : Tau} {σ : St} {i : Nat} {v : V} {x : D} (r : Rep X B τ σ p) (h : Is X.K p.z v x) (hp : PinOk X i) : Rep X B (τ.set i (some (.d x))) (σ.set i (some v)) p :=
  r.set (s := .d x) (Ext.refl r.ext.sub) h fr_d rfl hp
theorem Cont.inB {B B' : HZ} {D3 : Ends3} {D2 : Ends} {I : Tau → Prop} {N : St → Hp → Prop} (e : LeB X B B') (c : Cont X B D3 D2) (hN : ∀ τ σ p, Rep X B' τ σ p → I τ → N σ p.h) :
    Cont X B' { D3 with nx := I, ct := I, bk := D3.nx } { D2 with nx := N, ct := N, bk := D2.nx } :=
  ⟨hN, fun τ σ H r h => c.nx τ σ H (r.outB e) h, hN, fun s v q h1 h2 h3 h4 => c.rt s v q (e.ext h1) h2 (fun xs a x1 x2 => ⟨e.hh.free (h3 xs a x1 x2).1, (h3 xs a x1 x2).2⟩) h4⟩
theorem iss_item {K : PySem.W.Frag} {H : Hp} {vs : List V} {xs : List D} {n : Nat} {v : V} (h : Iss K H vs xs) (e : vs[n]? = some v) : ∃ x, xs[n]? = some x ∧ Is K H v x := by
  have hn := (List.getElem?_eq_some_iff.mp e).1
  have hx : xs[n]? = some (xs[n]'(by rw [← h.1]; exact hn)) := List.getElem?_eq_getElem (by rw [← h.1]; exact hn)
  exact ⟨_, hx, h.2 n v _ e hx⟩
/-- the loop over a list that is no own one -/
theorem for_lst {B : HZ} {τ : Tau} {σ : St} {H z : Hp} {D2 : Ends} {D3 : Ends3} {a : Addr} {vs : List V} {xs : List D} {i : Nat} {tb : TS3} (r : Rep X B τ σ ⟨H, z⟩) (c : Cont X B D3 D2) (hs : SqL X.K H a vs) (hv : Iss X.K z vs xs)
    (hno : ∀ (j : Nat) (ys : List D), τ[j]? = some (some (S.l ys)) → σ[j]? ≠ some (some (V.ref a))) (h : sTurn i xs tb D3 τ) (hp : PinOk X i) :
    ∃ W : Nat → Nat → St → Hp → Prop, (∃ m, W 0 m σ H) ∧ ∀ n m σ H, W n m σ H →
      ((Itl X.K a).stop n H ∧ D2.nx σ H) ∨ ((Itl X.K a).go n H ∧ ∃ N : St → Hp → Prop, (∀ σ' H', N σ' H' → ∃ m', m' < m ∧ W (n + 1) m' σ' H') ∧ ∀ x H', (Itl X.K a).yld n H x H' → gName i x σ H' fun σ2 H2 => FS X tb { D2 with nx := N, ct := N, bk := D2.nx } σ2 H2) := by
  obtain ⟨I, i0, turn, out⟩ := h
  have hB : SqL X.K (cutB τ σ H) a vs := by
    rcases hs with (hs | ⟨o, hs⟩) | hs
    · exact .inl (.inl (by rw [cutB_not hno]; exact hs))
    · exact .inl (.inr ⟨o, by rw [cutB_not hno]; exact hs⟩)
    · exact .inr hs
  refine for_list (K := X.K) (a := a) (xs := vs) (g := gName i) (tb := FS X tb) (D := D2) (fun n σ1 H1 => ∃ z1 τ1, Rep X ⟨cutB τ σ H, z⟩ τ1 σ1 ⟨H1, z1⟩ ∧ I n τ1) ⟨z, τ, r.inB, i0⟩ (fun n σ1 H1 _ ⟨z1, τ1, r1, _⟩ => r1.ext.hh.seq hB) ?_ ?_
  · rintro n v σ1 H1 hn ⟨z1, τ1, r1, i1⟩
    obtain ⟨x, hx, ix⟩ := iss_item hv hn
    exact ⟨_, _, _, _, r1.setd (ix.mono r1.ext.zz) hp, turn n τ1 x hx i1, c.inB r.leB fun τ' σ' p' r' h' => ⟨p'.z, τ', r', h'⟩⟩
  · rintro σ1 H1 ⟨z1, τ1, r1, i1⟩
    exact c.nx _ _ _ (r1.outB r.leB) (out τ1 (by rw [← hv.1]; exact i1))
theorem for_tp {B : HZ} {τ : Tau} {σ : St} {H z : Hp} {D2 : Ends} {D3 : Ends3} {a : Addr} {vs : List V} {xs : List D} {i : Nat} {tb : TS3} (r : Rep X B τ σ ⟨H, z⟩) (c : Cont X B D3 D2) (hs : SqT X.K z a vs) (hv : Iss X.K z vs xs)
    (h : sTurn i xs tb D3 τ) (hp : PinOk X i) :
    ∃ W : Nat → Nat → St → Hp → Prop, (∃ m, W 0 m σ H) ∧ ∀ n m σ H, W n m σ H →
      ((Itt X.K a).stop n H ∧ D2.nx σ H) ∨ ((Itt X.K a).go n H ∧ ∃ N : St → Hp → Prop, (∀ σ' H', N σ' H' → ∃ m', m' < m ∧ W (n + 1) m' σ' H') ∧ ∀ x H', (Itt X.K a).yld n H x H' → gName i x σ H' fun σ2 H2 => FS X tb { D2 with nx := N, ct := N, bk := D2.nx } σ2 H2) := by
  obtain ⟨I, i0, turn, out⟩ := h
  refine for_tup (K := X.K) (a := a) (xs := vs) (g := gName i) (tb := FS X tb) (D := D2) (fun n σ1 H1 => ∃ z1 τ1, Rep X ⟨cutB τ σ H, z⟩ τ1 σ1 ⟨H1, z1⟩ ∧ I n τ1) ⟨z, τ, r.inB, i0⟩ (fun n σ1 H1 _ ⟨z1, τ1, r1, _⟩ => SqT.same (r1.ext.zz.trans r1.ext.sub) hs) ?_ ?_
  · rintro n v σ1 H1 hn ⟨z1, τ1, r1, i1⟩
    obtain ⟨x, hx, ix⟩ := iss_item hv hn
    exact ⟨_, _, _, _, r1.setd (ix.mono r1.ext.zz) hp, turn n τ1 x hx i1, c.inB r.leB fun τ' σ' p' r' h' => ⟨p'.z, τ', r', h'⟩⟩
  · rintro σ1 H1 ⟨z1, τ1, r1, i1⟩
    exact c.nx _ _ _ (r1.outB r.leB) (out τ1 (by rw [← hv.1]; exact i1))
/-- a list or a tuple is walked -/
def iSeq (K : PySem.W.Frag) (tl : TE) : TI := fun σ H R => tl σ H fun x H1 => ∃ a, x = .ref a ∧ (((∃ xs, SqL K H1 a xs) ∧ R (Itl K a) H1) ∨ ((∃ xs, SqT K H1 a xs) ∧ R (Itt K a) H1))
theorem pi_seq {tg l : Expr} {tl : TE} (hl : PE X l tl) : PI X tg l (iSeq X.K tl) := by
  intro pins s σ H R I h
  refine thn (hl pins s σ H _ I h) fun v s1 hh9 => ?_
  obtain ⟨x, H1, I1, r1, q1⟩ := hh9
  obtain ⟨a, e, ⟨⟨xs, hq⟩, q⟩ | ⟨⟨xs, hq⟩, q⟩⟩ := q1
  · subst e
    cases r1
    obtain ⟨its, rv, p, hz⟩ := I1.list hq
    refine wpAny_pyIter_list p.isList ?_
    refine ⟨s1.heap.objs.size, [s1.heap.objs.size], _, _, H1, rfl, I1.kept (t' := s1.toks) fun b o e => Heap.get?_push_of_some _ e, turn_list a _, ⟨_, Heap.get?_push_size _ rfl, rfl, rfl⟩, fun b hb => ?_, q⟩
    have e : b = s1.heap.objs.size := by simpa using hb
    subst e
    exact I1.fpOk (Nat.le_refl _) (I1.hok.fresh (Nat.le_refl _))
  · subst e
    cases r1
    obtain ⟨its, rv, p, hz⟩ := I1.tuple hq
    refine wpAny_pyIter_tuple (show s1.heap.IsTuple a its.toArray from p) ?_
    refine ⟨s1.heap.objs.size, [s1.heap.objs.size], _, _, H1, rfl, I1.kept (t' := s1.toks) fun b o e => Heap.get?_push_of_some _ e, turn_tuple a _, ⟨_, Heap.get?_push_size _ rfl, rfl, rfl⟩, fun b hb => ?_, q⟩
    have e : b = s1.heap.objs.size := by simpa using hb
    subst e
    exact I1.fpOk (Nat.le_refl _) (I1.hok.fresh (Nat.le_refl _))
/-- an own list is none of data -/
theorem Rep.notown {B : HZ} {τ : Tau} {σ : St} {p : HZ} {a : Addr} {o : HO} (r : Rep X B τ σ p) (h : p.z a = some o) : ∀ (j : Nat) (ys : List D), τ[j]? = some (some (S.l ys)) → σ[j]? ≠ some (some (V.ref a)) := fun j ys h1 h2 => by
  have := (r.own j ys a h1 h2).2.2
  rw [h] at this
  cases this
theorem sqL_notown {B : HZ} {τ : Tau} {σ : St} {p : HZ} {a : Addr} {vs : List V} (r : Rep X B τ σ p) (h : SqL X.K p.z a vs) : ∀ (j : Nat) (ys : List D), τ[j]? = some (some (S.l ys)) → σ[j]? ≠ some (some (V.ref a)) := by
  rcases h with (h | ⟨o, h⟩) | ⟨o, its, n, h, _⟩
  · exact r.notown h
  · exact r.notown h
  · intro j ys h1 h2
    have := (r.own j ys a h1 h2).2.1
    rw [h] at this
    cases this
/-- for x in NAME -/
def sForN (j i : Nat) (tb : TS3) : TS3 := fun D3 τ => match τ[j]? with
  | some (some (.d (.tup xs))) => sTurn i xs tb D3 τ
  | some (some (.d (.lst xs))) => sTurn i xs tb D3 τ
  | some (some (.l xs)) => sTurn i xs tb D3 (τ.set j (some (.r xs)))
  | some (some (.r xs)) => sTurn i xs tb D3 (τ.set j (some (.r xs)))
  | _ => False
theorem s_forN {j i : Nat} {x y : Str} {px py : Pos} {body : List Stmt} {tb : TS3} (h : PS X (.For (.Name x px) (.Name y py) body [] pos) (tFor (iSeq X.K (tVar j)) (gName i) (FS X tb))) (hp : PinOk X i := by first | exact pin_no rfl | exact pin_ne rfl (by decide) | assumption) : PS3 X (.For (.Name x px) (.Name y py) body [] pos) (sForN j i tb) := ⟨ps_imp h fun D2 σ H hh => by
    obtain ⟨B, z, τ, D3, r, ht, c⟩ := hh
    have lists : ∀ (s : S) (xs : List D), τ[j]? = some (some s) → s.share = .r xs → sTurn i xs tb D3 (τ.set j (some (.r xs))) → tFor (iSeq X.K (tVar j)) (gName i) (FS X tb) D2 σ H := fun s xs hs hx ht => by
      obtain ⟨v, h1, h2⟩ := r.val j s hs
      have h2' := h2.share
      rw [hx] at h2'
      obtain ⟨a, vs, rfl, h3, h4⟩ := h2'
      have r' := r.freeze hs hx
      refine ⟨.ref a, h1, a, rfl, .inl ⟨⟨vs, h3⟩, for_lst r' c h3 h4 (fun m ys hm hσ => ?_) ht hp⟩⟩
      rcases set_get hm with ⟨rfl, z⟩ | ⟨hn, hm'⟩
      · cases z
      · have hl : j < τ.length := (List.getElem?_eq_some_iff.mp hs).1
        exact r'.sep m j ys (.r xs) a hn hm (by rw [List.getElem?_set_self hl]) rfl hσ h1
    unfold sForN at ht
    split at ht
    · rename_i xs hs
      obtain ⟨v, h1, h2⟩ := r.val j _ hs
      obtain ⟨a, vs, rfl, h3, h4⟩ := Is.tup_inv h2
      exact ⟨.ref a, h1, a, rfl, .inr ⟨⟨vs, SqT.same r.ext.sub h3⟩, for_tp r c h3 h4 ht hp⟩⟩
    · rename_i xs hs
      obtain ⟨v, h1, h2⟩ := r.val j _ hs
      obtain ⟨a, vs, rfl, h3, h4⟩ := Is.lst_inv h2
      exact ⟨.ref a, h1, a, rfl, .inl ⟨⟨vs, r.ext.sub.seq h3⟩, for_lst r c (r.ext.sub.seq h3) h4 (sqL_notown r h3) ht hp⟩⟩
    · rename_i xs hs
      exact lists _ xs hs rfl ht
    · rename_i xs hs
      exact lists _ xs hs rfl ht
    · exact ht.elim⟩
/-- for x in an expression -/
def sForE (i : Nat) (te : TE3) (tb : TS3) : TS3 := fun D3 τ => te τ fun s => match s with
  | .l xs => sTurn i xs tb D3 τ
  | .d (.tup xs) => sTurn i xs tb D3 τ
  | .d (.lst xs) => sTurn i xs tb D3 τ
  | _ => False
theorem s_forE {i : Nat} {x : Str} {px : Pos} {body : List Stmt} {tb : TS3} (h : PS X (.For (.Name x px) e body [] pos) (tFor (iSeq X.K (FE X te)) (gName i) (FS X tb))) (hp : PinOk X i := by first | exact pin_no rfl | exact pin_ne rfl (by decide) | assumption) : PS3 X (.For (.Name x px) e body [] pos) (sForE i te tb) := ⟨ps_imp h fun D2 σ H hh => by
    obtain ⟨B, z, τ, D3, r, ht, c⟩ := hh
    refine ⟨B, _, τ, _, r, ht, fun s v H1 e1 i1 f1 h1 => ?_⟩
    split at h1
    · rename_i xs
      obtain ⟨a, vs, rfl, h3, h4⟩ := i1
      refine ⟨a, rfl, .inl ⟨⟨vs, SqL.of h3⟩, for_lst (r.mono e1) c (SqL.of h3) h4 (fun m ys hm hσ => ?_) h1 hp⟩⟩
      obtain ⟨ws, hw, _⟩ := r.own_list hm hσ
      have := (f1 xs a rfl rfl).1
      rw [hw] at this
      cases this
    · rename_i xs
      obtain ⟨a, vs, rfl, h3, h4⟩ := Is.tup_inv i1
      exact ⟨a, rfl, .inr ⟨⟨vs, SqT.same e1.sub h3⟩, for_tp (r.mono e1) c h3 h4 h1 hp⟩⟩
    · rename_i xs
      obtain ⟨a, vs, rfl, h3, h4⟩ := Is.lst_inv i1
      exact ⟨a, rfl, .inl ⟨⟨vs, e1.sub.seq h3⟩, for_lst (r.mono e1) c (e1.sub.seq h3) h4 (sqL_notown (r.mono e1) h3) h1 hp⟩⟩
    · exact h1.elim⟩
/-- a name's own list becomes data, ahead of a block -/
def sFrz (i : Nat) (t : TS3) : TS3 := fun D3 τ => match τ[i]? with
  | some (some (.l xs)) => t D3 (τ.set i (some (.d (.lst xs))))
  | _ => False
theorem ss_frz {sts : List Stmt} (i : Nat) (h : PSs3 X sts t) : PSs3 X sts (sFrz i t) := ⟨pss_imp h.out fun D2 σ H hh => by
    obtain ⟨B, z, τ, D3, r, ht, c⟩ := hh
    unfold sFrz at ht
    split at ht
    · rename_i xs hs
      obtain ⟨z', r'⟩ := r.data hs
      exact ⟨B, z', _, D3, r', ht, c⟩
    · exact ht.elim⟩
/-- for k in range(..) -/
def sRng (i : Nat) (lo st : Int) (cnt : Nat) (tb : TS3) (D3 : Ends3) (τ0 : Tau) : Prop := ∃ I : Nat → Tau → Prop, I 0 τ0 ∧
  (∀ (n : Nat) τ, n < cnt → I n τ → tb { D3 with nx := I (n + 1), ct := I (n + 1), bk := D3.nx } (τ.set i (some (.d (.int (lo + n * st)))))) ∧ ∀ τ, I cnt τ → D3.nx τ
def sFor2 (i : Nat) (ta : TA3) (tb : TS3) : TS3 := fun D3 τ => ta τ fun ss => match ss with
  | [.d (.int a), .d (.int j)] => (-(2 ^ 62) ≤ a ∧ a < 2 ^ 62 ∧ -(2 ^ 62) ≤ j ∧ j < 2 ^ 62) ∧ sRng i a 1 (j - a).toNat tb D3 τ
  | _ => False
theorem s_for2 {i : Nat} {x : Str} {px : Pos} {body : List Stmt} {tb : TS3} {ta : TA3} (h : PS X (.For (.Name x px) e body [] pos) (tFor (iRng2 (FA X ta)) (gName i) (FS X tb))) (hp : PinOk X i := by first | exact pin_no rfl | exact pin_ne rfl (by decide) | assumption) : PS3 X (.For (.Name x px) e body [] pos) (sFor2 i ta tb) := ⟨ps_imp h fun D2 σ H hh => by
    obtain ⟨B, z, τ, D3, r, ht, c⟩ := hh
    refine ⟨B, _, τ, _, r, ht, fun ss vs H1 e1 i1 h1 => ?_⟩
    split at h1
    · rename_i a j
      obtain ⟨v, u, rfl, hv, hu⟩ := args2 i1
      cases Is.int_inv hv
      cases Is.int_inv hu
      obtain ⟨q1, I, i0, turn, out⟩ := h1
      refine ⟨a, j, rfl, q1, for_range (lo := a) (n := (j - a).toNat) (g := gName i) (tb := FS X tb) (D := D2) (fun n σ1 H1 => ∃ z1 τ1, Rep X B τ1 σ1 ⟨H1, z1⟩ ∧ I n τ1) ⟨_, τ, r.mono e1, i0⟩ ?_ ?_⟩
      · rintro n σ1 H1 hn ⟨z1, τ1, r1, i1⟩
        have tt := turn n τ1 hn i1
        rw [Int.mul_one] at tt
        exact ⟨B, _, _, _, r1.setd (.int _) hp, tt, c.inB r.leR fun τ' σ' p' r' h' => ⟨p'.z, τ', r', h'⟩⟩
      · rintro σ1 H1 ⟨z1, τ1, r1, i1⟩
        exact c.nx _ _ _ r1 (out τ1 i1)
    · exact h1.elim⟩
end

/-! ### a def -/
def start3 (N : List Str) (ss : List S) : Tau := ss.map some ++ List.replicate (N.length - ss.length) none
theorem start_get {α : Type} {ss : List α} {m i : Nat} {s : α} (h : (ss.map some ++ List.replicate m (none : Option α))[i]? = some (some s)) : ss[i]? = some s := by
  by_cases hi : i < ss.length
  · rw [List.getElem?_append_left (by simpa using hi), List.getElem?_map] at h
    cases e : ss[i]? with
    | none => rw [e] at h; cases h
    | some a => rw [e] at h; cases h; rfl
  · rw [List.getElem?_append_right (by simpa using hi), List.getElem?_replicate] at h
    split at h <;> cases h
theorem rep_start {X : Cx} {p : HZ} {N : List Str} {vs : List V} {ss : List S} (h : Args X.K p vs ss) (hz : Same p.z p.h) (ht : Same X.H₀ p.h) (hl : X.lent = none := by rfl) : Rep X p (start3 N ss) (L2.start N vs) p := by
  have no : ∀ (i : Nat) (xs : List D), ¬ (start3 N ss)[i]? = some (some (.l xs)) := fun i xs z => by
    have z' := start_get z
    have hi := (List.getElem?_eq_some_iff.mp z').1
    have hv : vs[i]? = some (vs[i]'(by rw [h.1]; exact hi)) := List.getElem?_eq_getElem (by rw [h.1]; exact hi)
    have := (h.2 i _ _ hv z').2
    cases this
  refine ⟨by unfold L2.start start3; simp [h.1], Ext.refl hz, fun i s hs => ?_, fun i xs a z _ => absurd z (no i xs), fun i j xs s a _ z _ _ _ => absurd z (no i xs), fun _ => ht, fun k a hk => by rw [hl] at hk; cases hk⟩
  have z' := start_get hs
  have hi := (List.getElem?_eq_some_iff.mp z').1
  have hl : i < vs.length := by rw [h.1]; exact hi
  have hv : vs[i]? = some vs[i] := List.getElem?_eq_getElem hl
  refine ⟨vs[i], ?_, (h.2 i _ _ hv z').1⟩
  unfold L2.start
  rw [List.getElem?_append_left (by simpa using hl), List.getElem?_map, hv]
  rfl
section
variable {P : Program} {w : World} {K : PySem.W.Frag} {mg : Str → Option Value} {base : Heap}
theorem fn3 {x qual : Str} {st : Stmt} {f : Addr} {fd : FuncData} {N ps : List Str} {k : Nat} {sp : Sp3} (F : Fun K x qual st f fd) (Sc : FnScope N ps (defScope st)) (len : ∀ ss R U, sp ss R U → ss.length = ps.length)
    (hbody : ∀ (cdv : Value) (A : Around) (outer : List Env) (s : Shared) (H : Hp) (E : XK) (ss : List S) (R : S → Prop) (U : Str → Prop), Room k (A.deeper (envOfC qual (defScope st) s.heap.objs.size f cdv)) → sp ss R U →
      ∃ t, PSs3 (cxOf CX0 P w K mg base N qual (defScope st) f cdv A outer s H E).nox (defBody st) t ∧ t { nx := fun _ => R (.d .non), rt := R } (start3 N ss)) : FnOk P w K mg base CX0 (k + 1) f fd ps (liftSp K mg sp) := by
  refine F.ok Sc (fun vs H Q E hh => by obtain ⟨z, ss, R, U, hz, ha, h3, _⟩ := hh; exact ha.1.trans (len ss R U h3)) fun cdv A outer s H vs Q E hr hh9 => ?_
  obtain ⟨z, ss, R, U, hz, ha, h3, q, qe⟩ := hh9
  obtain ⟨t, ht, hq⟩ := hbody cdv A outer s H E ss R U hr h3
  exact ⟨_, ht.out, ⟨H, z⟩, z, start3 N ss, _, rep_start ha hz (Same.refl H), hq, ⟨fun τ σ p r h => q (.d .non) _ p r.ext Is.non fr_d h, fun _ _ _ _ z => z.elim, fun _ _ _ _ z => z.elim, fun s v p e i f h => q s v p e i f h⟩⟩
end
/-- what law(script) promises -/
def spLaw3 : Sp3 := fun ss R _ => ∃ ns : List Int, ss = [.r (ns.map D.int)] ∧ ns.length ≤ 63 ∧ R (.d (.bl true))
theorem iss_ints {K : PySem.W.Frag} {H : Hp} (ns : List Int) : Iss K H (ns.map V.int) (ns.map D.int) := by
  refine ⟨by simp, fun i v x h1 h2 => ?_⟩
  rw [List.getElem?_map] at h1 h2
  cases e : ns[i]? with
  | none => rw [e] at h1; cases h1
  | some n =>
    rw [e] at h1 h2
    cases h1
    cases h2
    exact .int n
end L3
namespace L3
open PySem PySem.Spec PyProof.Rows L2
/-! ### range with a step -/
section
variable {X : Cx} {tg : Expr}
variable {e : Expr} {pos : Pos}
end
end L3
namespace L3
open PySem PySem.Spec PyProof.Rows L2
/-! ### == of tuples, in depth -/
def flatD : D → Bool
  | .non => true
  | .bl _ => true
  | .int _ => true
  | .str _ => true
  | _ => false
def depOk : Nat → D → Bool
  | 0, x => flatD x
  | n + 1, .tup xs => xs.all (depOk n)
  | _ + 1, x => flatD x
def eqF : D → D → Bool
  | .non, .non => true
  | .bl a, .bl b => a == b
  | .bl a, .int b => (if a then 1 else 0) == b
  | .int a, .bl b => a == (if b then 1 else 0)
  | .int a, .int b => a == b
  | .str a, .str b => a == b
  | _, _ => false
def eqN : Nat → D → D → Bool
  | 0, x, y => eqF x y
  | n + 1, .tup xs, .tup ys => (xs.zip ys).all (fun p => eqN n p.1 p.2) && xs.length == ys.length
  | _ + 1, .tup _, _ => false
  | _ + 1, _, .tup _ => false
  | _ + 1, x, y => eqF x y
theorem eqN_refl : ∀ (n : Nat) (x : D), depOk n x = true → eqN n x x = true
  | 0, x, h => by cases x <;> first | rfl | (exact beq_self_eq_true _) | cases h
  | n + 1, x, h => by
    cases x with
    | tup xs =>
      have h' : xs.all (depOk n) = true := h
      show ((xs.zip xs).all (fun p => eqN n p.1 p.2) && xs.length == xs.length) = true
      rw [beq_self_eq_true, Bool.and_true, List.all_eq_true]
      rintro ⟨a, b⟩ hp
      obtain ⟨i, hi⟩ := List.getElem?_of_mem hp
      rw [List.getElem?_zip_eq_some] at hi
      obtain ⟨h1, h2⟩ := hi
      have e : a = b := Option.some.inj (h1.symm.trans h2)
      subst e
      exact eqN_refl n a (List.all_eq_true.mp h' a (List.mem_of_getElem? h1))
    | _ => first | rfl | (exact beq_self_eq_true _) | cases h
theorem Is.flatV {K : PySem.W.Frag} {H : Hp} {v : V} {x : D} (h : Is K H v x) (f : flatD x = true) : flatV v = true := by
  cases h <;> first | rfl | cases f
theorem eqF_V {K : PySem.W.Frag} {H : Hp} {v u : V} {x y : D} (h : Is K H v x) (h' : Is K H u y) (f : flatD x = true) (f' : flatD y = true) : eqV v u = eqF x y := by
  cases h <;> first | (cases f; done) | (cases h' <;> first | (cases f'; done) | rfl)
theorem getElem_of {its : List Value} {j : Nat} (h : j < its.toArray.size) {u : Value} (e : its[j]? = some u) : its.toArray[j] = u := by
  have hj : j < its.length := by simpa using h
  rw [List.getElem?_eq_getElem hj] at e
  have e' := Option.some.inj e
  rw [← e']
  simp
section
variable {X : Cx} {pins : List (Addr × Obj)} {σ : St} {H : Hp} {s : Shared}
theorem is_inj (I : Inv X pins σ H s) : ∀ (n : Nat) {v : V} {x y : D}, depOk n x = true → depOk n y = true → Is X.K H v x → Is X.K H v y → x = y
  | 0, v, x, y, fx, fy, hx, hy => by
    cases hx <;> first | (cases fx; done) | (cases hy <;> first | rfl | (cases fy; done))
  | n + 1, v, x, y, fx, fy, hx, hy => by
    cases hx with
    | @tup a vs xs h hl r =>
      cases hy with
      | @tup _ ws ys h2 hl2 r2 =>
        have e := I.tuple_inj h h2
        subst e
        congr 1
        apply List.ext_getElem?
        intro i
        cases hv : vs[i]? with
        | none =>
          have hi := List.getElem?_eq_none_iff.mp hv
          rw [List.getElem?_eq_none_iff.mpr (by omega), List.getElem?_eq_none_iff.mpr (by omega)]
        | some v =>
          have hi := (List.getElem?_eq_some_iff.mp hv).1
          have hx : xs[i]? = some (xs[i]'(by omega)) := List.getElem?_eq_getElem (by omega)
          have hy : ys[i]? = some (ys[i]'(by omega)) := List.getElem?_eq_getElem (by omega)
          rw [hx, hy]
          congr 1
          exact is_inj I n (List.all_eq_true.mp (show xs.all (depOk n) = true from fx) _ (List.mem_of_getElem? hx)) (List.all_eq_true.mp (show ys.all (depOk n) = true from fy) _ (List.mem_of_getElem? hy)) (r i v _ hv hx) (r2 i v _ hv hy)
      | lst => cases fy
      | ref => cases fy
    | lst => cases fx
    | ref => cases fx
    | ty => cases fx
    | _ => cases hy <;> first | rfl | (cases fy; done)
theorem rc_tuples (I : Inv X pins σ H s) {n : Nat} {A : Around} {a b : Addr} {vs ws : List V} {xs ys : List D} (ha : SqT X.K H a vs) (hb : SqT X.K H b ws) (hx : Iss X.K H vs xs) (hy : Iss X.K H ws ys) (hu : A.units < cLine)
    (ih : ∀ (x y : D) (v u : V) (v' u' : Value), x ∈ xs → y ∈ ys → Is X.K H v x → Is X.K H u y → RelV v v' → RelV u u' → SeqAt.EqAt A.in1 s v' u' (eqN n x y)) : SeqAt.RcAt A s (.ref a) (.ref b) (eqN (n + 1) (.tup xs) (.tup ys)) := by
  obtain ⟨its, r1, p1, _⟩ := I.tuple ha
  obtain ⟨its2, r2, p2, _⟩ := I.tuple hb
  have l1 := r1.length
  have l2 := r2.length
  have k1 := hx.1
  have k2 := hy.1
  have key := SeqAt.RcAt.tuples (A := A) (s := s) (l := a) (b := b) (items := its.toArray) (items2 := its2.toArray) (e := fun j => match xs[j]?, ys[j]? with | some x, some y => eqN n x y | _, _ => true) p1 p2 hu (fun j h1 h2 => by
    have h1' : j < its.length := by simpa using h1
    have h2' : j < its2.length := by simpa using h2
    have gx : xs[j]? = some (xs[j]'(by omega)) := List.getElem?_eq_getElem (by omega)
    have gy : ys[j]? = some (ys[j]'(by omega)) := List.getElem?_eq_getElem (by omega)
    have gv : vs[j]? = some (vs[j]'(by omega)) := List.getElem?_eq_getElem (by omega)
    have gw : ws[j]? = some (ws[j]'(by omega)) := List.getElem?_eq_getElem (by omega)
    obtain ⟨u1, e1, q1⟩ := r1.get gv
    obtain ⟨u2, e2, q2⟩ := r2.get gw
    rw [getElem_of h1 e1, getElem_of h2 e2]
    rw [gx, gy]
    exact ih _ _ _ _ _ _ (List.mem_of_getElem? gx) (List.mem_of_getElem? gy) (hx.2 j _ _ gv gx) (hy.2 j _ _ gw gy) q1 q2)
  have e : eqN (n + 1) (.tup xs) (.tup ys) = ((List.range (min its.toArray.size its2.toArray.size)).all (fun j => match xs[j]?, ys[j]? with | some x, some y => eqN n x y | _, _ => true) && its.toArray.size == its2.toArray.size) := by
    show ((xs.zip ys).all (fun p => eqN n p.1 p.2) && xs.length == ys.length) = _
    have s1 : its.toArray.size = xs.length := by simp; omega
    have s2 : its2.toArray.size = ys.length := by simp; omega
    rw [s1, s2]
    congr 1
    rw [Bool.eq_iff_iff, List.all_eq_true, List.all_eq_true]
    constructor
    · intro h j hj
      rw [List.mem_range] at hj
      have gx : xs[j]? = some (xs[j]'(by omega)) := List.getElem?_eq_getElem (by omega)
      have gy : ys[j]? = some (ys[j]'(by omega)) := List.getElem?_eq_getElem (by omega)
      rw [gx, gy]
      exact h (_, _) (List.mem_of_getElem? (List.getElem?_zip_eq_some.mpr ⟨gx, gy⟩))
    · rintro h ⟨x, y⟩ hp
      obtain ⟨j, hj⟩ := List.getElem?_of_mem hp
      obtain ⟨gx, gy⟩ := List.getElem?_zip_eq_some.mp hj
      have h1 := (List.getElem?_eq_some_iff.mp gx).1
      have h2 := (List.getElem?_eq_some_iff.mp gy).1
      have := h j (by rw [List.mem_range]; omega)
      simp only [] at gx gy
      rw [gx, gy] at this
      exact this
  rw [e]
  exact key
theorem eqAt_D (I : Inv X pins σ H s) : ∀ (n : Nat) (A : Around) (x y : D) (v u : V) (v' u' : Value), A.units + n < cLine → depOk n x = true → depOk n y = true → Is X.K H v x → Is X.K H u y → RelV v v' → RelV u u' → SeqAt.EqAt A s v' u' (eqN n x y)
  | 0, A, x, y, v, u, v', u', _, fx, fy, hx, hy, rv, ru => by
    show SeqAt.EqAt A s v' u' (eqF x y)
    rw [← eqF_V hx hy fx fy]
    exact eqAt_V rv ru (hx.flatV fx) (hy.flatV fy)
  | n + 1, A, x, y, v, u, v', u', hu, fx, fy, hx, hy, rv, ru => by
    have flat : flatD x = true → flatD y = true → eqN (n + 1) x y = eqF x y → SeqAt.EqAt A s v' u' (eqN (n + 1) x y) := fun f1 f2 e => by
      rw [e, ← eqF_V hx hy f1 f2]
      exact eqAt_V rv ru (hx.flatV f1) (hy.flatV f2)
    have hu0 : A.units < cLine := by omega
    cases hx with
    | @tup a vs xs ha hl r =>
      cases rv
      obtain ⟨its, r1, p1, _⟩ := I.tuple ha
      have t1 : s.heap.IsTuple a its.toArray := p1
      cases hy with
      | @tup b ws ys hb hl2 r2 =>
        cases ru
        by_cases hab : a = b
        · subst hab
          have e := is_inj I (n + 1) fx fy (.tup ha hl r) (.tup hb hl2 r2)
          rw [e, eqN_refl (n + 1) _ fy]
          exact SeqAt.EqAt.same _
        · refine SeqAt.EqAt.of_refs hab (rc_tuples I ha hb ⟨hl, r⟩ ⟨hl2, r2⟩ hu0 fun x y v u v' u' mx my ix iy rv ru => ?_)
          exact eqAt_D I n A.in1 x y v u v' u' (by show A.units + 1 + n < cLine; omega) (List.all_eq_true.mp (show xs.all (depOk n) = true from fx) x mx) (List.all_eq_true.mp (show ys.all (depOk n) = true from fy) y my) ix iy rv ru
      | non => cases ru; exact SeqAt.EqAt.tuple_none t1 hu0
      | bl c => cases ru; exact SeqAt.EqAt.tuple_bool c t1 hu0
      | int c => obtain ⟨t, rfl⟩ := ru; exact SeqAt.EqAt.tuple_int c t t1 hu0
      | str c => obtain ⟨t, rfl⟩ := ru; exact SeqAt.EqAt.tuple_str c t t1 hu0
      | ty c => cases fy
      | lst => cases fy
      | ref => cases fy
    | non =>
      cases hy with
      | @tup b ws ys hb hl2 r2 =>
        cases ru; cases rv
        obtain ⟨its, r1, p1, _⟩ := I.tuple hb
        exact SeqAt.EqAt.none_tuple (show s.heap.IsTuple b its.toArray from p1) hu0
      | ty c => cases fy
      | lst => cases fy
      | ref => cases fy
      | _ => exact flat rfl rfl rfl
    | bl c =>
      cases hy with
      | @tup b ws ys hb hl2 r2 =>
        cases ru; cases rv
        obtain ⟨its, r1, p1, _⟩ := I.tuple hb
        exact SeqAt.EqAt.bool_tuple c (show s.heap.IsTuple b its.toArray from p1) hu0
      | ty c => cases fy
      | lst => cases fy
      | ref => cases fy
      | _ => exact flat rfl rfl rfl
    | int c =>
      cases hy with
      | @tup b ws ys hb hl2 r2 =>
        obtain ⟨t, rfl⟩ := rv; cases ru
        obtain ⟨its, r1, p1, _⟩ := I.tuple hb
        exact SeqAt.EqAt.int_tuple c t (show s.heap.IsTuple b its.toArray from p1) hu0
      | ty c => cases fy
      | lst => cases fy
      | ref => cases fy
      | _ => exact flat rfl rfl rfl
    | str c =>
      cases hy with
      | @tup b ws ys hb hl2 r2 =>
        obtain ⟨t, rfl⟩ := rv; cases ru
        obtain ⟨its, r1, p1, _⟩ := I.tuple hb
        exact SeqAt.EqAt.str_tuple c t (show s.heap.IsTuple b its.toArray from p1) hu0
      | ty c => cases fy
      | lst => cases fy
      | ref => cases fy
      | _ => exact flat rfl rfl rfl
    | ty c => cases fx
    | lst => cases fx
    | ref => cases fx
/-- == of two tuples, n deep -/
def oEqT (n : Nat) : R3 := fun dx dy R => match dx, dy with
  | .tup xs, .tup ys => depOk n (.tup xs) = true ∧ depOk n (.tup ys) = true ∧ R (.bl (eqN n (.tup xs) (.tup ys)))
  | _, _ => False
theorem o_eqT (n : Nat) (hu : X.A.units + n < cLine) : OpR3 X (compareOp .Eq) (oEqT n) := by
  intro pins s σ H x y v u Q I rx ry h
  obtain ⟨z, dx, dy, R, hz, hx, hy, h3, q⟩ := h
  replace hx := hx.mono hz
  replace hy := hy.mono hz
  unfold oEqT at h3
  split at h3
  · rename_i xs ys
    obtain ⟨fx, fy, h3⟩ := h3
    cases n with
    | zero => cases fx
    | succ n =>
      obtain ⟨a, vs, rfl, ha, ia⟩ := Is.tup_inv hx
      obtain ⟨b, ws, rfl, hb, ib⟩ := Is.tup_inv hy
      cases rx
      cases ry
      refine rc_tuples (A := X.A) (n := n) I ha hb ia ib (by omega) (fun x y v u v' u' mx my ix iy rv ru => ?_) X.prog X.w X.xe _ ⟨.bl _, H, I, rfl, q _ _ ⟨H, z⟩ (Ext.refl hz) (.bl _) h3⟩
      exact eqAt_D I n X.A.in1 x y v u v' u' (by show X.A.units + 1 + n < cLine; omega) (List.all_eq_true.mp (show xs.all (depOk n) = true from fx) x mx) (List.all_eq_true.mp (show ys.all (depOk n) = true from fy) y my) ix iy rv ru
  · exact h3.elim
end
end L3
namespace L3
open PySem PySem.Spec PyProof.Rows L2
/-! ### exceptions: how one lies in the heap -/
theorem ObjOk.there {P : Program} {w : World} {H : Hp} {h : Heap} {a : Addr} {o : HO} (x : ObjOk P w H h a o) : ∃ u, h.get? a = some u := by
  cases o with
  | lst xs => obtain ⟨_, _, _, _, e⟩ := x; exact ⟨_, e⟩
  | tup xs => obtain ⟨_, _, _, _, e, _⟩ := x; exact ⟨_, e⟩
  | dK kvs => obtain ⟨_, _, _, _, o, _, _, e, _⟩ := x; exact ⟨_, e⟩
  | dT kvs => obtain ⟨_, _, _, _, o, _, _, e, _⟩ := x; exact ⟨_, e⟩
  | set S n => obtain ⟨o, _, _, _, e, _⟩ := x; exact ⟨_, e⟩
  | ins C dx fs => obtain ⟨_, _, _, e, _⟩ := x; exact ⟨_, e⟩
  | own y => obtain ⟨_, e⟩ := x; exact ⟨_, e⟩
  | xd fs => obtain ⟨_, ⟨_, _, _, e, _⟩, _⟩ := x; exact ⟨_, e⟩
  | rng lo hi => obtain ⟨_, _, _, e⟩ := x; exact ⟨_, e⟩
  | frz ob u => obtain ⟨e, _⟩ := x; exact ⟨_, e⟩
  | tbl ps => obtain ⟨_, e, _⟩ := x; exact ⟨_, e⟩
  | met f y => exact ⟨_, show h.get? a = some _ from x⟩
  | ext φ => obtain ⟨_, ⟨_, e⟩, _⟩ := x; exact ⟨_, e⟩
/-- an exception of the class at C flies over the frames l: all but the frames lies in B -/
structure Fly (P : Program) (w : World) (l : List Env) (H H' : Hp) (h h' : Heap) (ea C : Addr) (a0 : Value) (B : Heap) : Prop where
  fl : Heap.FlyingW B l ea (.ref C) a0 h'
  un : Un (frs l) [] H H' h h'
  hok : HOk P w H' h'
  kb : ∀ b o, h.get? b = some o → H b = none → b ∉ frs l → B.get? b = some o
  tr : ∀ b o, H' b = some o → ∃ ob, B.get? b = some ob
  old : ∀ b o, h.get? b = some o → b ∉ frs l → ∃ ob, B.get? b = some ob
section
variable {P : Program} {w : World} {l : List Env} {H H' : Hp} {h h' h'' : Heap} {ea C : Addr} {a0 : Value} {B : Heap}
theorem Fly.stays (f : Fly P w l H H' h h' ea C a0 B) {b : Addr} {o : Obj} (e : B.get? b = some o) : h'.get? b = some o := f.fl.1 b o e
theorem fr_mem {l : List Env} {b : Addr} {B h : Heap} (F : h.FunFrames B l) (hb : b ∈ frs l) : ∃ o, h.get? b = some o ∧ ∀ vs, o.data ≠ .fields vs := (F.mem hb).2
theorem hok_B {H' : Hp} {h' h'' : Heap} {B : Heap} (ok : HOk P w H' h') (tr : ∀ b o, H' b = some o → ∃ ob, B.get? b = some ob) (s1 : B.StaysIn h') (s2 : B.StaysIn h'') : HOk P w H' h'' := fun a o e => by
  refine (ok a o e).stay (fun b u hb q => ?_) (fun _ q => q) fun _ _ q => q
  have hB : ∃ ob, B.get? b = some ob := by
    rcases hb with rfl | hb
    · exact tr _ _ e
    · exact tr _ _ hb
  obtain ⟨ob, eb⟩ := hB
  have := s1 b ob eb
  rw [q] at this
  cases this
  exact s2 b _ eb
theorem Fly.to (f : Fly P w l H H' h h' ea C a0 B) (fl : Heap.FlyingW B l ea (.ref C) a0 h'') (u : h'.UpToSlots h'') : Fly P w l H H' h h'' ea C a0 B where
  fl := fl
  un := by
    refine ⟨fun b o e n hb _ => fl.1 b o (f.kb b o e n hb), fun b o e n hb hx => ?_, f.un.free, fun b o e hx => ?_, f.un.tups, f.un.frzs, f.un.tbls⟩
    · obtain ⟨sl, e1⟩ := f.un.slot b o e n hb hx
      obtain ⟨o2, e2, d⟩ := fr_mem f.fl.2.2.1 hb
      rw [e1] at e2
      cases e2
      obtain ⟨sl2, e3⟩ := u b _ e1 d
      exact ⟨sl2, e3⟩
    · by_cases hb : b ∈ frs l
      · obtain ⟨o2, e2, d⟩ := fr_mem f.fl.2.2.1 hb
        obtain ⟨sl2, e3⟩ := u b _ e2 d
        exact ⟨_, e3⟩
      · obtain ⟨ob, eb⟩ := f.old b o e hb
        exact ⟨ob, fl.1 b ob eb⟩
  hok := hok_B f.hok f.tr f.fl.1 fl.1
  kb := f.kb
  tr := f.tr
  old := f.old
end
def CXU (P : Program) (w : World) : CXT := fun outer H s E e s' => ∃ (ea C : Addr) (a0 : Value) (B : Heap) (H' : Hp), e = .ref ea ∧ s'.os = s.os ∧ AllBare s'.gens ∧ Fly P w outer H H' s.heap s'.heap ea C a0 B ∧ E (.ref C) none H'
theorem frs_cons {env : Env} {l : List Env} {L : Addr} (h : env.frame = some L) : frs (env :: l) = L :: frs l := by
  unfold frs
  rw [List.filterMap_cons, h]
section
variable {X : Cx} {pins : List (Addr × Obj)} {σ : St} {H H' : Hp} {s s' : Shared} {ea C : Addr} {a0 : Value} {B : Heap} {h1 : Heap} {vs : List Value}
/-- a new exception leaves the def: it flies over the callers' frames -/
theorem fly_new (I : Inv X pins σ H s) (hst : X.stack = X.env :: X.outer) (hf : X.env.frame = some X.env.locals) (hex : X.ex = []) (hx : Heap.MadeExcOf s.heap h1 ea (.ref C) vs) {Q : Unit → Shared → Prop} {E : Value → Shared → Prop}
    (hQ : ∀ (h' : Heap) (t : Addr) (B : Heap), Fly X.prog X.w X.outer X.H₀ H X.s₀.heap h' ea C (.ref t) B → Q () { s with heap := h' }) :
    wpAny (model X.prog X.w) X.A (leaving X.env (.ref ea)) Q E { s with heap := h1 } := by
  have hfr : X.A.frames = some (X.env :: X.outer) := by rw [← hst]; exact I.ok.frames
  have hstk := I.stack
  rw [hst] at hstk
  have hin : ∀ env ∈ (X.env :: X.outer), ∀ b, env.frame = some b → b ∈ frs (X.env :: X.outer) := fun env he b hb => List.mem_filterMap.mpr ⟨env, he, hb⟩
  have hB : ∀ b o, s.heap.get? b = some o → b ∉ frs (X.env :: X.outer) → (PySem.W.hideAll s.heap (frs (X.env :: X.outer))).get? b = some o := fun b o e hb => PySem.W.hideAll_get _ e hb
  have ho : ∀ b o, (PySem.W.hideAll s.heap (frs (X.env :: X.outer))).get? b = some o → s.heap.get? b = some o := fun b o e => PySem.W.of_hideAll _ e
  refine wpAny_leaves_madeW (base := PySem.W.hideAll s.heap (frs (X.env :: X.outer))) (h := s.heap) (s := { s with heap := h1 }) hfr hf ho (PySem.W.funFrames_hide hstk hin) hx fun h' t fl _ _ up => ?_
  refine hQ h' t (PySem.W.hideAll s.heap (frs (X.env :: X.outer))) ?_
  have up0 : s.heap.UpToSlots h' := (Heap.UpToSlots.of_keeps hx.keeps).trans up
  have old : ∀ b o, X.s₀.heap.get? b = some o → b ∉ frs X.outer → b ∉ frs (X.env :: X.outer) := fun b o e hb hm => by
    rw [frs_cons hf] at hm
    rcases List.mem_cons.mp hm with rfl | hm
    · exact absurd (Nat.lt_of_lt_of_le (Heap.lt_size e) I.ok.above) (Nat.lt_irrefl _)
    · exact hb hm
  have nex : ∀ b : Addr, b ∉ X.ex := fun b z => by rw [hex] at z; cases z
  have tfr : ∀ b o, H b = some o → b ∉ frs (X.env :: X.outer) := fun b o e hm => by
    have := I.stkFree b (by rw [hst]; exact hm)
    rw [e] at this
    cases this
  have tr : ∀ b o, H b = some o → ∃ ob, (PySem.W.hideAll s.heap (frs (X.env :: X.outer))).get? b = some ob := fun b o e => by
    obtain ⟨u, eu⟩ := ObjOk.there (I.hok b o e)
    exact ⟨u, hB b u eu (tfr b o e)⟩
  refine ⟨fl, ⟨fun b o e n hb _ => ?_, fun b o e n hb _ => ?_, fun b o e n _ => I.base.free b o e n (nex b), fun b o e _ => ?_, I.base.tups, I.base.frzs, I.base.tbls⟩, hok_B I.hok tr ho fl.1, fun b o e n hb => ?_, tr, fun b o e hb => ?_⟩
  · exact fl.1 b o (hB b o (I.base.keep b o e n hb (nex b)) (old b o e hb))
  · obtain ⟨sl, e1⟩ := I.base.slot b o e n hb (nex b)
    obtain ⟨o2, e2, d⟩ := fr_mem hstk (by rw [frs_cons hf]; exact List.mem_cons_of_mem _ hb)
    rw [e1] at e2
    cases e2
    obtain ⟨sl2, e3⟩ := up0 b _ e1 d
    exact ⟨sl2, e3⟩
  · obtain ⟨o1, e1⟩ := I.base.there b o e (nex b)
    by_cases hb : b ∈ frs X.outer
    · obtain ⟨o2, e2, d⟩ := fr_mem hstk (by rw [frs_cons hf]; exact List.mem_cons_of_mem _ hb)
      obtain ⟨sl2, e3⟩ := up0 b _ e2 d
      exact ⟨_, e3⟩
    · exact ⟨o1, fl.1 b o1 (hB b o1 e1 (old b o e hb))⟩
  · exact hB b o (I.base.keep b o e n hb (nex b)) (old b o e hb)
  · obtain ⟨o1, e1⟩ := I.base.there b o e (nex b)
    exact ⟨o1, hB b o1 e1 (old b o e hb)⟩
/-- an exception of a callee leaves this def too -/
theorem fly_on (I : Inv X pins σ H s) (hst : X.stack = X.env :: X.outer) (hf : X.env.frame = some X.env.locals) (hex : X.ex = []) (f : Fly X.prog X.w X.stack H H' s.heap s'.heap ea C a0 B) {Q : Unit → Shared → Prop} {E : Value → Shared → Prop}
    (hQ : ∀ h' : Heap, Fly X.prog X.w X.outer X.H₀ H' X.s₀.heap h' ea C a0 B → Q () { s' with heap := h' }) : wpAny (model X.prog X.w) X.A (leaving X.env (.ref ea)) Q E s' := by
  have hfr : X.A.frames = some (X.env :: X.outer) := by rw [← hst]; exact I.ok.frames
  rw [hst] at f
  refine wpAny_leaves_onW hfr hf f.fl fun h' fl up => hQ h' ?_
  have old : ∀ b o, X.s₀.heap.get? b = some o → b ∉ frs X.outer → b ∉ frs (X.env :: X.outer) := fun b o e hb hm => by
    rw [frs_cons hf] at hm
    rcases List.mem_cons.mp hm with rfl | hm
    · exact absurd (Nat.lt_of_lt_of_le (Heap.lt_size e) I.ok.above) (Nat.lt_irrefl _)
    · exact hb hm
  have nex : ∀ b : Addr, b ∉ X.ex := fun b z => by rw [hex] at z; cases z
  have up_ : ∀ b, b ∈ frs X.outer → b ∈ frs (X.env :: X.outer) := fun b hb => by rw [frs_cons hf]; exact List.mem_cons_of_mem _ hb
  have kb : ∀ b o, X.s₀.heap.get? b = some o → X.H₀ b = none → b ∉ frs X.outer → B.get? b = some o := fun b o e n hb =>
    f.kb b o (I.base.keep b o e n hb (nex b)) (I.base.free b o e n (nex b)) (old b o e hb)
  have ol : ∀ b o, X.s₀.heap.get? b = some o → b ∉ frs X.outer → ∃ ob, B.get? b = some ob := fun b o e hb => by
    obtain ⟨o1, e1⟩ := I.base.there b o e (nex b)
    exact f.old b o1 e1 (old b o e hb)
  refine ⟨fl, ⟨fun b o e n hb _ => fl.1 b o (kb b o e n hb), fun b o e n hb _ => ?_, fun b o e n _ => ?_, fun b o e _ => ?_, fun b xs e => f.un.tups b xs (I.base.tups b xs e), fun b o u e => f.un.frzs b o u (I.base.frzs b o u e), fun b ps e => ?_⟩, hok_B f.hok f.tr f.fl.1 fl.1, kb, f.tr, ol⟩
  · obtain ⟨sl, e1⟩ := I.base.slot b o e n hb (nex b)
    obtain ⟨sl1, e2⟩ := f.un.slot b _ e1 (I.base.free b o e n (nex b)) (up_ b hb) (by simp)
    obtain ⟨o3, e3, d⟩ := fr_mem f.fl.2.2.1 (up_ b hb)
    rw [e2] at e3
    cases e3
    obtain ⟨sl2, e4⟩ := up b _ e2 d
    exact ⟨sl2, e4⟩
  · obtain ⟨o1, e1⟩ := I.base.there b o e (nex b)
    exact f.un.free b o1 e1 (I.base.free b o e n (nex b)) (by simp)
  · by_cases hb : b ∈ frs X.outer
    · obtain ⟨o3, e3, d⟩ := fr_mem f.fl.2.2.1 (up_ b hb)
      obtain ⟨sl2, e4⟩ := up b _ e3 d
      exact ⟨_, e4⟩
    · obtain ⟨ob, eb⟩ := ol b o e hb
      exact ⟨ob, fl.1 b ob eb⟩
  · obtain ⟨m1, e1⟩ := I.base.tbls b ps e
    obtain ⟨m2, e2⟩ := f.un.tbls b _ e1
    exact ⟨m1 ++ m2, by rw [e2, Array.append_assoc]⟩
/-- behind the exception the def's own state stands -/
theorem Fly.inv (I : Inv X pins σ H s) (f : Fly X.prog X.w X.stack H H' s.heap s'.heap ea C a0 B) (ho : s'.os = s.os) (hg : AllBare s'.gens) : Inv X pins σ H' s' :=
  I.call' (ch := []) ho f.un f.hok hg (fun b z => absurd z (by simp))
end
/-! ### the text's own exception classes -/
structure ExC (K : PySem.W.Frag) (x : Str) (C : Addr) : Prop where
  ns : PySem.W.nsIn K mainGlobals x = some (some (.ref C))
  ex : PySem.W.excIn K C [.type "ValueError", .type "Exception", .type "BaseException", .type "object"] "ValueError.__new__" = true
theorem top_read {K : PySem.W.Frag} {mg : Str → Option Value} {base : Heap} (M : Mod K mg base) (p : Program) : ∃ loose mb, PySem.W.TopRead p loose mg mb base := by
  obtain ⟨o, es, ep, ho, hd, hk, hm⟩ := M.glob
  obtain ⟨mb, h1, h2⟩ := M.blt
  refine ⟨es.toList.filterMap fun e => match e.key with | .str x _ => some x | _ => none, mb, M.glob, h1, M.nolimit, h2, fun x _ hx _ _ _ => ?_⟩
  rw [← hm x]
  unfold nsFind findBy
  cases q : es.find? (fun e => e.key.isStr x) with
  | none => rfl
  | some e =>
    exfalso
    have h3 := Array.find?_some q
    have h4 := Array.mem_of_find?_eq_some q
    apply hx
    rw [List.mem_filterMap]
    refine ⟨e, by simpa using h4, ?_⟩
    obtain ⟨kh, key, val⟩ := e
    cases key with
    | str y t =>
      have h5 : (Value.str y t).isStr x = true := h3
      have h6 : y = x := by simpa [Value.isStr] using h5
      show some y = some x
      rw [h6]
    | _ => cases h3

/-! ### a body that may raise -/
structure ExOk (X : Cx) (U : Str → Prop) : Prop where
  raise : ∀ (pins : List (Addr × Obj)) (σ : St) (H : Hp) (s : Shared) (h1 : Heap) (ea C : Addr) (x : Str) (vs : List Value), Inv X pins σ H s → Same X.H₀ H → X.mg x = some (.ref C) → U x → Heap.MadeExcOf s.heap h1 ea (.ref C) vs → X.xe (.ref ea) { s with heap := h1 }
  pass : ∀ (pins : List (Addr × Obj)) (σ : St) (H : Hp) (s : Shared) (e : Value) (s' : Shared), Inv X pins σ H s → CXU X.prog X.w X.stack H s (fun cls _ H' => ∃ x, X.mg x = some cls ∧ U x ∧ Same X.H₀ H') e s' → X.xe e s'
theorem exok_cx {P : Program} {w : World} {K : PySem.W.Frag} {mg : Str → Option Value} {base : Heap} {N : List Str} {qual : Str} {scope : Scope} {f : Addr} {cd : Value} {A : Around} {outer : List Env} {s : Shared} {H : Hp} {E : XK} {U : Str → Prop}
    (hE : ∀ x C H', Same H H' → mg x = some (.ref C) → U x → E (.ref C) none H') : ExOk (cxOf (CXU P w) P w K mg base N qual scope f cd A outer s H E) U where
  raise := fun pins σ H1 s1 h1 ea C x vs I hs hm hu hx => fly_new I rfl rfl rfl hx fun h' t B fl => ⟨ea, C, .ref t, B, H1, rfl, I.os, I.bare, fl, hE x C H1 hs hm hu⟩
  pass := fun pins σ H1 s1 e s' I h => by
    obtain ⟨ea, C, a0, B, H', rfl, ho, hg, fl, x, hm, hu, hs⟩ := h
    exact fly_on I rfl rfl rfl fl fun h' fl' => ⟨ea, C, a0, B, H', rfl, ho.trans I.os, hg, fl', hE x C H' hs hm hu⟩
section
variable {X : Cx} {U : Str → Prop} {e : Expr} {es : List Expr} {te : TE3} {tr : TA3} {pos : Pos}
def sRaise (U : Str → Prop) (x : Str) (te : TE3) : TS3 := fun _ τ => te τ fun _ => U x
theorem s_raise {x : Str} {C : Addr} {np cpos : Pos} (xo : ExOk X U) (hc : X.calm = true) (he : PE3 X e te) (hg : Gl X x) (ec : ExC X.K x C) (hm : X.mg x = some (.ref C))
    (hs : starEach [e] X.env = (false, eval e X.env) :: starEach [] X.env := by exact starE rfl) (hplain : (backTo cpos (starEach [e] X.env)).any (·.1) = false := by exact plainE rfl) (hd : (x == ("__debug__" : Str)) = false := by decide) (hl : X.lent = none := by rfl) :
    PS3 X (.Raise (some (.Call (.Name x np) [e] [] cpos)) none pos) (sRaise U x te) := by
  refine ⟨?_⟩
  intro pins s σ H D2 I h
  obtain ⟨B, z, τ, D3, r, ht, c⟩ := h
  obtain ⟨loose, mb, T⟩ := top_read I.mod X.prog
  obtain ⟨tl, N, nm, q, bs, hdct, sn, sub, ab, col, dd, k0, k1, k2, k3, k5, mN, hC, hN, hni, TL⟩ := (PySem.W.own_of_in I.mod.kin T ec.ns ec.ex).obj
  refine wpAny_Raise_call_subT (C := C) (nm := nm) (q := q) (N := N) (bs := bs) (bm := tl) (hdct := hdct) (sn := sn) (sub := sub) (ab := ab) (col := col) (dd := dd) (k0 := k0) (k1 := k1) (k2 := k2) (k3 := k3) (k5 := k5)
    PySem.F.excBase_ValueError (mN := mN) (TL.hasType PySem.F.excBase_ValueError.hasBase) (I.ok.hd hc) hplain hni (ld_glob I hg hm ⟨rfl, ?_⟩ hd)
  have pa := (pa_cons he.out pa_nil hs) cpos pins s σ H (fun vs H1 => vs.length = 1 ∧ Same X.H₀ H1 ∧ U x) I ⟨B, _, τ, _, r, ht, fun s' v H' e' i' f' h' => ⟨rfl, (r.all hl).trans e'.hh, h'⟩⟩
  rw [hs] at pa ⊢
  refine Calls.evalArgs_plain (thn pa fun us s2 ⟨vs, H2, I2, rv, hl, hsame, hu⟩ => ⟨rfl, ?_, I2.bk _ _ hC, hN.keeps I2.bk, TL.keeps I2.bk, fun h' ea hx => ?_⟩)
  · have := rv.length
    show us.length ≤ sizeLine
    have z : us.length = 1 := by omega
    rw [z]
    decide
  · exact xo.raise pins σ H2 s2 h' ea C x us I2 hsame hm hu hx
def vCallU (U : Str → Prop) (sp : Sp3) (t : TA3) : TE3 := fun τ R => t τ fun ss => sp ss R U
theorem v_callU {k : Nat} {x : Str} {ps : List Str} {sp : Sp3} {p : Pos} (xo : ExOk X U) (c : Cal X.prog X.w X.K X.mg X.base (CXU X.prog X.w) k x ps sp) (hr : Room k X.A) (hg : Gl X x) (ha : PA3 X (e :: es) tr)
    (hdb : (x == ("__debug__" : Str)) = false := by decide) (he : starEach (e :: es) X.env = (false, eval e X.env) :: starEach es X.env := by exact starE rfl) (hpl : (backTo pos (starEach es X.env)).any (·.1) = false := by exact plainE rfl) (hl : X.lent = none ∨ ∀ y, ¬ U y := by first | exact .inl rfl | exact .inr (fun _ z => z)) :
    PE3 X (.Call (.Name x p) (e :: es) [] pos) (vCallU U sp tr) := by
  refine ⟨?_⟩
  obtain ⟨f, fd, F, hm, hk, hb⟩ := c.ex
  refine pe_imp (pe_call (E := fun cls _ H' => ∃ y, X.mg y = some cls ∧ U y ∧ Same X.H₀ H') F hr hg hm hk hb .nil (fun pins σ H s e s' I h => xo.pass pins σ H s e s' I h) ha.out hdb he hpl) fun σ H Q ⟨B, z, τ, R, r, ht, q⟩ => ⟨B, _, τ, _, r, ht, fun ss vs H1 e1 i1 h1 => ?_⟩
  show liftSp X.K X.mg sp (vs ++ []) H1.h Q _
  rw [List.append_nil]
  exact ⟨H1.z, ss, R, U, e1.sub, i1, h1, fun s v H2 e2 i2 f2 h2 => q s v H2 (e1.trans e2) i2 (fr_up e1 f2) h2, fun y C H2 e2 hy hu => ⟨y, hy, hu, hl.elim (fun hl => (r.all hl).trans (e1.hh.trans e2)) (fun hn => (hn y hu).elim)⟩⟩
end
section
variable {P : Program} {w : World} {K : PySem.W.Frag} {mg : Str → Option Value} {base : Heap}
theorem fnU {x qual : Str} {st : Stmt} {f : Addr} {fd : FuncData} {N ps : List Str} {k : Nat} {sp : Sp3} (F : Fun K x qual st f fd) (Sc : FnScope N ps (defScope st)) (len : ∀ ss R U, sp ss R U → ss.length = ps.length)
    (hbody : ∀ (cdv : Value) (A : Around) (outer : List Env) (s : Shared) (H : Hp) (E : XK) (ss : List S) (R : S → Prop) (U : Str → Prop), Room k (A.deeper (envOfC qual (defScope st) s.heap.objs.size f cdv)) → sp ss R U →
      ExOk (cxOf (CXU P w) P w K mg base N qual (defScope st) f cdv A outer s H E) U →
      ∃ t, PSs3 (cxOf (CXU P w) P w K mg base N qual (defScope st) f cdv A outer s H E) (defBody st) t ∧ t { nx := fun _ => R (.d .non), rt := R } (start3 N ss)) : FnOk P w K mg base (CXU P w) (k + 1) f fd ps (liftSp K mg sp) := by
  obtain ⟨oc, od, kV, doc, pm, an, cdv, ct, osl, rfl, lk, hcd⟩ := F.ex
  refine fn_of lk hcd Sc (fun vs H Q E hh => by obtain ⟨z, ss, R, U, hz, ha, h3, _⟩ := hh; exact ha.1.trans (len ss R U h3)) fun A outer s H vs Q E hr hh9 => ?_
  obtain ⟨z, ss, R, U, hz, ha, h3, q, qe⟩ := hh9
  obtain ⟨t, ht, hq⟩ := hbody cdv A outer s H E ss R U hr h3 (exok_cx qe)
  exact ⟨_, ht.out, ⟨H, z⟩, z, start3 N ss, _, rep_start ha hz (Same.refl H), hq, ⟨fun τ σ p r h => q (.d .non) _ p r.ext Is.non fr_d h, fun _ _ _ _ z => z.elim, fun _ _ _ _ z => z.elim, fun s v p e i f h => q s v p e i f h⟩⟩
theorem FnOk.anyCX {CX : CXT} {k : Nat} {f : Addr} {fd : FuncData} {ps : List Str} {sp : Sp} (F : FnOk P w K mg base CX0 k f fd ps sp) : FnOk P w K mg base CX k f fd ps sp :=
  ⟨F.len, fun A outer s H args us vs Q E hr h0 hb hv hs => codeAny_mono (F.run A outer s H args us vs Q E hr h0 hb hv hs) fun r s' h => by
    cases r with
    | error e => exact (show False from h).elim
    | ok fl => cases fl <;> exact h⟩
end
/-! ### except CLASS -/
section
variable {K : PySem.W.Frag} {M : Model} {A : Around} {E : Value → Shared → Prop} {s : Shared}
end
/-! ### the context of an except suite -/
section
variable {X : Cx} {pins : List (Addr × Obj)} {σ : St} {H H' : Hp} {s s' : Shared} {ea C : Addr} {a0 : Value} {B : Heap}
end
section
variable {X : Cx} {e : Expr} {es : List Expr} {tr : TA3} {th : TS3}
end
end L3
namespace L3
open PySem PySem.Spec PyProof.Rows L2
theorem exok_no {X : Cx} : ExOk X NoU where
  raise := fun _ _ _ _ _ _ _ _ _ _ _ _ hu => hu.elim
  pass := fun _ _ _ _ _ _ _ h => by
    obtain ⟨_, _, _, _, _, _, _, _, _, _, _, hu, _⟩ := h
    exact hu.elim
/-! ### a caught exception, and isinstance of it -/
section
variable {prog : Program} {w : World} {A : Around} {E : Value → Shared → Prop} {s : Shared} {K : PySem.W.Frag} {x D : Addr}
def At (h : Heap) (x C : Addr) : Prop := ∃ ox, h.get? x = some ox ∧ ox.cls = .ref C
theorem At.type {M : Model} {h : Heap} (I : At h x D) : PySem.W.Looks M h (typeOf (.ref x)) (.ref D) := by
  obtain ⟨ox, h1, h2⟩ := I
  exact h2 ▸ (PySem.W.Looks.ld h1).andThen .now
open PySem.W Builtin Builtin.ObjectAttr Builtin.Getset_descriptor in
open PySem.W in
end
/-! ### the context of an except suite with a name -/
section
variable {X : Cx} {pins : List (Addr × Obj)} {σ : St} {H H' : Hp} {s s' : Shared} {ea C : Addr} {oe : Obj} {a0 : Value} {B : Heap}
/-! isinstance(NAME, CLASS) of the caught exception -/
end
section
variable {X : Cx} {ea C : Addr} {oe : Obj}
variable {e : Expr} {es : List Expr} {tr : TA3}
end
end L3
namespace L3
open PySem PySem.Spec PyProof.Rows L2
section
variable {X : Cx}
variable {e : Expr} {es : List Expr} {tr : TA3}
end
end L3
namespace L3
open PySem PySem.Spec PyProof.Rows L2
section
variable {X : Cx} {st : Stmt} {rest' : List Stmt} {t u : TS3}
end
end L3
namespace L3
open PySem PySem.Spec PyProof.Rows L2
theorem hu_ {A : Around} {k n : Nat} (hr : Room k A) (hn : n ≤ 200) : A.units + n < cLine := by have := hr.un; omega
section
variable {X : Cx} {pins : List (Addr × Obj)} {σ : St} {H : Hp} {s : Shared}
theorem rcn_tuples (I : Inv X pins σ H s) {n : Nat} {A : Around} {a b : Addr} {vs ws : List V} {xs ys : List D} (ha : SqT X.K H a vs) (hb : SqT X.K H b ws) (hx : Iss X.K H vs xs) (hy : Iss X.K H ws ys) (hu : A.units < cLine)
    (ih : ∀ (x y : D) (v u : V) (v' u' : Value), x ∈ xs → y ∈ ys → Is X.K H v x → Is X.K H u y → RelV v v' → RelV u u' → SeqAt.EqAt A.in1 s v' u' (eqN n x y)) : SeqAt.RcNeAt A s (.ref a) (.ref b) (!eqN (n + 1) (.tup xs) (.tup ys)) := by
  obtain ⟨its, r1, p1, _⟩ := I.tuple ha
  obtain ⟨its2, r2, p2, _⟩ := I.tuple hb
  have l1 := r1.length
  have l2 := r2.length
  have k1 := hx.1
  have k2 := hy.1
  have key := SeqAt.RcNeAt.tuples (A := A) (s := s) (l := a) (b := b) (items := its.toArray) (items2 := its2.toArray) (e := fun j => match xs[j]?, ys[j]? with | some x, some y => eqN n x y | _, _ => true) p1 p2 hu (fun j h1 h2 => by
    have h1' : j < its.length := by simpa using h1
    have h2' : j < its2.length := by simpa using h2
    have gx : xs[j]? = some (xs[j]'(by omega)) := List.getElem?_eq_getElem (by omega)
    have gy : ys[j]? = some (ys[j]'(by omega)) := List.getElem?_eq_getElem (by omega)
    have gv : vs[j]? = some (vs[j]'(by omega)) := List.getElem?_eq_getElem (by omega)
    have gw : ws[j]? = some (ws[j]'(by omega)) := List.getElem?_eq_getElem (by omega)
    obtain ⟨u1, e1, q1⟩ := r1.get gv
    obtain ⟨u2, e2, q2⟩ := r2.get gw
    rw [getElem_of h1 e1, getElem_of h2 e2]
    rw [gx, gy]
    exact ih _ _ _ _ _ _ (List.mem_of_getElem? gx) (List.mem_of_getElem? gy) (hx.2 j _ _ gv gx) (hy.2 j _ _ gw gy) q1 q2)
  have e : eqN (n + 1) (.tup xs) (.tup ys) = ((List.range (min its.toArray.size its2.toArray.size)).all (fun j => match xs[j]?, ys[j]? with | some x, some y => eqN n x y | _, _ => true) && its.toArray.size == its2.toArray.size) := by
    show ((xs.zip ys).all (fun p => eqN n p.1 p.2) && xs.length == ys.length) = _
    have s1 : its.toArray.size = xs.length := by simp; omega
    have s2 : its2.toArray.size = ys.length := by simp; omega
    rw [s1, s2]
    congr 1
    rw [Bool.eq_iff_iff, List.all_eq_true, List.all_eq_true]
    constructor
    · intro h j hj
      rw [List.mem_range] at hj
      have gx : xs[j]? = some (xs[j]'(by omega)) := List.getElem?_eq_getElem (by omega)
      have gy : ys[j]? = some (ys[j]'(by omega)) := List.getElem?_eq_getElem (by omega)
      rw [gx, gy]
      exact h (_, _) (List.mem_of_getElem? (List.getElem?_zip_eq_some.mpr ⟨gx, gy⟩))
    · rintro h ⟨x, y⟩ hp
      obtain ⟨j, hj⟩ := List.getElem?_of_mem hp
      obtain ⟨gx, gy⟩ := List.getElem?_zip_eq_some.mp hj
      have h1 := (List.getElem?_eq_some_iff.mp gx).1
      have h2 := (List.getElem?_eq_some_iff.mp gy).1
      have := h j (by rw [List.mem_range]; omega)
      simp only [] at gx gy
      rw [gx, gy] at this
      exact this
  rw [e]
  exact key
/-- != of two tuples, n deep -/
def oNeT (n : Nat) : R3 := fun dx dy R => match dx, dy with
  | .tup xs, .tup ys => depOk n (.tup xs) = true ∧ depOk n (.tup ys) = true ∧ R (.bl (!eqN n (.tup xs) (.tup ys)))
  | _, _ => False
theorem o_neT (n : Nat) (hu : X.A.units + n < cLine) : OpR3 X (compareOp .NotEq) (oNeT n) := by
  intro pins s σ H x y v u Q I rx ry h
  obtain ⟨z, dx, dy, R, hz, hx, hy, h3, q⟩ := h
  replace hx := hx.mono hz
  replace hy := hy.mono hz
  unfold oNeT at h3
  split at h3
  · rename_i xs ys
    obtain ⟨fx, fy, h3⟩ := h3
    cases n with
    | zero => cases fx
    | succ n =>
      obtain ⟨a, vs, rfl, ha, ia⟩ := Is.tup_inv hx
      obtain ⟨b, ws, rfl, hb, ib⟩ := Is.tup_inv hy
      cases rx
      cases ry
      refine rcn_tuples (A := X.A) (n := n) I ha hb ia ib (by omega) (fun x y v u v' u' mx my ix iy rv ru => ?_) X.prog X.w X.xe _ ⟨.bl _, H, I, rfl, q _ _ ⟨H, z⟩ (Ext.refl hz) (.bl _) h3⟩
      exact eqAt_D I n X.A.in1 x y v u v' u' (by show X.A.units + 1 + n < cLine; omega) (List.all_eq_true.mp (show xs.all (depOk n) = true from fx) x mx) (List.all_eq_true.mp (show ys.all (depOk n) = true from fy) y my) ix iy rv ru
  · exact h3.elim
end
end L3
namespace L3
open PySem PySem.Spec PyProof.Rows L2
/-! ### comprehensions -/
theorem closure_go {env : Env} : ∀ (names : List (Str × NameKind)) (acc : List (Str × Addr)), (∀ y ∈ names, y.2 = .free → ∃ c, env.cells.lookup y.1 = some c) →
    ∃ cl, (forIn names acc fun (x : Str × NameKind) (r : List (Str × Addr)) => if (x.2 == .free) = true then (do let c ← cellOf env x.1; pure (ForInStep.yield ((x.1, c) :: r)) : Sem _) else pure (ForInStep.yield r)) = pure cl ∧
      (∀ y c, (y, c) ∈ cl → (y, c) ∈ acc ∨ env.cells.lookup y = some c) ∧ (∀ y, (y, NameKind.free) ∈ names → ∃ c, (y, c) ∈ cl) ∧ ∀ p ∈ acc, p ∈ cl
  | [], acc, _ => ⟨acc, rfl, fun y c h => .inl h, (fun y h => by cases h), fun p h => h⟩
  | (n, k) :: r, acc, h => by
    rw [List.forIn_cons]
    by_cases hk : (k == NameKind.free) = true
    · have hk' : k = .free := by simpa using hk
      obtain ⟨c, hc⟩ := h (n, k) List.mem_cons_self hk'
      obtain ⟨cl, e, h1, h2, h3⟩ := closure_go r ((n, c) :: acc) fun y hy => h y (List.mem_cons_of_mem _ hy)
      refine ⟨cl, ?_, fun y d hd => ?_, fun y hy => ?_, fun p hp => h3 p (List.mem_cons_of_mem _ hp)⟩
      · have hco : cellOf env n = pure c := by unfold cellOf; rw [hc]
        simp only [hk, if_true, hco, pure_bind]
        exact e
      · rcases h1 y d hd with z | z
        · rcases List.mem_cons.mp z with z | z
          · cases z; exact .inr hc
          · exact .inl z
        · exact .inr z
      · rcases List.mem_cons.mp hy with z | z
        · cases z; exact ⟨c, h3 _ List.mem_cons_self⟩
        · exact h2 y z
    · obtain ⟨cl, e, h1, h2, h3⟩ := closure_go r acc fun y hy => h y (List.mem_cons_of_mem _ hy)
      refine ⟨cl, ?_, h1, fun y hy => ?_, h3⟩
      · simp only [hk, Bool.false_eq_true, if_false, pure_bind]
        exact e
      · rcases List.mem_cons.mp hy with z | z
        · cases z; exact absurd rfl hk
        · exact h2 y z
theorem lookup_mem {α : Type} {y : Str} {c : α} : ∀ {l : List (Str × α)}, l.lookup y = some c → (y, c) ∈ l
  | [], h => by cases h
  | (n, d) :: r, h => by
    rw [List.lookup_cons] at h
    cases q : y == n with
    | true => rw [q] at h; cases h; have : y = n := by simpa using q
              subst this; exact List.mem_cons_self
    | false => rw [q] at h; exact List.mem_cons_of_mem _ (lookup_mem h)
theorem mem_lookup {α : Type} {y : Str} {c : α} : ∀ {l : List (Str × α)}, (y, c) ∈ l → ∃ d, l.lookup y = some d
  | (n, d) :: r, h => by
    rw [List.lookup_cons]
    cases q : y == n with
    | true => exact ⟨d, rfl⟩
    | false =>
      rcases List.mem_cons.mp h with z | z
      · cases z; simp at q
      · exact mem_lookup z
theorem closure_of {scope : Scope} {env : Env} (h : ∀ y ∈ scope.names, y.2 = .free → ∃ c, env.cells.lookup y.1 = some c) :
    ∃ cl, closureFor scope env = pure cl ∧ (∀ y c, cl.lookup y = some c → env.cells.lookup y = some c) ∧ ∀ y, (y, NameKind.free) ∈ scope.names → ∃ c, cl.lookup y = some c := by
  obtain ⟨cl, e, h1, h2, _⟩ := closure_go scope.names [] h
  refine ⟨cl, ?_, fun y c hc => ?_, fun y hy => ?_⟩
  · unfold closureFor
    first | (simp only [bind_pure]; exact e) | exact e
  · rcases h1 y c (lookup_mem hc) with z | z
    · cases z
    · exact z
  · obtain ⟨c, hc⟩ := h2 y hy
    exact mem_lookup hc

/-! the block's context -/
def cxComp (X : Cx) (N : List Str) (scope : Scope) (cl : List (Str × Addr)) (C : Addr) (s₀ : Shared) (H₀ : Hp) (fp : List Addr) : Cx :=
  { X with N := N, s₀ := s₀, H₀ := H₀, env := compEnvC scope cl C X.env, outer := X.stack, ex := fp, fn := fun _ => false, pn := [], xe := fun _ _ => False, lent := none }
theorem lookup_relabel {env : Env} : ∀ {names : List (Str × NameKind)} {x : Str} {k : NameKind}, (names.map fun (n, k) => if (k == NameKind.free && env.scope.kind == .function && env.kindOf n == some .cell) then (n, NameKind.cell) else (n, k)).lookup x = some k →
    ∃ k0, (x, k0) ∈ names ∧ (k = k0 ∨ k0 = .free)
  | [], _, _, h => by cases h
  | (n, k1) :: r, x, k, h => by
    have h' : List.lookup x ((if (k1 == NameKind.free && env.scope.kind == .function && env.kindOf n == some .cell) = true then (n, NameKind.cell) else (n, k1)) :: (r.map fun (n, k) => if (k == NameKind.free && env.scope.kind == .function && env.kindOf n == some .cell) then (n, NameKind.cell) else (n, k))) = some k := h
    by_cases hc : (k1 == NameKind.free && env.scope.kind == .function && env.kindOf n == some .cell) = true
    · rw [if_pos hc, List.lookup_cons] at h'
      have hk1 : k1 = .free := by
        rw [Bool.and_eq_true, Bool.and_eq_true] at hc
        simpa using hc.1.1
      cases q : x == n with
      | true =>
        have : x = n := by simpa using q
        subst this
        exact ⟨k1, List.mem_cons_self, .inr hk1⟩
      | false =>
        rw [q] at h'
        obtain ⟨k0, h1, h2⟩ := lookup_relabel h'
        exact ⟨k0, List.mem_cons_of_mem _ h1, h2⟩
    · rw [if_neg hc, List.lookup_cons] at h'
      cases q : x == n with
      | true =>
        rw [q] at h'
        have : x = n := by simpa using q
        subst this
        exact ⟨k1, List.mem_cons_self, .inl (Option.some.inj h').symm⟩
      | false =>
        rw [q] at h'
        obtain ⟨k0, h1, h2⟩ := lookup_relabel h'
        exact ⟨k0, List.mem_cons_of_mem _ h1, h2⟩
theorem lookup_relabel_free {env : Env} {y : Str} (hk : env.scope.kind = .function) (hy : env.kindOf y = some .cell) : ∀ {names : List (Str × NameKind)}, names.lookup y = some .free →
    (names.map fun (n, k) => if (k == NameKind.free && env.scope.kind == .function && env.kindOf n == some .cell) then (n, NameKind.cell) else (n, k)).lookup y = some .cell
  | [], h => by cases h
  | (n, k1) :: r, h => by
    show List.lookup y ((if (k1 == NameKind.free && env.scope.kind == .function && env.kindOf n == some .cell) = true then (n, NameKind.cell) else (n, k1)) :: (r.map fun (n, k) => if (k == NameKind.free && env.scope.kind == .function && env.kindOf n == some .cell) then (n, NameKind.cell) else (n, k))) = some .cell
    rw [List.lookup_cons] at h
    cases q : y == n with
    | true =>
      rw [q] at h
      have : y = n := by simpa using q
      subst this
      have hk1 : k1 = .free := Option.some.inj h
      subst hk1
      rw [if_pos (by rw [hk, hy]; rfl), List.lookup_cons, q]
    | false =>
      rw [q] at h
      have ih := lookup_relabel_free hk hy h
      by_cases hc : (k1 == NameKind.free && env.scope.kind == .function && env.kindOf n == some .cell) = true
      · rw [if_pos hc, List.lookup_cons, q]; exact ih
      · rw [if_neg hc, List.lookup_cons, q]; exact ih
structure CompOk (X : Cx) (x : Str) (scope : Scope) (N : List Str) (idx : List Nat) : Prop where
  kind : scope.kind = .function
  cell : ∀ y ∈ scope.names, y.2 ≠ .cell
  names : ∀ y ∈ scope.names, y.2 = .local → scope.names.lookup y.1 = some .local
  own : scope.names.lookup x = some .local
  free : ∀ y ∈ scope.names, y.2 = .free → X.env.kindOf y.1 = some .cell
  nd : N.Nodup
  fst : N[0]? = some x
  len : N.length = idx.length + 1
  cap : ∀ (k j : Nat), idx[k]? = some j → ∃ y, N[k + 1]? = some y ∧ X.N[j]? = some y ∧ scope.names.lookup y = some .free
/-- the captured names' values -/
def caps {α : Type} (σ : List (Option α)) (idx : List Nat) : List (Option α) := idx.map fun j => (σ[j]?).getD none
theorem caps_get {α : Type} {σ : List (Option α)} {idx : List Nat} {k : Nat} {v : α} (h : (caps σ idx)[k]? = some (some v)) : ∃ j, idx[k]? = some j ∧ σ[j]? = some (some v) := by
  unfold caps at h
  rw [List.getElem?_map] at h
  cases e : idx[k]? with
  | none => rw [e] at h; cases h
  | some j =>
    rw [e] at h
    refine ⟨j, rfl, ?_⟩
    have h' : (σ[j]?).getD none = some v := Option.some.inj h
    cases q : σ[j]? with
    | none => rw [q] at h'; cases h'
    | some o => rw [q] at h'; rw [show o = some v from h']
section
variable {X : Cx} {pins : List (Addr × Obj)} {σ : St} {H2 : Hp} {s2 : Shared} {x : Str} {px : Pos} {scope : Scope} {N : List Str} {idx : List Nat} {J : It} {fp : List Addr} {it : Addr} {tn : Nat → Heap → Prop} {cl : List (Str × Addr)}
theorem comp_entry (O : CompOk X x scope N idx) (I2 : Inv X pins σ H2 s2) (T : Turn X.prog X.w X.K (.Name x px) J fp it tn) (st2 : tn 0 s2.heap) (f2 : ∀ b ∈ fp, FpOk X pins H2 b)
    (hcl : ∀ y c, cl.lookup y = some c → X.env.cells.lookup y = some c) (hcl2 : ∀ y, (y, NameKind.free) ∈ scope.names → ∃ c, cl.lookup y = some c)
    {h1 : Heap} {C : Addr} {m : Str → Option Value} {tk : Nat} (hC : s2.heap.objs.size < C) (hns : h1.Ns C m) (old : ∀ b o, s2.heap.get? b = some o → h1.get? b = some o)
    (hD : h1.get? s2.heap.objs.size = some { cls := .type "list", data := .seq ([] : List Value).toArray }) :
    Inv (cxComp X N scope cl C s2 H2 fp) [] (none :: caps σ idx) (upd H2 s2.heap.objs.size (.lst [])) { s2 with heap := h1, toks := tk } := by
  have inHeap : ∀ b ∈ fp, b < s2.heap.objs.size := fun b hb => by
    obtain ⟨o, e, _⟩ := T.obj 0 _ st2 b hb
    exact Heap.lt_size e
  have hDn : H2 s2.heap.objs.size = none := I2.hok.fresh (Nat.le_refl _)
  refine ⟨⟨I2.ok.mod, O.kind, I2.ok.glob, I2.ok.blt, ?_, ?_, ?_, (fun _ _ z => by cases z), I2.ok.hd, I2.ok.frames, .inl rfl, ?_, fun b o e => I2.bs b o e, Nat.le_trans I2.ok.bsz I2.sz, ?_, ?_, I2.stack, I2.stkFree, I2.tb⟩, rfl, I2.bare, ?_, ⟨m, hns, ?_⟩, ?_, ?_, ?_, ?_, ?_, ?_⟩
  · exact Nat.le_of_lt hC
  · intro y z c h1 h2
    exact I2.ok.inj y z c (hcl y c h1) (hcl z c h2)
  · intro y hy
    have key : ∀ k, (relabel scope X.env).names.lookup y = some k → (k = .cell ∨ k = .free) → ∃ c, cl.lookup y = some c := fun k e hk => by
      obtain ⟨k0, h1, h2⟩ := lookup_relabel e
      have hf : k0 = .free := by
        rcases h2 with rfl | h2
        · rcases hk with rfl | rfl
          · exact absurd rfl (O.cell _ h1)
          · rfl
        · exact h2
      subst hf
      exact hcl2 y h1
    rcases hy with e | e
    · exact key _ e (.inl rfl)
    · exact key _ e (.inr rfl)
  · intro b hb
    have := inHeap b hb
    exact ⟨Nat.ne_of_lt (Nat.lt_trans this hC), fun y c e => (f2 b hb).2.2.2.2.1 y c (hcl y c e)⟩
  · intro b o e hb
    rcases (f2 b hb).2.2.2.1 with z | z
    · exact I2.ok.noex b o e z
    · exact absurd (Nat.lt_of_lt_of_le (Heap.lt_size e) (Nat.le_trans I2.ok.bsz z)) (Nat.lt_irrefl _)
  · intro b hb hf
    rcases List.mem_cons.mp (I2.stkSub b hf) with e | e
    · exact (f2 b hb).2.1 e
    · exact (f2 b hb).2.2.1 e
  · exact Un.laid old (Nat.le_refl _) hDn
  · intro i y v e1 e2 e3
    cases i with
    | zero => cases e2
    | succ k =>
      obtain ⟨j, ej, es⟩ := caps_get (k := k) e2
      obtain ⟨y', n1, n2, n3⟩ := O.cap k j ej
      have ey : y' = y := Option.some.inj (n1.symm.trans e1)
      subst ey
      have kc := O.free _ (lookup_mem n3) rfl
      obtain ⟨m0, hn0, hl0⟩ := I2.loc
      obtain ⟨u, ru, lk⟩ := hl0 j y' v n2 es (.inr (.inl kc))
      refine ⟨u, ru, ?_⟩
      rcases lk with ⟨k1, _⟩ | ⟨_, c, hc, ic⟩
      · rw [kc] at k1; cases k1
      · obtain ⟨c', hc'⟩ := hcl2 y' (lookup_mem n3)
        have : c' = c := Option.some.inj ((hcl y' c' hc').symm.trans hc)
        subst this
        exact .inr ⟨.inl (lookup_relabel_free I2.ok.kind kc n3), c', hc', ic.keeps old⟩
  · intro y c e
    obtain ⟨v, ic⟩ := I2.cell y c (hcl y c e)
    exact ⟨v, ic.keeps old⟩
  · show upd H2 _ _ C = none
    rw [upd_ne (Nat.ne_of_gt hC)]
    exact I2.hok.fresh (Nat.le_of_lt hC)
  · intro y c e
    obtain ⟨v, ic⟩ := I2.cell y c (hcl y c e)
    rw [upd_ne (Nat.ne_of_lt ic.lt)]
    exact I2.freeC y c (hcl y c e)
  · intro p hp; cases hp
  · exact I2.hok.laid old (Nat.le_refl _) ⟨Nat.zero_le _, [], _, .nil, hD⟩
  · show (none :: caps σ idx).length = N.length
    rw [O.len, List.length_cons]
    unfold caps
    rw [List.length_map]
theorem comp_exit {σ' : St} {H' : Hp} {s' : Shared} {pl : List (Addr × Obj)} {C : Addr} {h' : Heap} (I2 : Inv X pins σ H2 s2) (f2 : ∀ b ∈ fp, FpOk X pins H2 b) (hC : s2.heap.objs.size < C) (I' : Inv (cxComp X N scope cl C s2 H2 fp) pl σ' H' s') (hs : Heap.SameBut C s'.heap h') :
    Inv X pins σ H' { s' with heap := h' } := by
  have ne : ∀ b o, s2.heap.get? b = some o → b ≠ C := fun b o e => Nat.ne_of_lt (Nat.lt_trans (Heap.lt_size e) hC)
  have u := I'.base
  refine Inv.call' (s' := { s' with heap := h' }) (ch := fp) I2 I'.os ⟨fun b o e n hb hx => (hs.2 b (ne b o e)).trans (u.keep b o e n hb hx), fun b o e n hb hx => ?_, u.free, fun b o e hx => ?_, u.tups, u.frzs, u.tbls⟩ (fun b ob e => ?_) I'.bare (fun b hb => ⟨(f2 b hb).2.2.2.1, (f2 b hb).2.1, (f2 b hb).2.2.2.2.1, (f2 b hb).2.2.2.2.2⟩)
  · obtain ⟨sl, e1⟩ := u.slot b o e n hb hx
    exact ⟨sl, (hs.2 b (ne b o e)).trans e1⟩
  · obtain ⟨o', e1⟩ := u.there b o e hx
    exact ⟨o', (hs.2 b (ne b o e)).trans e1⟩
  · refine (I'.hok b ob e).stay (fun c w' hc q => (hs.2 c ?_).trans q) (fun _ q => q) fun _ _ q => q
    have hf : H' C = none := I'.free
    rintro rfl
    rcases hc with rfl | hc
    · rw [hf] at e; cases e
    · rw [hf] at hc; cases hc
/-- the tests of a comprehension -/
def PIfs (X : Cx) (ifs : List Expr) (t : TT) : Prop := ∀ (pins : List (Addr × Obj)) (s : Shared) (σ : St) (H : Hp) (Q : Bool → Hp → Prop), Inv X pins σ H s → t σ H Q →
  wpAny (model X.prog X.w) X.A (forIn ifs true fun c r => if r = true then do let ok ← isTrue c X.env (eval c X.env); pure (ForInStep.yield ok) else pure (ForInStep.yield r)) (TP X pins σ Q) X.xe s
theorem pifs_nil : PIfs X [] (fun _ H Q => Q true H) := fun pins s σ H Q I h => wpAny_pure ⟨H, I, h⟩
def tComp (K : PySem.W.Frag) (idx : List Nat) (wi : TI) (tt : Hp → TT) (te : Hp → TE) : TE := fun σ H Q => wi σ H fun J H1 => ∀ D, H1 D = none → K.lookup D = none → ∃ W : Nat → Nat → List V → Hp → Prop, (∃ m, W 0 m [] (upd H1 D (.lst []))) ∧
  ∀ i m ys H, H D = some (.lst ys) → W i m ys H → (J.stop i H ∧ Q (.ref D) H) ∨ (J.go i H ∧ ∀ x H', J.yld i H x H' → tt H1 (some x :: caps σ idx) H' fun b H2 =>
    if b = true then te H1 (some x :: caps σ idx) H2 (fun v H3 => H3 D = some (.lst ys) ∧ ys.length < sizeLine ∧ ∃ m', m' < m ∧ W (i + 1) m' (ys ++ [v]) (upd H3 D (.lst (ys ++ [v])))) else H2 D = some (.lst ys) ∧ ∃ m', m' < m ∧ W (i + 1) m' ys H2)
theorem comp_run {elt iter : Expr} {ifs : List Expr} {wi : TI} {tt : Hp → TT} {te : Hp → TE} {pos : Pos} {s : Shared} {H : Hp} {Q : VK} {use : Option (Value → Sem Unit)} {QQ : Value → Shared → Prop} (O : CompOk X x scope N idx) (hc : X.calm = true) (hi : PI X (.Name x px) iter wi)
    (hifs : ∀ cl C s₀ H₀ fp, PIfs (cxComp X N scope cl C s₀ H₀ fp) ifs (tt H₀)) (helt : ∀ cl C s₀ H₀ fp, PE (cxComp X N scope cl C s₀ H₀ fp) elt (te H₀))
    (hs : ∀ x, foldedSetIterable iter X.env x = pure x) (I : Inv X pins σ H s) (h : tComp X.K idx wi tt te σ H Q)
    (fin : ∀ (s2 : Shared) (H2 : Hp) (fp : List Addr) (cl : List (Str × Addr)) (C D : Addr) (σ' : St) (H' : Hp) (s' : Shared), Inv X pins σ H2 s2 → (∀ b ∈ fp, FpOk X pins H2 b) → s2.heap.objs.size < C → Inv (cxComp X N scope cl C s2 H2 fp) [] σ' H' s' → Q (.ref D) H' →
      compPost (model X.prog X.w) X.A X.xe use QQ (.ref D) C (.ok .next) s') :
    wpAny (model X.prog X.w) X.A (comprehension (.ListComp elt [⟨.Name x px, iter, ifs, 0⟩] scope pos) scope X.env (firstIterPos [⟨.Name x px, iter, ifs, 0⟩] pos) (newList []) false (eval iter X.env) use) QQ X.xe s := by
  obtain ⟨cl, ecl, hcl, hcl2⟩ := closure_of (scope := scope) (env := X.env) fun y hy hf => I.ok.has y.1 (.inl (O.free y hy hf))
  refine wpAny_comprehension_free (use := use) (cl := cl) rfl hs ecl O.kind O.names ?_
  refine thn (hi pins s σ H _ I h) fun v s1 h1 => thn h1 fun itv s2 h2 => ?_
  obtain ⟨it, fp, tn, J, H2, rfl, I2, T, st2, f2, hD⟩ := h2
  refine wpAny_newObj_type (wpAny_newFunctionEnv O.cell (by intro y hy; simp at hy) (fun h1 hns hsb => ?_) O.kind)
  dsimp only at hns hsb ⊢
  generalize hG : s2.heap.push { cls := .type "list", dict := none, data := .seq ([] : List Value).toArray } = G at hns hsb ⊢
  have hCs : s2.heap.objs.size < G.objs.size := by rw [← hG, Heap.size_push]; exact Nat.lt_succ_self _
  have old : ∀ b o, s2.heap.get? b = some o → h1.get? b = some o := fun b o e => hsb.extBut b o (Nat.ne_of_lt (Nat.lt_trans (Heap.lt_size e) hCs)) (Heap.get?_push_of_some _ (hG ▸ Heap.get?_push_of_some _ e))
  have hDl : h1.get? s2.heap.objs.size = some { cls := .type "list", data := .seq ([] : List Value).toArray } := hsb.extBut _ _ (Nat.ne_of_lt hCs) (Heap.get?_push_of_some _ (hG ▸ Heap.get?_push_size _ rfl))
  have hDn : H2 s2.heap.objs.size = none := I2.hok.fresh (Nat.le_refl _)
  have hDk : X.K.lookup s2.heap.objs.size = none := by
    cases e : X.K.lookup s2.heap.objs.size with
    | none => rfl
    | some o => exact absurd (Heap.lt_size (I2.kIn _ _ e)) (Nat.lt_irrefl _)
  obtain ⟨W, ⟨m0, w0⟩, step⟩ := hD _ hDn hDk
  have I4 : Inv (cxComp X N scope cl G.objs.size s2 H2 fp) [] (none :: caps σ idx) (upd H2 s2.heap.objs.size (.lst [])) { s2 with heap := h1, toks := s2.toks + ([] : List (Str × Value)).length } :=
    comp_entry O I2 T st2 f2 hcl hcl2 hCs hns old hDl
  generalize hCC : G.objs.size = C at I4 hCs ⊢
  clear hsb hns hG hCC
  generalize hDD : s2.heap.objs.size = D at hDn hDk step w0 I4 hDl ⊢
  have st4 : tn 0 h1 := T.keep 0 _ _ st2 fun b _ o e => old b o e
  have frD : ∀ b ∈ fp, (upd H2 D (.lst [])) b = none := fun b hb => by
    obtain ⟨o, e, _⟩ := T.obj 0 _ st2 b hb
    rw [upd_ne (by rw [← hDD]; exact Nat.ne_of_lt (Heap.lt_size e))]
    exact (f2 b hb).1
  have stat : ∀ {H' : Hp}, (∀ b ∈ fp, H' b = none) → ∀ b ∈ fp, FpOk (cxComp X N scope cl C s2 H2 fp) [] H' b := fun hn b hb =>
    ⟨hn b hb, (I4.ok.exf b hb).1, I4.ok.exfs b hb, .inl hb, (I4.ok.exf b hb).2, fun p hp => by cases hp⟩
  have hloc : (cxComp X N scope cl C s2 H2 fp).env.scope.names.lookup x = some .local := lookup_relabel_local O.own
  have loop : ∀ s3 : Shared, s3 = { s2 with heap := h1, toks := s2.toks + ([] : List (Str × Value)).length } →
      codeAny (model X.prog X.w) X.A (.compLoop (.ListComp elt [⟨.Name x px, iter, ifs, 0⟩] scope pos) 0 (.ref it) (.ref D) (compEnvC scope cl C X.env)) (compPost (model X.prog X.w) X.A X.xe use QQ (.ref D) C) s3 := by
    rintro s3 rfl
    refine codeAny_compLoop_tests (fun n s' => ∃ i z H' ys, Inv (cxComp X N scope cl C s2 H2 fp) [] (z :: caps σ idx) H' s' ∧ tn i s'.heap ∧ (∀ b ∈ fp, H' b = none) ∧ H' D = some (.lst ys) ∧ W i n ys H') ?_ m0 ⟨0, none, _, [], I4, st4, frD, upd_same, w0⟩
    rintro n s5 ⟨i, z, H5, ys, I5, st5, fr5, hD5, w5⟩
    rcases step i n ys H5 hD5 w5 with ⟨stop, q⟩ | ⟨go, next⟩
    · refine wpAny_mono (T.done (cxComp X N scope cl C s2 H2 fp) rfl rfl rfl hc i [] s5 _ H5 (fun _ _ => False) I5 (stat fr5) st5 stop) (fun r s6 hh => ?_) fun _ _ z => z.elim
      obtain ⟨hr, I6⟩ := hh
      subst hr
      exact fin s2 H2 fp cl C D _ H5 s6 I2 f2 hCs I6 q
    · refine wpAny_mono (T.item (cxComp X N scope cl C s2 H2 fp) rfl rfl rfl hc i [] s5 _ H5 (fun _ _ => False) I5 (stat fr5) st5 go) (fun r s6 hh => ?_) fun _ _ z => z.elim
      obtain ⟨u, hr, h6⟩ := hh
      subst hr
      dsimp only
      refine (show wpAny _ _ ((pure () : Sem Unit) >>= fun _ => assign (.Name x px) (compEnvC scope cl C X.env) u) _ _ _ from wpAny_bind (wpAny_mono (show wpAny _ _ (pure () : Sem Unit) _ _ _ from h6) (fun _ s7 h7 => ?_) fun _ _ z => z.elim))
      obtain ⟨xv, H7, I7, r7, y7, st7, fr7⟩ := h7
      have I7' := I7.pinned (stat fr7) (T.obj _ _ st7)
      refine wpAny_assign_Name (store_ok (X := cxComp X N scope cl C s2 H2 fp) I7' O.nd O.fst (.inl hloc) r7 (fun s8 I8 => ?_) (.inr hloc))
      have again : ∀ {H9 : Hp} {s9 : Shared} {ys' : List V} {m' : Nat}, Inv (cxComp X N scope cl C s2 H2 fp) ([] ++ pinsAt fp s7.heap) (some xv :: caps σ idx) H9 s9 → H9 D = some (.lst ys') → m' < n → W (i + 1) m' ys' H9 →
          ∃ m, m < n ∧ ∃ i z H' ys, Inv (cxComp X N scope cl C s2 H2 fp) [] (z :: caps σ idx) H' s9 ∧ tn i s9.heap ∧ (∀ b ∈ fp, H' b = none) ∧ H' D = some (.lst ys) ∧ W i m ys H' := fun {H9 s9 ys' m'} I9 hD9 hm w9 => by
        refine ⟨m', hm, i + 1, some xv, H9, ys', I9.unpinned, T.keep _ _ _ st7 fun b hb o e => (I9.pin (b, o) (List.mem_append_right _ (List.mem_append_right _ (mem_pinsAt hb e)))).1, fun b hb => ?_, hD9, w9⟩
        obtain ⟨o, e, d⟩ := T.obj _ _ st7 b hb
        exact (I9.pin (b, o) (List.mem_append_right _ (List.mem_append_right _ (mem_pinsAt hb e)))).2.1
      refine wpAny_mono (hifs cl C s2 H2 fp _ s8 _ H7 _ I8 (next xv H7 y7)) (fun b s9 hh => ?_) fun _ _ z => z.elim
      obtain ⟨H9, I9, q9⟩ := hh
      cases b with
      | true =>
        rw [if_pos rfl] at q9 ⊢
        refine wpAny_mono (helt cl C s2 H2 fp _ s9 _ H9 _ I9 q9) (fun y s10 hh => ?_) fun _ _ z => z.elim
        obtain ⟨v, H10, I10, r10, hD10, hl, m', hm, w'⟩ := hh
        refine wpAny_mono (mt_append (X := cxComp X N scope cl C s2 H2 fp) _ s10 _ H10 (.ref D) [v] (.ref D) [y] (fun _ H' => H' = upd H10 D (.lst (ys ++ [v]))) I10 rfl (.cons r10 .nil) ⟨D, ys, v, rfl, rfl, hD10, hl, rfl⟩) (fun _ s11 hh => ?_) fun _ _ z => z.elim
        obtain ⟨_, H11, I11, _, e11⟩ := hh
        subst e11
        exact again I11 upd_same hm w'
      | false =>
        rw [if_neg Bool.false_ne_true] at q9 ⊢
        obtain ⟨hD9, m', hm, w'⟩ := q9
        exact again I9 hD9 hm w'
  exact codeAny_compStart_list (loop _ rfl) (T.self X.A 0 _ _ _ st4 (loop _ rfl))
theorem pe_comp {elt iter : Expr} {ifs : List Expr} {wi : TI} {tt : Hp → TT} {te : Hp → TE} {pos : Pos} (O : CompOk X x scope N idx) (hc : X.calm = true) (hi : PI X (.Name x px) iter wi)
    (hifs : ∀ cl C s₀ H₀ fp, PIfs (cxComp X N scope cl C s₀ H₀ fp) ifs (tt H₀)) (helt : ∀ cl C s₀ H₀ fp, PE (cxComp X N scope cl C s₀ H₀ fp) elt (te H₀))
    (hs : ∀ x, foldedSetIterable iter X.env x = pure x := by intro _; rfl) : PE X (.ListComp elt [⟨.Name x px, iter, ifs, 0⟩] scope pos) (tComp X.K idx wi tt te) := by
  intro pins s σ H Q I h
  rw [eval_ListComp]
  refine comp_run (use := none) O hc hi hifs helt hs I h fun s2 H2 fp cl C D σ' H' s' I2 f2 hC I' q => ?_
  obtain ⟨m, hn, _⟩ := I'.loc
  exact ⟨m, hn, fun h' hs' => ⟨.ref D, H', comp_exit I2 f2 hC I' hs', rfl, q⟩⟩
/-- an object that nobody knows may change -/
theorem inv_but {C : Addr} {h' : Heap} {H : Hp} {s : Shared} (I : Inv X pins σ H s) (hs : Heap.SameBut C s.heap h') (h0 : X.s₀.heap.objs.size ≤ C) (hH : H C = none) (hL : C ≠ X.env.locals) (hc : ∀ y c, X.env.cells.lookup y = some c → c ≠ C) (hp : ∀ p ∈ X.pn ++ pins, p.1 ≠ C) :
    Inv X pins σ H { s with heap := h' } := by
  obtain ⟨m, hn, hl⟩ := I.loc
  have ne : ∀ b o, X.s₀.heap.get? b = some o → b ≠ C := fun b o e => Nat.ne_of_lt (Nat.lt_of_lt_of_le (Heap.lt_size e) h0)
  refine ⟨I.ok, I.os, I.bare, ⟨fun b o e n hb hx => (hs.2 b (ne b o e)).trans (I.base.keep b o e n hb hx), fun b o e n hb hx => ?_, I.base.free, fun b o e hx => ?_, I.base.tups, I.base.frzs, I.base.tbls⟩, ⟨m, hn.sameBut hs (Ne.symm hL), fun i y v e1 e2 e3 => ?_⟩, fun y c e => ?_, I.free, I.freeC, fun p hq => ?_, fun b ob e => ?_, I.len⟩
  · obtain ⟨sl, e1⟩ := I.base.slot b o e n hb hx
    exact ⟨sl, (hs.2 b (ne b o e)).trans e1⟩
  · obtain ⟨o', e1⟩ := I.base.there b o e hx
    exact ⟨o', (hs.2 b (ne b o e)).trans e1⟩
  · obtain ⟨u, ru, lk⟩ := hl i y v e1 e2 e3
    refine ⟨u, ru, ?_⟩
    rcases lk with lk | ⟨k, c, e, ic⟩
    · exact .inl lk
    · exact .inr ⟨k, c, e, ic.sameBut hs (hc y c e)⟩
  · obtain ⟨v, ic⟩ := I.cell y c e
    exact ⟨v, ic.sameBut hs (hc y c e)⟩
  · obtain ⟨e, n, ne', nf, d⟩ := I.pin p hq
    exact ⟨(hs.2 p.1 (hp p hq)).trans e, n, ne', nf, d⟩
  · refine (I.hok b ob e).stay (fun c w' hc' q => (hs.2 c ?_).trans q) (fun _ q => q) fun _ _ q => q
    rintro rfl
    rcases hc' with rfl | hc'
    · rw [hH] at e; cases e
    · rw [hH] at hc'; cases hc'
/-- NAME = [..]: the name is bound ahead of the block's end -/
def tSetC (i : Nat) (te : TE) : TS := fun D σ H => te σ H fun v H1 => D.nx (σ.set i (some v)) H1
theorem ps_setComp {i : Nat} {y : Str} {py spos : Pos} {elt iter : Expr} {ifs : List Expr} {wi : TI} {tt : Hp → TT} {te : Hp → TE} {pos : Pos} (O : CompOk X x scope N idx) (hc : X.calm = true) (hi : PI X (.Name x px) iter wi)
    (hifs : ∀ cl C s₀ H₀ fp, PIfs (cxComp X N scope cl C s₀ H₀ fp) ifs (tt H₀)) (helt : ∀ cl C s₀ H₀ fp, PE (cxComp X N scope cl C s₀ H₀ fp) elt (te H₀)) (hN : X.N.Nodup) (hy : X.N[i]? = some y) (hly : Loc X.env.scope y)
    (hsw : swapsWith (.ListComp elt [⟨.Name x px, iter, ifs, 0⟩] scope pos) (some (.Name y py)) spos.line X.env = pure true := by rfl) (hs : ∀ x, foldedSetIterable iter X.env x = pure x := by intro _; rfl)
    (hfn : X.fn y = true ∨ X.env.scope.names.lookup y = some .local := by first | exact .inl rfl | exact .inr rfl | assumption) :
    PS X (.Assign [.Name y py] (.ListComp elt [⟨.Name x px, iter, ifs, 0⟩] scope pos) spos) (tSetC i (tComp X.K idx wi tt te)) := by
  intro pins s σ H D I h
  rw [exec_Assign_Name_used _ _ _ _ hsw]
  refine wpAny_bind (wpAny_standAt (wpAny_bind ?_))
  show wpAny _ X.A (do let _ ← comprehension (.ListComp elt [⟨.Name x px, iter, ifs, 0⟩] scope pos) scope X.env _ (newList []) false (eval iter X.env) (some (assign (.Name y py) X.env))) _ _ s
  refine wpAny_bind (wpAny_mono (comp_run (use := some (assign (.Name y py) X.env)) (QQ := fun _ s' => SP X pins D .next s') O hc hi hifs helt hs I h fun s2 H2 fp cl C E σ' H' s' I2 f2 hC I' q => ?_) (fun _ s' hq => wpAny_pure (wpAny_pure hq)) fun _ _ e => e)
  have I3 : Inv X pins σ H' s' := comp_exit (h' := s'.heap) I2 f2 hC I' ⟨rfl, fun _ _ => rfl⟩
  obtain ⟨mC, hnC, _⟩ := I'.loc
  have h0 : X.s₀.heap.objs.size ≤ C := Nat.le_trans I2.sz (Nat.le_of_lt hC)
  have hCL : C ≠ X.env.locals := Nat.ne_of_gt (Nat.lt_trans I2.lt hC)
  have hCc : ∀ y c, X.env.cells.lookup y = some c → c ≠ C := fun y c e => by
    obtain ⟨v, ic⟩ := I2.cell y c e
    exact Nat.ne_of_lt (Nat.lt_trans ic.lt hC)
  have hCp : ∀ p ∈ X.pn ++ pins, p.1 ≠ C := fun p hp => Nat.ne_of_lt (Nat.lt_trans (Heap.lt_size (I2.pin p hp).1) hC)
  show wpAny _ X.A (assign (.Name y py) X.env (.ref E)) _ _ _
  refine wpAny_assign_Name (store_ok2 (v := .ref E) I3 hN hy hly rfl (fun s4 I4 hb => ?_) hfn)
  obtain ⟨a, hsa, ha⟩ := hb
  have hCa : C ≠ a := by
    rcases ha with rfl | ha
    · exact hCL
    · exact fun z => hCc y a ha z.symm
  exact ⟨mC, hnC.sameBut hsa hCa, fun h' hs' => ⟨_, H', inv_but I4 hs' h0 I'.free hCL hCc hCp, q⟩⟩
end
/-! over data -/
abbrev TX3 := Tau → (List D → Prop) → Prop
/-- what a source yields, while the heap only grows -/
def Src (X : Cx) (wi : TI) (ws : TX3) : Prop := ∀ (B : HZ) (τ : Tau) (σ : St) (H z : Hp) (P : List D → Prop) (R : It → Hp → Prop), Rep X B τ σ ⟨H, z⟩ → ws τ P →
  (∀ (J : It) (q : HZ) (xs : List D), Ext ⟨H, z⟩ q → P xs → (∀ H', Same q.h H' → (∀ i, i < xs.length → J.go i H' ∧ ∀ x H'', J.yld i H' x H'' → H'' = H' ∧ ∃ d, xs[i]? = some d ∧ Is X.K q.z x d) ∧ ∀ i, xs.length ≤ i → J.stop i H') → R J q.h) → wi σ H R
def xSeq (te : TE3) : TX3 := fun τ P => te τ fun s => match items s with
  | some xs => P xs
  | none => False
theorem src_list {X : Cx} {q : HZ} {a : Addr} {vs : List V} {xs : List D} (h : SqL X.K q.h a vs) (hi : Iss X.K q.z vs xs) : ∀ H', Same q.h H' → (∀ i, i < xs.length → (Itl X.K a).go i H' ∧ ∀ x H'', (Itl X.K a).yld i H' x H'' → H'' = H' ∧ ∃ d, xs[i]? = some d ∧ Is X.K q.z x d) ∧ ∀ i, xs.length ≤ i → (Itl X.K a).stop i H' := by
  intro H' e
  have h' : SqL X.K H' a vs := e.seq h
  refine ⟨fun i hlt => ⟨⟨vs, vs[i]'(by rw [hi.1]; exact hlt), h', List.getElem?_eq_getElem (by rw [hi.1]; exact hlt)⟩, fun x H'' hy => ⟨hy.1, ?_⟩⟩, fun i hle => ⟨vs, h', by rw [hi.1]; exact hle⟩⟩
  obtain ⟨d, h1, h2⟩ := iss_item hi (hy.2 vs h')
  exact ⟨d, h1, h2⟩
theorem src_tup {X : Cx} {q : HZ} {a : Addr} {vs : List V} {xs : List D} (h : SqT X.K q.h a vs) (hi : Iss X.K q.z vs xs) : ∀ H', Same q.h H' → (∀ i, i < xs.length → (Itt X.K a).go i H' ∧ ∀ x H'', (Itt X.K a).yld i H' x H'' → H'' = H' ∧ ∃ d, xs[i]? = some d ∧ Is X.K q.z x d) ∧ ∀ i, xs.length ≤ i → (Itt X.K a).stop i H' := by
  intro H' e
  have h' : SqT X.K H' a vs := SqT.same e h
  refine ⟨fun i hlt => ⟨⟨vs, vs[i]'(by rw [hi.1]; exact hlt), h', List.getElem?_eq_getElem (by rw [hi.1]; exact hlt)⟩, fun x H'' hy => ⟨hy.1, ?_⟩⟩, fun i hle => ⟨vs, h', by rw [hi.1]; exact hle⟩⟩
  obtain ⟨d, h1, h2⟩ := iss_item hi (hy.2 vs h')
  exact ⟨d, h1, h2⟩
section
variable {X : Cx} {e : Expr} {te : TE3} {ta : TA3}
theorem src_seq : Src X (iSeq X.K (FE X te)) (xSeq te) := by
  intro B τ σ H z P R r ht k
  refine ⟨B, z, τ, _, r, ht, fun s v H1 e1 i1 f1 h1 => ?_⟩
  try dsimp only at h1
  split at h1
  · rename_i xs hx
    cases s with
    | d z =>
      cases z with
      | tup zs =>
        cases hx
        obtain ⟨p, vs, rfl, h3, h4⟩ := Is.tup_inv i1
        exact ⟨p, rfl, .inr ⟨⟨vs, SqT.same e1.sub h3⟩, k _ H1 _ e1 h1 (src_tup (SqT.same e1.sub h3) h4)⟩⟩
      | lst zs =>
        cases hx
        obtain ⟨p, vs, rfl, h3, h4⟩ := Is.lst_inv i1
        exact ⟨p, rfl, .inl ⟨⟨vs, e1.sub.seq h3⟩, k _ H1 _ e1 h1 (src_list (e1.sub.seq h3) h4)⟩⟩
      | _ => cases hx
    | l zs =>
      cases hx
      obtain ⟨p, vs, rfl, h3, h4⟩ := i1
      exact ⟨p, rfl, .inl ⟨⟨vs, SqL.of h3⟩, k _ H1 _ e1 h1 (src_list (SqL.of h3) h4)⟩⟩
    | r zs =>
      cases hx
      obtain ⟨p, vs, rfl, h3, h4⟩ := i1
      exact ⟨p, rfl, .inl ⟨⟨vs, h3⟩, k _ H1 _ e1 h1 (src_list h3 h4)⟩⟩
  · exact h1.elim
def rngD (lo st : Int) (n : Nat) : List D := (List.range n).map fun (i : Nat) => D.int (lo + i * st)
theorem rngD_len (lo st : Int) (n : Nat) : (rngD lo st n).length = n := by unfold rngD; rw [List.length_map, List.length_range]
theorem rngD_get {lo st : Int} {n i : Nat} (h : i < n) : (rngD lo st n)[i]? = some (.int (lo + i * st)) := by
  unfold rngD
  rw [List.getElem?_map, List.getElem?_range h]
  rfl
def xRng1 (ta : TA3) : TX3 := fun τ P => ta τ fun ss => match ss with
  | [.d (.int j)] => (-(2 ^ 62) ≤ j ∧ j < 2 ^ 62) ∧ P (rngD 0 1 j.toNat)
  | _ => False
def xRng2 (ta : TA3) : TX3 := fun τ P => ta τ fun ss => match ss with
  | [.d (.int i), .d (.int j)] => (-(2 ^ 62) ≤ i ∧ i < 2 ^ 62 ∧ -(2 ^ 62) ≤ j ∧ j < 2 ^ 62) ∧ P (rngD i 1 (j - i).toNat)
  | _ => False
theorem src_rng1 : Src X (iRng1 (FA X ta)) (xRng1 ta) := by
  intro B τ σ H z P R r ht k
  refine ⟨B, z, τ, _, r, ht, fun ss vs H1 e1 i1 h1 => ?_⟩
  try dsimp only at h1
  split at h1
  · rename_i j
    obtain ⟨v, rfl, hv⟩ := args1 i1
    cases Is.int_inv hv
    obtain ⟨⟨q1, q2⟩, hP⟩ := h1
    refine ⟨j, rfl, q1, q2, k _ H1 _ e1 hP fun H' e => ⟨fun i hlt => ?_, fun i hle => ?_⟩⟩
    · rw [rngD_len] at hlt
      refine ⟨hlt, fun x H'' hy => ⟨hy.1, _, rngD_get hlt, ?_⟩⟩
      rw [hy.2, Int.mul_one]
      exact .int _
    · rw [rngD_len] at hle; exact hle
  · exact h1.elim
theorem src_rng2 : Src X (iRng2 (FA X ta)) (xRng2 ta) := by
  intro B τ σ H z P R r ht k
  refine ⟨B, z, τ, _, r, ht, fun ss vs H1 e1 i1 h1 => ?_⟩
  try dsimp only at h1
  split at h1
  · rename_i i0 j
    obtain ⟨v, u, rfl, hv, hu⟩ := args2 i1
    cases Is.int_inv hv
    cases Is.int_inv hu
    obtain ⟨q, hP⟩ := h1
    refine ⟨i0, j, rfl, q, k _ H1 _ e1 hP fun H' e => ⟨fun i hlt => ?_, fun i hle => ?_⟩⟩
    · rw [rngD_len] at hlt
      refine ⟨hlt, fun x H'' hy => ⟨hy.1, _, rngD_get hlt, ?_⟩⟩
      rw [hy.2, Int.mul_one]
      exact .int _
    · rw [rngD_len] at hle; exact hle
  · exact h1.elim
end
/-! the element's names: the block's own, then the captured ones, lists only read -/
def tauC (τ : Tau) (idx : List Nat) (x : D) : Tau := some (.d x) :: (caps τ idx).map (Option.map S.share)
structure PIfs3 (X : Cx) (ifs : List Expr) (t : TT3) : Prop where
  out : PIfs X ifs (FT X t)
def wYes : TT3 := fun _ R => R true
theorem ifs_nil {X : Cx} : PIfs3 X [] wYes := ⟨fun pins s σ H Q I ⟨B, z, τ, R, r, ht, q⟩ => pifs_nil pins s σ H Q I (q true ⟨H, z⟩ (Ext.refl r.ext.sub) ht)⟩
abbrev cxC (X : Cx) (N : List Str) (scope : Scope) (H₀ : Hp) : Cx := cxComp X N scope [] 0 X.s₀ H₀ []
section
variable {X : Cx} {x : Str} {px pos : Pos} {scope : Scope} {N : List Str} {idx : List Nat} {cl : List (Str × Addr)} {C : Addr} {s₀ : Shared} {H₀ H H' : Hp} {fp : List Addr} {σ : St} {τ : Tau}
theorem rep_cx {B p : HZ} (r : Rep (cxC X N scope H₀) B τ σ p) : Rep (cxComp X N scope cl C s₀ H₀ fp) B τ σ p := ⟨r.len, r.ext, r.val, r.own, r.sep, r.top, r.pin⟩
theorem caps_len {α β : Type} (a : List (Option α)) (b : List (Option β)) (idx : List Nat) : (caps a idx).length = (caps b idx).length := by unfold caps; rw [List.length_map, List.length_map]
theorem rep_comp {B p p0 q : HZ} {d : D} {v : V} (r : Rep X B τ σ p) (e : Ext p p0) (e' : Ext p0 q) (iv : Is X.K q.z v d) : Rep (cxC X N scope p0.h) p0 (tauC τ idx d) (some v :: caps σ idx) q := by
  have no : ∀ (i : Nat) (xs : List D), ¬ (tauC τ idx d)[i]? = some (some (.l xs)) := fun i xs z => by
    cases i with
    | zero => cases z
    | succ k =>
      have z' : ((caps τ idx).map (Option.map S.share))[k]? = some (some (.l xs)) := z
      rw [List.getElem?_map] at z'
      cases q : (caps τ idx)[k]? with
      | none => rw [q] at z'; cases z'
      | some o =>
        rw [q] at z'
        cases o with
        | none => cases z'
        | some s0 =>
          have z2 : s0.share = .l xs := Option.some.inj (Option.some.inj z')
          cases s0 <;> cases z2
  refine ⟨?_, e', fun i s hs => ?_, fun i xs a z _ => absurd z (no i xs), fun i j xs s a _ z _ _ _ => absurd z (no i xs), fun _ => Same.refl _, fun k a h => by cases h⟩
  · unfold tauC
    rw [List.length_cons, List.length_cons, List.length_map, caps_len]
  · cases i with
    | zero =>
      cases hs
      exact ⟨v, rfl, iv⟩
    | succ k =>
      have z' : ((caps τ idx).map (Option.map S.share))[k]? = some (some s) := hs
      rw [List.getElem?_map] at z'
      cases q : (caps τ idx)[k]? with
      | none => rw [q] at z'; cases z'
      | some o =>
        rw [q] at z'
        cases o with
        | none => cases z'
        | some s0 =>
          have z2 : s0.share = s := Option.some.inj (Option.some.inj z')
          obtain ⟨j, hj, hτ⟩ := caps_get q
          obtain ⟨w, hw, iw⟩ := r.val j s0 hτ
          refine ⟨w, ?_, ?_⟩
          · show (caps σ idx)[k]? = some (some w)
            unfold caps
            rw [List.getElem?_map, hj]
            show some ((σ[j]?).getD none) = _
            rw [hw]
            rfl
          · rw [← z2]
            exact (iw.mono (e.trans e')).share
end
/-- a comprehension: which items are taken, and what becomes of them -/
def vComp (idx : List Nat) (ws : TX3) (tt : TT3) (te : TE3) : TE3 := fun τ R => ws τ fun xs => ∃ os : List (Option D), os.length = xs.length ∧
  (∀ (n : Nat) (x : D), xs[n]? = some x → tt (tauC τ idx x) fun b => if b = true then te (tauC τ idx x) (fun s => dd s.arg fun y => os[n]? = some (some y)) else os[n]? = some none) ∧ xs.length ≤ 100000 ∧ R (.l (os.filterMap id))
section
variable {X : Cx} {x : Str} {px pos : Pos} {scope : Scope} {N : List Str} {idx : List Nat} {elt iter : Expr} {ifs : List Expr} {wi : TI} {ws : TX3} {tt : TT3} {te : TE3}
theorem comp_imp (hsrc : Src X wi ws) {σ : St} {H : Hp} {Q : VK} (h : FE X (vComp idx ws tt te) σ H Q) : tComp X.K idx wi (fun H₀ => FT (cxC X N scope H₀) tt) (fun H₀ => FE (cxC X N scope H₀) te) σ H Q := by
  obtain ⟨B, z, τ, R, r, ht, q⟩ := h
  refine hsrc B τ σ H z _ _ r ht fun J p1 xs e1 hP hJ => fun D' hD hK => ?_
  obtain ⟨os, hlen, hel, hsz, hR⟩ := hP
  have sz : (100000 : Nat) < sizeLine := by decide
  refine ⟨fun i m ys H' => m = xs.length - i ∧ i ≤ xs.length ∧ ∃ z', Ext p1 ⟨H', z'⟩ ∧ z' D' = none ∧ Iss X.K z' ys ((os.take i).filterMap id), ⟨xs.length, rfl, Nat.zero_le _, p1.z, Ext.own e1.sub hD _, e1.sub.free hD, Iss.nil⟩, ?_⟩
  rintro i m ys H' hD' ⟨rfl, hi, z', hs, hzD, hiss⟩
  by_cases hlt : i < xs.length
  · obtain ⟨go, yl⟩ := (hJ H' hs.hh).1 i hlt
    refine .inr ⟨go, fun v H'' hy => ?_⟩
    obtain ⟨rfl, d, hx, iv⟩ := yl v H'' hy
    have rr : Rep (cxC X N scope p1.h) p1 (tauC τ idx d) (some v :: caps σ idx) ⟨H'', z'⟩ := rep_comp r e1 hs (iv.mono hs.zz)
    have hys : ys.length ≤ i := by
      rw [hiss.1]
      refine Nat.le_trans (List.length_filterMap_le _ _) ?_
      rw [List.length_take]; omega
    -- the list that is built is none of the data
    have keep : ∀ q : HZ, Ext ⟨H'', z'⟩ q → q.z D' = none := fun q e => by
      cases y : q.z D' with
      | none => rfl
      | some o =>
        rcases e.new D' o y with y | y
        · exact nomatch (hzD.symm.trans y)
        · exact nomatch (hD'.symm.trans y)
    refine ⟨_, _, _, _, rr, hel i d hx, fun b q3 e3 hb => ?_⟩
    cases b with
    | true =>
      rw [if_pos rfl] at hb ⊢
      refine ⟨_, _, _, _, rr.mono e3, hb, fun s v2 q4 e4 i4 f4 h4 => ?_⟩
      obtain ⟨y, hy', h4⟩ := dd_inv h4
      obtain ⟨z5, e5, i5⟩ := arg_ext e4 i4 f4
      rw [hy'] at i5
      have e35 := e3.trans e5
      have hD4 : q4.h D' = some (.lst ys) := e35.hh _ _ hD'
      have hz5 : z5 D' = none := keep _ e35
      refine ⟨hD4, by omega, xs.length - (i + 1), by omega, rfl, hlt, z5, ?_, hz5, ?_⟩
      · have e15 := hs.trans e35
        refine ⟨fun b o hb' => ?_, e15.zz, fun b o hb' => ?_, e15.new⟩
        · have hne : b ≠ D' := by rintro rfl; rw [hD] at hb'; cases hb'
          show upd q4.h D' _ b = some o
          rw [upd_ne hne]
          exact e15.hh b o hb'
        · have hne : b ≠ D' := by
            rintro rfl
            have hb2 : z5 b = some o := hb'
            rw [hz5] at hb2; cases hb2
          show upd q4.h D' _ b = some o
          rw [upd_ne hne]
          exact e15.sub b o hb'
      · rw [List.take_add_one, h4, List.filterMap_append]
        exact (hiss.mono e35.zz).snoc i5
    | false =>
      rw [if_neg Bool.false_ne_true] at hb ⊢
      refine ⟨e3.hh _ _ hD', xs.length - (i + 1), by omega, rfl, hlt, q3.z, hs.trans e3, keep _ e3, ?_⟩
      rw [List.take_add_one, hb, List.filterMap_append]
      have : ([none] : List (Option D)).filterMap id = [] := rfl
      show Iss X.K q3.z ys ((os.take i).filterMap id ++ ([none] : List (Option D)).filterMap id)
      rw [this, List.append_nil]
      exact hiss.mono e3.zz
  · have ei : i = xs.length := by omega
    subst ei
    refine .inl ⟨(hJ H' hs.hh).2 _ (Nat.le_refl _), q (.l (os.filterMap id)) _ ⟨H', z'⟩ (e1.trans hs) ⟨D', ys, rfl, hD', ?_⟩ (fun xs a _ h2 => ?_) hR⟩
    · rw [← hlen, List.take_length] at hiss
      exact hiss
    · cases h2
      exact ⟨e1.hh.free hD, hK, hzD⟩
theorem pifs_cx (hifs : ∀ cl C s₀ H₀ fp, PIfs3 (cxComp X N scope cl C s₀ H₀ fp) ifs tt) : ∀ cl C s₀ H₀ fp, PIfs (cxComp X N scope cl C s₀ H₀ fp) ifs (FT (cxC X N scope H₀) tt) := fun cl C s₀ H₀ fp pins s σ H Q I ⟨B, z, τ, R, r, ht, q⟩ =>
  (hifs cl C s₀ H₀ fp).out pins s σ H Q I ⟨B, z, τ, R, rep_cx r, ht, q⟩
theorem pelt_cx (helt : ∀ cl C s₀ H₀ fp, PE3 (cxComp X N scope cl C s₀ H₀ fp) elt te) : ∀ cl C s₀ H₀ fp, PE (cxComp X N scope cl C s₀ H₀ fp) elt (FE (cxC X N scope H₀) te) := fun cl C s₀ H₀ fp pins s σ H Q I ⟨B, z, τ, R, r, ht, q⟩ =>
  (helt cl C s₀ H₀ fp).out pins s σ H Q I ⟨B, z, τ, R, rep_cx r, ht, q⟩
theorem v_comp (O : CompOk X x scope N idx) (hc : X.calm = true) (hi : PI X (.Name x px) iter wi) (hsrc : Src X wi ws) (hifs : ∀ cl C s₀ H₀ fp, PIfs3 (cxComp X N scope cl C s₀ H₀ fp) ifs tt) (helt : ∀ cl C s₀ H₀ fp, PE3 (cxComp X N scope cl C s₀ H₀ fp) elt te)
    (hs : ∀ x, foldedSetIterable iter X.env x = pure x := by intro _; rfl) : PE3 X (.ListComp elt [⟨.Name x px, iter, ifs, 0⟩] scope pos) (vComp idx ws tt te) :=
  ⟨pe_imp (pe_comp O hc hi (pifs_cx hifs) (pelt_cx helt) hs) fun σ H Q h => comp_imp hsrc h⟩
theorem s_setC {i : Nat} {y : Str} {py spos : Pos} (O : CompOk X x scope N idx) (hc : X.calm = true) (hi : PI X (.Name x px) iter wi) (hsrc : Src X wi ws) (hifs : ∀ cl C s₀ H₀ fp, PIfs3 (cxComp X N scope cl C s₀ H₀ fp) ifs tt) (helt : ∀ cl C s₀ H₀ fp, PE3 (cxComp X N scope cl C s₀ H₀ fp) elt te)
    (hN : X.N.Nodup) (hy : X.N[i]? = some y) (hly : Loc X.env.scope y)
    (hsw : swapsWith (.ListComp elt [⟨.Name x px, iter, ifs, 0⟩] scope pos) (some (.Name y py)) spos.line X.env = pure true := by rfl) (hs : ∀ x, foldedSetIterable iter X.env x = pure x := by intro _; rfl)
    (hfn : X.fn y = true ∨ X.env.scope.names.lookup y = some .local := by first | exact .inl rfl | exact .inr rfl | assumption) (hp : PinOk X i := by first | exact pin_no rfl | exact pin_ne rfl (by decide) | assumption) :
    PS3 X (.Assign [.Name y py] (.ListComp elt [⟨.Name x px, iter, ifs, 0⟩] scope pos) spos) (sSet i (vComp idx ws tt te)) :=
  ⟨ps_imp (ps_setComp O hc hi (pifs_cx hifs) (pelt_cx helt) hN hy hly hsw hs hfn) fun D2 σ H hh => by obtain ⟨B, z, τ, D3, r, ht, c⟩ := hh; exact comp_imp hsrc ⟨B, z, τ, _, r, ht, fun s v H' e i f h => by
    cases s with
    | r _ => exact h.elim
    | d y => exact c.nx _ _ _ (r.set e i f rfl hp) h
    | l ys => exact c.nx _ _ _ (r.set e i f rfl hp) h⟩⟩
end
end L3
namespace L3
open PySem PySem.Spec PyProof.Rows L2
/-! ### a comprehension's names, checked by running -/
def capChk (fN : List Str) (scope : Scope) (N : List Str) : Nat → List Nat → Bool
  | _, [] => true
  | k, j :: r => (match N[k + 1]?, fN[j]? with
    | some y, some y' => y == y' && (scope.names.lookup y == some NameKind.free)
    | _, _ => false) && capChk fN scope N (k + 1) r
def compChk (fsc : Scope) (fN : List Str) (x : Str) (scope : Scope) (N : List Str) (idx : List Nat) : Bool :=
  (scope.kind == .function) && scope.names.all (fun y => !(y.2 == .cell)) && scope.names.all (fun y => !(y.2 == .local) || scope.names.lookup y.1 == some .local) && (scope.names.lookup x == some NameKind.local) &&
  scope.names.all (fun y => !(y.2 == .free) || fsc.names.lookup y.1 == some .cell) && decide N.Nodup && (N[0]? == some x) && (N.length == idx.length + 1) && capChk fN scope N 0 idx
theorem cap_of {fN : List Str} {scope : Scope} {N : List Str} : ∀ {idx : List Nat} {k0 : Nat}, capChk fN scope N k0 idx = true → ∀ (k j : Nat), idx[k]? = some j → ∃ y, N[k0 + k + 1]? = some y ∧ fN[j]? = some y ∧ scope.names.lookup y = some .free
  | [], _, _, _, _, h => by simp at h
  | i :: r, k0, h, k, j, hk => by
    unfold capChk at h
    rw [Bool.and_eq_true] at h
    cases k with
    | zero =>
      have e : i = j := by simpa using hk
      subst e
      obtain ⟨h1, _⟩ := h
      split at h1
      · rename_i y y' e1 e2
        rw [Bool.and_eq_true] at h1
        have ey : y = y' := by simpa using h1.1
        subst ey
        exact ⟨y, e1, e2, by simpa using h1.2⟩
      · cases h1
    | succ k =>
      obtain ⟨y, a, b, c⟩ := cap_of h.2 k j (by simpa using hk)
      exact ⟨y, by rw [← a]; congr 1; omega, b, c⟩
theorem CompOk.mk' {X : Cx} {x : Str} {scope : Scope} {N : List Str} {idx : List Nat} (fsc : Scope) (fN : List Str) (h1 : X.env.scope = fsc) (h2 : X.N = fN) (h : compChk fsc fN x scope N idx = true) : CompOk X x scope N idx := by
  subst h1 h2
  unfold compChk at h
  simp only [Bool.and_eq_true] at h
  obtain ⟨⟨⟨⟨⟨⟨⟨⟨a1, a2⟩, a3⟩, a4⟩, a5⟩, a6⟩, a7⟩, a8⟩, a9⟩ := h
  refine ⟨by simpa using a1, fun y hy => ?_, fun y hy hl => ?_, by simpa using a4, fun y hy hf => ?_, by simpa using a6, by simpa using a7, by simpa using a8, fun k j hk => ?_⟩
  · have := List.all_eq_true.mp a2 y hy
    simpa using this
  · have := List.all_eq_true.mp a3 y hy
    rw [hl] at this
    simpa using this
  · have := List.all_eq_true.mp a5 y hy
    rw [hf] at this
    show X.env.scope.names.lookup y.1 = some .cell
    simpa using this
  · have := cap_of a9 k j hk
    simpa using this
end L3
namespace L3
open PySem PySem.Spec PyProof.Rows L2
section
variable {X : Cx} {e a b c : Expr} {te ta tb tc : TE3} {pos : Pos}
/-- what is tracked is unknown to the module -/
theorem pe_k {t : TE} (h : PE X e t) : PE X e (fun σ H Q => t σ H fun v H' => (∀ a o, H' a = some o → X.K.lookup a = none) → Q v H') := fun pins s σ H Q I q =>
  thn (h pins s σ H _ I q) fun u s1 ⟨v, H1, I1, r1, q1⟩ => ⟨v, H1, I1, r1, q1 fun a o e => by
    cases y : X.K.lookup a with
    | none => rfl
    | some o' =>
      have := (I1.bs a o' (I1.ok.mod.kin a o' y)).2
      rw [e] at this
      cases this⟩
/-! #### is None -/
/-! #### tuple + tuple, list + list (data) -/
def oCat : R3 := fun dx dy R => match dx, dy with
  | .tup xs, .tup ys => xs ≠ [] ∧ xs.length + ys.length ≤ 100000 ∧ R (.tup (xs ++ ys))
  | .lst xs, .lst ys => xs.length + ys.length ≤ 100000 ∧ R (.lst (xs ++ ys))
  | .int i, .int j => R (.int (i + j))
  | _, _ => False
theorem Iss.append {K : PySem.W.Frag} {H : Hp} {vs ws : List V} {xs ys : List D} (h : Iss K H vs xs) (h' : Iss K H ws ys) : Iss K H (vs ++ ws) (xs ++ ys) := by
  refine ⟨by simp [h.1, h'.1], fun i v x h1 h2 => ?_⟩
  by_cases hi : i < vs.length
  · rw [List.getElem?_append_left hi] at h1
    rw [List.getElem?_append_left (by have := h.1; omega)] at h2
    exact h.2 i v x h1 h2
  · rw [List.getElem?_append_right (by omega)] at h1
    rw [List.getElem?_append_right (by have := h.1; omega)] at h2
    have := h.1
    exact h'.2 (i - vs.length) v x h1 (by rw [this]; exact h2)
theorem iss_nil_iff {K : PySem.W.Frag} {H : Hp} {vs : List V} {xs : List D} (h : Iss K H vs xs) : vs = [] ↔ xs = [] := by
  have := h.1
  constructor
  · rintro rfl; exact List.eq_nil_of_length_eq_zero (by simpa using this.symm)
  · rintro rfl; exact List.eq_nil_of_length_eq_zero (by simpa using this)
theorem o_cat : OpR3 X (binaryOp .Add) oCat := opr_imp ((op_catT.or op_cat).or op_add) fun x y H Q hh => by
  obtain ⟨z, dx, dy, R, hz, hx, hy, h3, q⟩ := hh
  have sz : (100000 : Nat) < sizeLine := by decide
  unfold oCat at h3
  split at h3
  · rename_i xs ys
    obtain ⟨h1, h2, h3⟩ := h3
    obtain ⟨p, vs, rfl, g1, g2⟩ := Is.tup_inv hx
    obtain ⟨p', ws, rfl, g1', g2'⟩ := Is.tup_inv hy
    refine .inl (.inl ⟨p, p', vs, ws, rfl, rfl, SqT.same hz g1, SqT.same hz g1', fun w => h1 ((iss_nil_iff g2).mp w), by rw [g2.1, g2'.1]; omega, fun w => ?_, fun w l hl => ?_⟩)
    · have : ys = [] := (iss_nil_iff g2').mp w
      subst this
      rw [List.append_nil] at h3
      exact q _ _ ⟨H, z⟩ (Ext.refl hz) hx h3
    · have j := (g2.append g2').mono (same_new (hz.free hl) (.tup (vs ++ ws)))
      exact q _ _ _ (Ext.lay hz hl (.tup (vs ++ ws))) (Is.tup (SqT.of upd_same) j.1 j.2) h3
  · rename_i xs ys
    obtain ⟨h2, h3⟩ := h3
    obtain ⟨p, vs, rfl, g1, g2⟩ := Is.lst_own hx
    obtain ⟨p', ws, rfl, g1', g2'⟩ := Is.lst_own hy
    refine .inl (.inr ⟨p, p', vs, ws, rfl, rfl, hz _ _ g1, hz _ _ g1', by rw [g2.1, g2'.1]; omega, fun l hl => ?_⟩)
    have j := (g2.append g2').mono (same_new (hz.free hl) (.lst (vs ++ ws)))
    exact q _ _ _ (Ext.lay hz hl (.lst (vs ++ ws))) (Is.lst upd_same j.1 j.2) h3
  · rename_i i j
    exact .inr ⟨i, j, hx.int_inv, hy.int_inv, q _ _ ⟨H, z⟩ (Ext.refl hz) (.int _) h3⟩
  · exact h3.elim
/-! #### slices -/
def cutD (xs : List D) (lo hi : Option Int) : List D := (xs.drop (HT.sIx xs.length 0 lo)).take (HT.sIx xs.length xs.length hi - HT.sIx xs.length 0 lo)
theorem iss_cut {K : PySem.W.Frag} {H : Hp} {vs : List V} {xs : List D} (h : Iss K H vs xs) (lo hi : Option Int) : Iss K H (cutV vs lo hi) (cutD xs lo hi) := by
  unfold cutV cutD
  rw [h.1]
  refine ⟨by simp [h.1], fun i v x h1 h2 => ?_⟩
  rw [List.getElem?_take] at h1 h2
  split at h1
  · rename_i hlt
    rw [if_pos hlt] at h2
    rw [List.getElem?_drop] at h1 h2
    exact h.2 _ v x h1 h2
  · cases h1
abbrev TO3 := Tau → (Option Int → Prop) → Prop
structure PO3 (X : Cx) (e : Option Expr) (t : TO3) : Prop where
  out : PO X e (fun σ H Q => ∃ B z τ R, Rep X B τ σ ⟨H, z⟩ ∧ t τ R ∧ ∀ o q, Ext ⟨H, z⟩ q → R o → Q o q.h)
def oNo : TO3 := fun _ R => R none
def oYes (te : TE3) : TO3 := fun τ R => te τ fun s => match s with
  | .d (.int i) => R (some i)
  | _ => False
theorem p_no : PO3 X none oNo := ⟨fun pins s σ H Q I ⟨B, z, τ, R, r, ht, q⟩ => po_none pins s σ H Q I (q none ⟨H, z⟩ (Ext.refl r.ext.sub) ht)⟩
theorem p_yes (h : PE3 X e te) : PO3 X (some e) (oYes te) := ⟨fun pins s σ H Q I ⟨B, z, τ, R, r, ht, q⟩ => po_some h.out pins s σ H Q I ⟨B, z, τ, _, r, ht, fun s v q1 e1 i1 f1 h1 => by
  split at h1
  · rename_i i
    exact ⟨i, Is.int_inv i1, q _ _ e1 h1⟩
  · exact h1.elim⟩⟩
def vSl (te : TE3) (lo hi : TO3) : TE3 := fun τ R => te τ fun x => lo τ fun l => hi τ fun u => match x with
  | .d (.tup xs) => ¬ (HT.sIx xs.length 0 l = 0 ∧ HT.sIx xs.length xs.length u = xs.length) ∧ R (.d (.tup (cutD xs l u)))
  | .d (.lst xs) => R (.l (cutD xs l u))
  | .l xs => R (.l (cutD xs l u))
  | .r xs => R (.l (cutD xs l u))
  | _ => False
theorem v_sl {lo hi : Option Expr} {tl th : TO3} {p2 : Pos} (he : PE3 X e te) (hl : PO3 X lo tl) (hh : PO3 X hi th) : PE3 X (.Subscript e (.Slice lo hi none p2) pos) (vSl te tl th) :=
  ⟨pe_imp (pe_k (pe_slice (sl_tup.or sl_list) he.out hl.out hh.out)) fun σ H Q hh => by
    obtain ⟨B, z, τ, R, r, ht, q⟩ := hh
    refine ⟨B, z, τ, _, r, ht, fun x v q1 e1 i1 f1 h1 => ?_⟩
    refine ⟨B, _, τ, _, r.mono e1, h1, fun l q2 e2 h2 => ?_⟩
    refine ⟨B, _, τ, _, (r.mono e1).mono e2, h2, fun u q3 e3 h3 => ?_⟩
    have e23 := e2.trans e3
    have i1' := IsS.mono e23 i1
    have lists : ∀ (p : Addr) (vs : List V) (xs : List D), v = .ref p → SqL X.K q3.h p vs → Iss X.K q3.z vs xs → R (.l (cutD xs l u)) → ∃ a xs, v = .ref a ∧ SqL X.K q3.h a xs ∧ ∀ p, q3.h p = none → ((∀ a o, upd q3.h p (.lst (cutV xs l u)) a = some o → X.K.lookup a = none) → Q (.ref p) (upd q3.h p (.lst (cutV xs l u)))) := fun p vs xs hv hs hi hR =>
      ⟨p, vs, hv, hs, fun d hd hk => q (.l (cutD xs l u)) _ ⟨_, q3.z⟩ ((e1.trans e23).trans (Ext.own e23.sub hd _)) ⟨d, _, rfl, upd_same, iss_cut hi l u⟩ (fun ys a _ h2 => by
        cases h2
        exact ⟨(e1.trans e23).hh.free hd, hk d _ upd_same, e23.sub.free hd⟩) hR⟩
    split at h3
    · rename_i xs
      obtain ⟨p, vs, rfl, g1, g2⟩ := Is.tup_inv i1'
      refine .inl ⟨p, vs, rfl, SqT.same e23.sub g1, by rw [g2.1]; exact h3.1, fun d hd _ => ?_⟩
      have j := (iss_cut g2 l u).mono (same_new (e23.sub.free hd) (.tup (cutV vs l u)))
      exact q (.d _) _ _ ((e1.trans e23).trans (Ext.lay e23.sub hd (.tup (cutV vs l u)))) (Is.tup (SqT.of upd_same) j.1 j.2) fr_d h3.2
    · rename_i xs
      obtain ⟨p, vs, rfl, g1, g2⟩ := Is.lst_inv i1'
      exact .inr (lists p vs xs rfl (e23.sub.seq g1) g2 h3)
    · rename_i xs
      obtain ⟨p, vs, rfl, g1, g2⟩ := i1'
      exact .inr (lists p vs xs rfl (SqL.of g1) g2 h3)
    · rename_i xs
      obtain ⟨p, vs, rfl, g1, g2⟩ := i1'
      exact .inr (lists p vs xs rfl g1 g2 h3)
    · exact h3.elim⟩
/-! #### list(..), tuple(..) -/
def vListOf (te : TE3) : TE3 := fun τ R => te τ fun s => match items s with
  | some xs => R (.l xs)
  | none => False
def vTupOf (te : TE3) : TE3 := fun τ R => te τ fun s => match items s with
  | some xs => R (.d (.tup xs))
  | none => False
theorem seq_of {K : PySem.W.Frag} {p : HZ} {v : V} {s : S} {xs : List D} (i : IsS K p v s) (hz : Same p.z p.h) (h : items s = some xs) : ∃ a vs, v = .ref a ∧ Iss K p.z vs xs ∧ ((SqL K p.h a vs) ∨ (SqT K p.z a vs ∧ s = .d (.tup xs))) := by
  cases s with
  | d z =>
    cases z with
    | tup zs => cases h; obtain ⟨a, vs, rfl, g1, g2⟩ := Is.tup_inv i; exact ⟨a, vs, rfl, g2, .inr ⟨g1, rfl⟩⟩
    | lst zs => cases h; obtain ⟨a, vs, rfl, g1, g2⟩ := Is.lst_inv i; exact ⟨a, vs, rfl, g2, .inl (hz.seq g1)⟩
    | _ => cases h
  | l zs => cases h; obtain ⟨a, vs, rfl, g1, g2⟩ := i; exact ⟨a, vs, rfl, g2, .inl (SqL.of g1)⟩
  | r zs => cases h; obtain ⟨a, vs, rfl, g1, g2⟩ := i; exact ⟨a, vs, rfl, g2, .inl g1⟩
theorem v_listOf {p : Pos} (he : PE3 X e te) (hg : Gl X "list") (hm : X.mg "list" = none) (hs : starEach [e] X.env = (false, eval e X.env) :: starEach [] X.env := by exact starE rfl) : PE3 X (.Call (.Name "list" p) [e] [] pos) (vListOf te) :=
  ⟨pe_imp (pe_k (pe_callTy call_list_of hg hm PyProof.Rows.boot_list (pa_cons he.out pa_nil hs) (he := hs))) fun σ H Q hh => by obtain ⟨B, z, τ, R, r, ht, q⟩ := hh; exact ⟨B, z, τ, _, r, ht, fun s v q1 e1 i1 f1 h1 => by
    split at h1
    · rename_i xs hx
      obtain ⟨a, vs, rfl, g2, g1⟩ := seq_of i1 e1.sub hx
      refine ⟨a, vs, rfl, g1.elim .inl fun g => .inr (SqT.same e1.sub g.1), fun d hd hk => ?_⟩
      exact q (.l xs) _ ⟨_, q1.z⟩ (e1.trans (Ext.own e1.sub hd _)) ⟨d, vs, rfl, upd_same, g2⟩ (fun ys a _ h2 => by
        cases h2
        exact ⟨e1.hh.free hd, hk d _ upd_same, e1.sub.free hd⟩) h1
    · exact h1.elim⟩⟩
theorem v_tupOf {p : Pos} (he : PE3 X e te) (hg : Gl X "tuple") (hm : X.mg "tuple" = none) (hs : starEach [e] X.env = (false, eval e X.env) :: starEach [] X.env := by exact starE rfl) : PE3 X (.Call (.Name "tuple" p) [e] [] pos) (vTupOf te) :=
  ⟨pe_imp (pe_callTy call_tuple_of hg hm PyProof.Rows.boot_tuple (pa_cons he.out pa_nil hs) (he := hs)) fun σ H Q hh => by obtain ⟨B, z, τ, R, r, ht, q⟩ := hh; exact ⟨B, z, τ, _, r, ht, fun s v q1 e1 i1 f1 h1 => by
    split at h1
    · rename_i xs hx
      obtain ⟨a, vs, rfl, g2, g1⟩ := seq_of i1 e1.sub hx
      refine ⟨a, vs, rfl, ?_⟩
      rcases g1 with g1 | ⟨g1, rfl⟩
      · refine .inl ⟨g1, fun d hd => ?_⟩
        have j := g2.mono (same_new (e1.sub.free hd) (.tup vs))
        exact q (.d _) _ _ (e1.trans (Ext.lay e1.sub hd (.tup vs))) (Is.tup (SqT.of upd_same) j.1 j.2) fr_d h1
      · exact .inr ⟨SqT.same e1.sub g1, q (.d _) _ q1 e1 i1 fr_d h1⟩
    · exact h1.elim⟩⟩
/-! #### a op b op c -/
end
end L3
namespace L3
open PySem PySem.Spec PyProof.Rows L2
section
variable {X : Cx} {e a b c : Expr} {te ta tb tc ti : TE3} {pos : Pos}
/-! #### an own list is written -/
theorem Rep.put {B : HZ} {H z : Hp} {τ : Tau} {σ : St} {i : Nat} {xs ys' : List D} {l : Addr} {vs vs' : List V} (r : Rep X B τ σ ⟨H, z⟩) (hi : τ[i]? = some (some (.l xs))) (hσ : σ[i]? = some (some (.ref l)))
    (hl : H l = some (.lst vs)) (hv : Iss X.K z vs' ys') : Rep X B (τ.set i (some (.l ys'))) σ ⟨upd H l (.lst vs'), z⟩ := by
  obtain ⟨o1, o2, o3⟩ := r.own i xs l hi hσ
  refine ⟨by simp [r.len], ⟨fun b o h => ?_, r.ext.zz, fun b o h => ?_, r.ext.new⟩, fun j s hj => ?_, fun j ys a hj ha => ?_, fun j k ys s a hjk hj hk hs ha => ?_, r.top, r.pin⟩
  · have hb : b ≠ l := by
      rintro rfl
      rw [h] at o1
      cases o1
    show upd H l _ b = some o
    rw [upd_ne hb]
    exact r.ext.hh b o h
  · have hb : b ≠ l := by
      rintro rfl
      have h' : z b = some o := h
      rw [show z b = none from o3] at h'
      cases h'
    show upd H l _ b = some o
    rw [upd_ne hb]
    exact r.ext.sub b o h
  · rcases set_get hj with ⟨rfl, rfl⟩ | ⟨hn, hj⟩
    · exact ⟨.ref l, hσ, l, _, rfl, upd_same, hv⟩
    · obtain ⟨v, h1, h2⟩ := r.val j s hj
      refine ⟨v, h1, ?_⟩
      cases s with
      | d x => exact h2
      | l ys =>
        obtain ⟨b, ws, rfl, h3, h4⟩ := h2
        have hb : b ≠ l := by
          rintro rfl
          exact r.sep i j xs (.l ys) b (fun z => hn z.symm) hi hj rfl hσ h1
        exact ⟨b, ws, rfl, by show upd H l _ b = _; rw [upd_ne hb]; exact h3, h4⟩
      | r ys =>
        obtain ⟨b, ws, rfl, h3, h4⟩ := h2
        have hb : b ≠ l := by
          rintro rfl
          exact r.sep i j xs (.r ys) b (fun z => hn z.symm) hi hj rfl hσ h1
        refine ⟨b, ws, rfl, ?_, h4⟩
        rcases h3 with (h3 | ⟨o, h3⟩) | h3
        · exact .inl (.inl (by show upd H l _ b = _; rw [upd_ne hb]; exact h3))
        · exact .inl (.inr ⟨o, by show upd H l _ b = _; rw [upd_ne hb]; exact h3⟩)
        · exact .inr h3
  · rcases set_get hj with ⟨rfl, _⟩ | ⟨hn, hj⟩
    · exact r.own j xs a hi ha
    · exact r.own j ys a hj ha
  · rcases set_get hj with ⟨rfl, _⟩ | ⟨hn, hj'⟩
    · rcases set_get hk with ⟨e3, _⟩ | ⟨hkn, hk'⟩
      · exact absurd e3.symm hjk
      · exact r.sep j k xs s a hjk hi hk' hs ha
    · rcases set_get hk with ⟨rfl, rfl⟩ | ⟨hkn, hk'⟩
      · exact r.sep j k ys (.l xs) a hjk hj' hi rfl ha
      · exact r.sep j k ys s a hjk hj' hk' hs ha
theorem Iss.set {K : PySem.W.Frag} {H : Hp} {vs : List V} {xs : List D} {v : V} {x : D} (h : Iss K H vs xs) (j : Nat) (hx : Is K H v x) : Iss K H (vs.set j v) (xs.set j x) := by
  refine ⟨by simp [h.1], fun i w y h1 h2 => ?_⟩
  rw [List.getElem?_set] at h1 h2
  by_cases hij : j = i
  · rw [if_pos hij] at h1 h2
    split at h1
    · cases h1
      split at h2
      · cases h2; exact hx
      · cases h2
    · cases h1
  · rw [if_neg hij] at h1 h2
    exact h.2 i w y h1 h2
/-! #### == of lists -/
def lstS : S → Option (List D)
  | .d (.lst xs) => some xs
  | .l xs => some xs
  | .r xs => some xs
  | _ => none
theorem lst_of {K : PySem.W.Frag} {p : HZ} {v : V} {s : S} {xs : List D} (i : IsS K p v s) (hz : Same p.z p.h) (h : lstS s = some xs) : ∃ a vs, v = .ref a ∧ Iss K p.z vs xs ∧ SqL K p.h a vs := by
  cases s with
  | d z =>
    cases z with
    | lst zs => cases h; obtain ⟨a, vs, rfl, g1, g2⟩ := Is.lst_inv i; exact ⟨a, vs, rfl, g2, hz.seq g1⟩
    | _ => cases h
  | l zs => cases h; obtain ⟨a, vs, rfl, g1, g2⟩ := i; exact ⟨a, vs, rfl, g2, SqL.of g1⟩
  | r zs => cases h; obtain ⟨a, vs, rfl, g1, g2⟩ := i; exact ⟨a, vs, rfl, g2, g1⟩
def eqL (n : Nat) (xs ys : List D) : Bool := (xs.zip ys).all (fun p => eqN n p.1 p.2) && xs.length == ys.length
def rEqL (X : Cx) (n : Nat) : R2 := fun x y H Q => ∃ a b vs ws xs ys, x = .ref a ∧ y = .ref b ∧ SqL X.K H a vs ∧ SqL X.K H b ws ∧ Iss X.K H vs xs ∧ Iss X.K H ws ys ∧ xs.all (depOk n) = true ∧ ys.all (depOk n) = true ∧ Q (.bl (eqL n xs ys)) H
theorem op_eqL (n : Nat) (hu : X.A.units + 1 + n < cLine) : OpR X (compareOp .Eq) (rEqL X n) := by
  intro pins s σ H x y v u Q I rx ry h
  obtain ⟨a, b, vs, ws, xs, ys, rfl, rfl, ha, hb, hx, hy, fx, fy, q⟩ := h
  cases rx
  cases ry
  obtain ⟨its, r1, p1, _⟩ := I.list ha
  obtain ⟨its2, r2, p2, _⟩ := I.list hb
  have l1 := r1.length
  have l2 := r2.length
  have k1 := hx.1
  have k2 := hy.1
  have fin : ∀ bb, eqL n xs ys = bb → EP X pins σ Q (.bool bb) s := fun bb e => ⟨.bl bb, H, I, rfl, by rw [← e]; exact q⟩
  by_cases hlen : xs.length = ys.length
  · refine SeqAt.RcAt.lists (A := X.A) (s := s) (items := its.toArray) (items2 := its2.toArray) (e := fun j => match xs[j]?, ys[j]? with | some x, some y => eqN n x y | _, _ => true) p1.isList p2.isList (by simp; omega) (by omega) (fun j h1 h2 => ?_) X.prog X.w X.xe _ (fin _ ?_)
    · have h1' : j < its.length := by simpa using h1
      have h2' : j < its2.length := by simpa using h2
      have gx : xs[j]? = some (xs[j]'(by omega)) := List.getElem?_eq_getElem (by omega)
      have gy : ys[j]? = some (ys[j]'(by omega)) := List.getElem?_eq_getElem (by omega)
      have gv : vs[j]? = some (vs[j]'(by omega)) := List.getElem?_eq_getElem (by omega)
      have gw : ws[j]? = some (ws[j]'(by omega)) := List.getElem?_eq_getElem (by omega)
      obtain ⟨u1, e1, q1⟩ := r1.get gv
      obtain ⟨u2, e2, q2⟩ := r2.get gw
      rw [getElem_of h1 e1, getElem_of h2 e2]
      rw [gx, gy]
      exact eqAt_D I n X.A.in1 _ _ _ _ _ _ (by show X.A.units + 1 + n < cLine; omega) (List.all_eq_true.mp fx _ (List.mem_of_getElem? gx)) (List.all_eq_true.mp fy _ (List.mem_of_getElem? gy)) (hx.2 j _ _ gv gx) (hy.2 j _ _ gw gy) q1 q2
    · unfold eqL
      have s1 : its.toArray.size = xs.length := by simp; omega
      rw [s1, hlen, beq_self_eq_true, Bool.and_true, Bool.eq_iff_iff, List.all_eq_true, List.all_eq_true]
      constructor
      · intro h j hj
        rw [List.mem_range] at hj
        have gx : xs[j]? = some (xs[j]'(by omega)) := List.getElem?_eq_getElem (by omega)
        have gy : ys[j]? = some (ys[j]'(by omega)) := List.getElem?_eq_getElem (by omega)
        rw [gx, gy]
        exact h (_, _) (List.mem_of_getElem? (List.getElem?_zip_eq_some.mpr ⟨gx, gy⟩))
      · rintro h ⟨x, y⟩ hp
        obtain ⟨j, hj⟩ := List.getElem?_of_mem hp
        obtain ⟨gx, gy⟩ := List.getElem?_zip_eq_some.mp hj
        have h1 := (List.getElem?_eq_some_iff.mp gx).1
        have := h j (by rw [List.mem_range]; omega)
        simp only [] at gx gy
        rw [gx, gy] at this
        exact this
  · refine SeqAt.RcAt.lists_lengths (A := X.A) (s := s) (items := its.toArray) (items2 := its2.toArray) p1.isList p2.isList (by simp; omega) (by omega) X.prog X.w X.xe _ (fin _ ?_)
    unfold eqL
    rw [show (xs.length == ys.length) = false from by simpa using hlen, Bool.and_false]
def vEqL (n : Nat) (ta tb : TE3) : TE3 := fun τ R => ta τ fun x => tb τ fun y => match lstS x, lstS y with
  | some xs, some ys => xs.all (depOk n) = true ∧ ys.all (depOk n) = true ∧ R (.d (.bl (eqL n xs ys)))
  | _, _ => False
theorem eqL_imp {n : Nat} {σ : St} {H : Hp} {Q : VK} (h : FE X (vEqL n ta tb) σ H Q) : tOp (rEqL X n) (FE X ta) (FE X tb) σ H Q := by
  obtain ⟨B, z, τ, R, r, ht, q⟩ := h
  refine ⟨B, _, τ, _, r, ht, fun x v H1 e1 i1 f1 h1 => ?_⟩
  refine ⟨B, _, τ, _, r.mono e1, h1, fun y u H2 e2 i2 f2 h2 => ?_⟩
  split at h2
  · rename_i xs ys hx hy
    obtain ⟨a, vs, rfl, g1, g2⟩ := lst_of (IsS.mono e2 i1) e2.sub hx
    obtain ⟨b, ws, rfl, g1', g2'⟩ := lst_of i2 e2.sub hy
    exact ⟨a, b, vs, ws, xs, ys, rfl, rfl, g2, g2', g1.mono e2.sub, g1'.mono e2.sub, h2.1, h2.2.1, q (.d _) _ H2 (e1.trans e2) (Is.bl _) fr_d h2.2.2⟩
  · exact h2.elim
theorem v_eqL (n : Nat) (hu : X.A.units + 1 + n < cLine) (ha : PE3 X a ta) (hb : PE3 X b tb) : PE3 X (.Compare a [.Eq] [b] pos) (vEqL n ta tb) :=
  ⟨pe_imp (pe_cmpR (op_eqL n hu) ha.out hb.out (nomark _)) fun _ _ _ h => eqL_imp h⟩
end
end L3
namespace L3
open PySem PySem.Spec PyProof.Rows L2
section
variable {X : Cx} {e : Expr} {es : List Expr} {tr : TA3} {th : TS3}
end
/-! a constant of the module -/
structure GC (K : PySem.W.Frag) (mg : Str → Option Value) (x : Str) (d : D) : Prop where
  ex : ∃ u v, mg x = some u ∧ RelV v u ∧ ∀ H, Is K H v d
theorem v_gc {X : Cx} {x : Str} {d : D} {pos : Pos} (hg : Gl X x) (c : GC X.K X.mg x d) (hd : (x == ("__debug__" : Str)) = false := by decide) : PE3 X (.Name x pos) (vC d) := by
  obtain ⟨u, v, hm, hr, hi⟩ := c.ex
  exact ⟨pe_imp (pe_glob hg hm hr hd) fun σ H Q hh => by obtain ⟨B, z, τ, R, r, ht, q⟩ := hh; exact q (.d d) v ⟨H, z⟩ (Ext.refl r.ext.sub) (hi _) fr_d ht⟩
/-- what a value of the module is, as data that hold in every heap -/
def KD (K : PySem.W.Frag) (u : Value) (d : D) : Prop := ∃ v, RelV v u ∧ ∀ H, Is K H v d
theorem KD.of {K : PySem.W.Frag} {mg : Str → Option Value} {x : Str} {u : Value} {d : D} (hm : mg x = some u) (h : KD K u d) : GC K mg x d := by
  obtain ⟨v, r, i⟩ := h
  exact ⟨u, v, hm, r, i⟩
section
variable {K : PySem.W.Frag}
theorem KD.int {i : Int} {t} : KD K (Value.int i t) (.int i) := ⟨.int i, ⟨t, rfl⟩, fun _ => .int i⟩
theorem KD.str {x : Str} {t} : KD K (Value.str x t) (.str x) := ⟨.str x, ⟨t, rfl⟩, fun _ => .str x⟩
theorem KD.non : KD K .none .non := ⟨.non, rfl, fun _ => .non⟩
theorem KD.bl {b : Bool} : KD K (.bool b) (.bl b) := ⟨.bl b, rfl, fun _ => .bl b⟩
inductive KDs (K : PySem.W.Frag) : List Value → List D → Prop where
  | nil : KDs K [] []
  | cons {u : Value} {us : List Value} {d : D} {ds : List D} : KD K u d → KDs K us ds → KDs K (u :: us) (d :: ds)
theorem KDs.out : ∀ {us : List Value} {ds : List D}, KDs K us ds → ∃ vs, Vals vs us ∧ ∀ H, Iss K H vs ds
  | _, _, .nil => ⟨[], .nil, fun _ => ⟨rfl, fun i v x h => by simp at h⟩⟩
  | _, _, .cons ⟨v, r, i⟩ t => by
    obtain ⟨vs, rs, is⟩ := t.out
    refine ⟨v :: vs, .cons r rs, fun H => ⟨by simp [(is H).1], fun j w x h1 h2 => ?_⟩⟩
    cases j with
    | zero => simp at h1 h2; subst h1; subst h2; exact i H
    | succ j => exact (is H).2 j w x (by simpa using h1) (by simpa using h2)
theorem KD.tup {a : Addr} {od : Option Addr} {its : Array Value} {n : Nat} {sl : Array (Option Value)} {ds : List D} (h : K.lookup a = some ⟨.type "tuple", od, .seq its n, sl⟩) (hz : its.size ≤ sizeLine) (hs : KDs K its.toList ds) : KD K (.ref a) (.tup ds) := by
  obtain ⟨vs, rs, is⟩ := hs.out
  exact ⟨.ref a, rfl, fun H => .tup (.inr ⟨_, its, n, h, rfl, rfl, hz, rs⟩) (is H).1 (is H).2⟩
end
end L3
namespace L3
open PySem PySem.Spec PyProof.Rows L2
/-! ### a try body that sets no name: calls, and tests ahead of them -/
section
variable {X : Cx} {e : Expr} {es : List Expr} {tr : TA3}
end
end L3
namespace CH
open PySem L2 L3
/-! ### numbers that fit -/
theorem mulOk {i j : Int} {m n : Nat} (hi : i.natAbs < 2 ^ m) (hj : j.natAbs < 2 ^ n) (h : m + n ≤ 134217728) : IntMulOk i j :=
  PyProof.Rows.mulOk_of_bits (PyProof.Rows.intBits_le hi) (PyProof.Rows.intBits_le hj) h
def dg (n : Int) : Nat := if n == 0 then 0 else n.natAbs.log2 / 30 + 1
theorem digits_le {i : Int} {m : Nat} (h : i.natAbs < 2 ^ m) : dg i ≤ m / 30 + 1 := by
  unfold dg
  by_cases h0 : (i == 0) = true
  · rw [if_pos h0]; omega
  · rw [if_neg h0]
    have hn : i.natAbs ≠ 0 := by
      intro z
      apply h0
      have : i = 0 := by omega
      rw [this]; rfl
    have : i.natAbs.log2 < m := (Nat.log2_lt hn).mpr h
    omega
theorem noPy {i j : Int} (h : i.natAbs < 2 ^ 13000) : Builtin.divisionGoesByPylong i j = false := by
  have k := digits_le h
  clear h
  show (decide (dg j > 300) && decide (dg i > dg j + 150)) = false
  rw [Bool.and_eq_false_iff]
  by_cases hq : dg j > 300
  · exact .inr (decide_eq_false (by omega))
  · exact .inl (decide_eq_false hq)
theorem noPy2 {i j : Int} (h : j.natAbs < 1073741824) : Builtin.divisionGoesByPylong i j = false := PyProof.noPylong_small h
theorem nz2 : (2 : Int) ≠ 0 := by decide
theorem abs_nn (i : Int) : 0 ≤ (if i < 0 then -i else i) := by split <;> omega
/-! ### what the law's own small defs are worth -/
def cell (ns : List Int) (k : Int) : Int := ns.getD k.toNat 0
theorem atI_ints {ns : List Int} {k : Int} (h0 : 0 ≤ k) (h1 : k < (ns.length : Int)) : atI (ns.map D.int) k = some (.int (cell ns k)) := by
  have hk : k.toNat < ns.length := by omega
  have ek : k = ((k.toNat : Nat) : Int) := by omega
  have q : atI (ns.map D.int) ((k.toNat : Nat) : Int) = some (.int ns[k.toNat]) := atI_nat (by rw [List.getElem?_map, List.getElem?_eq_getElem hk] <;> rfl)
  rw [← ek] at q
  rw [q]
  unfold cell
  rw [List.getD_eq_getElem?_getD, List.getElem?_eq_getElem hk]
  rfl
abbrev I (i : Int) : Option S := some (.d (.int i))
abbrev B' (b : Bool) : Option S := some (.d (.bl b))
theorem iteD {c A B : Prop} [Decidable c] (h1 : c → A) (h2 : ¬ c → B) : if decide c = true then A else B := by
  by_cases h : c
  · rw [decide_eq_true h, if_pos rfl]; exact h1 h
  · rw [decide_eq_false h, if_neg Bool.false_ne_true]; exact h2 h
theorem iteN {c A B : Prop} [Decidable c] (h1 : ¬ c → A) (h2 : c → B) : if (!decide c) = true then A else B := by
  by_cases h : c
  · rw [decide_eq_true h]; exact h2 h
  · rw [decide_eq_false h]; exact h1 h
theorem iF {b : Bool} {A B : Prop} (h : B) (hb : b = false := by rfl) : if b = true then A else B := by subst hb; rw [if_neg Bool.false_ne_true]; exact h
end CH
namespace L3
end L3
namespace L3
open PySem PySem.Spec PyProof.Rows L2
/-! ### lambdas -/
section
variable {prog : Program} {w : World} {A : Around} {R : Result → Shared → Prop} {s : Shared}
/-- a call of a function that is one expression, whatever its code is named -/
theorem callLam {fa : Addr} {ag : PySem.Args} {ob : Obj} {f : FuncData} {bd : Expr} {nm : Str} (hroom : A.depth < recursionLimit) (hob : s.heap.get? fa = some ob) (hdt : ob.data = .func f)
    (hc1 : f.scope.isCoroutine = false) (hc2 : f.scope.isGenerator = false) (hbd : f.body = .expr bd) (hcd : s.heap.CodeRec f.code nm)
    (k : wpAny (model prog w) A.in1 (bindArgs f ag) (fun bs s1 => wpAny (model prog w) A.in1 (newFunctionEnv f.scope f.globals f.closure bs (nm ++ ".<locals>.") (some fa) f.code none f.builtins)
      (fun en s2 => s2.heap.NoLimit ∧ codeAny (model prog w) A (.expr bd en) R s2) (fun x s3 => R (.error x) s3) s1) (fun x s3 => R (.error x) s3) s) :
    codeAny (model prog w) A (.call (.ref fa) ag) R s := by
  refine codeAny_of_tree ?_
  show wpAny _ A.in1 (callAny (.ref fa) ag) _ _ s
  simp only [callAny]
  refine wpAny_bind (wpAny_load hob ?_)
  obtain ⟨cc, oc, fs, tq, hc, hoc, hdc, hq⟩ := hcd
  simp only [hdt, callFunction, hc1, hc2, hbd, hc]
  rw [hc] at k
  refine wpAny_bind (m := field (.ref cc) 1) (wpAny_field hoc hdc hq (wpAny_bind (wpAny_pure ?_)))
  exact wpAny_bind (wpAny_mono k (fun bs s1 k1 => wpAny_bind (wpAny_mono k1 (fun en s2 k2 => wpAny_bind (wpAny_enterFrame k2.1 hroom (wpAny_pure (And.intro rfl k2.2)))) fun _ _ z => z)) fun _ _ z => z)
end
/-- a lambda's promise, from the state at which it was made on: what it says of each thing x for which dom holds -/
structure LamOk (P : Program) (w : World) (K : PySem.W.Frag) (mg : Str → Option Value) (base : Heap) (k : Nat) (s : Shared) (H : Hp) (fs : List Addr) (a : Addr) (dom : D → Prop) (p : D → Bool) : Prop where
  obj : ∃ o u fd, H a = some (.frz o u) ∧ o.data = .func fd
  run : ∀ (A : Around) (outer : List Env) (s' : Shared) (H' : Hp) (v : V) (u : Value) (x : D), Room k A → Env0 P w K mg base A outer s' H' →
    (∀ b o, s.heap.get? b = some o → H b = none → b ∉ fs → s'.heap.get? b = some o ∧ H' b = none) → Same H H' → RelV v u → Is K H' v x → dom x →
    codeAny (model P w) A (.call (.ref a) ⟨[u], []⟩) (CR CX0 outer P w H' s' (fun r H2 => r = .bl (p x) ∧ Same H' H2) fun _ _ _ => False) s'
def cxLam (X : Cx) (N : List Str) (scope : Scope) (cl : List (Str × Addr)) (nm : Str) (a : Addr) (cdv : Value) (A : Around) (outer : List Env) (s : Shared) (H : Hp) : Cx :=
  { X with A := A.deeper (PySem.W.envX nm scope s.heap.objs.size a cdv cl), N := N, s₀ := s, H₀ := H, env := PySem.W.envX nm scope s.heap.objs.size a cdv cl, outer := outer, stack := PySem.W.envX nm scope s.heap.objs.size a cdv cl :: outer, ex := [], fn := fun _ => false, calm := true, pn := [], xe := fun _ _ => False, lent := none }
def capsD (τ : Tau) (idx : List Nat) : Tau := idx.map fun j => match τ[j]? with
  | some (some (S.d y)) => some (S.d y)
  | _ => none
section
variable {X : Cx} {pins : List (Addr × Obj)} {σ : St} {H1 H : Hp} {s1 s : Shared} {x : Str} {scope : Scope} {N : List Str} {idx : List Nat} {cl : List (Str × Addr)}
theorem cell_apart (I1 : Inv X pins σ H1 s1) (hfn : ∀ y, X.fn y = true) {y : Str} {c : Addr} (e : X.env.cells.lookup y = some c) : c ∉ frs X.stack := fun hb => by
  rcases List.mem_cons.mp (I1.stkSub c hb) with z | z
  · exact I1.cne y c e z
  · obtain ⟨_, o, ho, _⟩ := I1.ok.funs.mem z
    exact absurd (Nat.lt_of_lt_of_le (Heap.lt_size ho) (I1.ok.cab y c (hfn y) e)) (Nat.lt_irrefl _)
theorem lam_entry (O : CompOk X x scope N idx) (hfn : ∀ y, X.fn y = true) (I1 : Inv X pins σ H1 s1) (hcl : ∀ y c, cl.lookup y = some c → X.env.cells.lookup y = some c) (hcl2 : ∀ y, (y, NameKind.free) ∈ scope.names → ∃ c, cl.lookup y = some c)
    {A : Around} {outer : List Env} {s' : Shared} {H' : Hp} (e0 : Env0 X.prog X.w X.K X.mg X.base A outer s' H') (hd : A.handled = none)
    (st : ∀ b o, s1.heap.get? b = some o → H1 b = none → b ∉ frs X.stack → s'.heap.get? b = some o ∧ H' b = none) {v : V} {u : Value} (r : RelV v u)
    {h1 : Heap} (hns : h1.Ns s'.heap.objs.size (fun y => [(x, u)].reverse.lookup y)) (old : ∀ b o, s'.heap.get? b = some o → h1.get? b = some o) {tk : Nat} {nm : Str} {a : Addr} {cdv : Value} :
    Inv (cxLam X N scope cl nm a cdv A outer s' H') [] (some v :: caps σ idx) H' { s' with heap := h1, toks := tk } := by
  have kept : ∀ y c, X.env.cells.lookup y = some c → ∀ z, s1.heap.IsCell c z → h1.IsCell c z ∧ H' c = none := fun y c e z hh => by
    obtain ⟨o, ho, hd⟩ := hh
    obtain ⟨g1, g2⟩ := st c o ho (I1.freeC y c e) (cell_apart I1 hfn e)
    exact ⟨⟨o, old _ _ g1, hd⟩, g2⟩
  refine ⟨⟨e0.mod, O.kind, rfl, rfl, Nat.le_refl _, fun y z c h1 h2 => I1.ok.inj y z c (hcl y c h1) (hcl z c h2), fun y hy => ?_, (fun _ _ z => by cases z), fun _ => hd, Around.frames_deeper e0.frames, .inr ⟨rfl, rfl⟩, (fun b z => by cases z), e0.bs, e0.bsz, (fun _ _ _ z => by cases z), (fun b z => by cases z), e0.funs, e0.frf, e0.tb⟩,
    rfl, e0.bare, Un.kept old, ⟨_, hns, fun i y v' e1 e2 e3 => ?_⟩, fun y c e => ?_, e0.hok.fresh (Nat.le_refl _), fun y c e => ?_, (fun p hp => by cases hp), e0.hok.kept old, ?_⟩
  · have hy' : scope.names.lookup y = some .cell ∨ scope.names.lookup y = some .free := hy
    rcases hy' with z | z
    · exact absurd rfl (O.cell _ (lookup_mem z))
    · exact hcl2 y (lookup_mem z)
  · cases i with
    | zero =>
      have e1' : y = x := Option.some.inj (e1.symm.trans O.fst)
      subst e1'
      cases e2
      exact ⟨u, r, .inl ⟨O.own, by simp⟩⟩
    | succ k =>
      obtain ⟨j, ej, es⟩ := caps_get (k := k) e2
      obtain ⟨y', n1, n2, n3⟩ := O.cap k j ej
      have ey : y' = y := Option.some.inj (n1.symm.trans e1)
      subst ey
      have kc := O.free _ (lookup_mem n3) rfl
      obtain ⟨m0, hn0, hl0⟩ := I1.loc
      obtain ⟨u', ru, lk⟩ := hl0 j y' v' n2 es (.inr (.inl kc))
      refine ⟨u', ru, ?_⟩
      rcases lk with ⟨k1, _⟩ | ⟨_, c, hc, ic⟩
      · rw [kc] at k1; cases k1
      · obtain ⟨c', hc'⟩ := hcl2 y' (lookup_mem n3)
        have : c' = c := Option.some.inj ((hcl y' c' hc').symm.trans hc)
        subst this
        exact .inr ⟨.inr n3, c', hc', (kept y' c' hc _ ic).1⟩
  · obtain ⟨z, ic⟩ := I1.cell y c (hcl y c e)
    exact ⟨z, (kept y c (hcl y c e) z ic).1⟩
  · obtain ⟨z, ic⟩ := I1.cell y c (hcl y c e)
    exact (kept y c (hcl y c e) z ic).2
  · show (some v :: caps σ idx).length = N.length
    rw [O.len, List.length_cons]
    unfold caps
    rw [List.length_map]
theorem capsD_get {τ : Tau} {idx : List Nat} {k : Nat} {y : S} (h : (capsD τ idx)[k]? = some (some y)) : ∃ j d, idx[k]? = some j ∧ y = .d d ∧ τ[j]? = some (some (.d d)) := by
  unfold capsD at h
  rw [List.getElem?_map] at h
  cases e : idx[k]? with
  | none => rw [e] at h; cases h
  | some j =>
    rw [e] at h
    have h' := Option.some.inj h
    dsimp only at h'
    split at h'
    · rename_i d hd
      exact ⟨j, d, rfl, (Option.some.inj h').symm, hd⟩
    · cases h'
/-- what the body says holds of the lambda -/
theorem lam_ok (O : CompOk X x scope N idx) (hfn : ∀ y, X.fn y = true) (I1 : Inv X pins σ H1 s1) (hcl : ∀ y c, cl.lookup y = some c → X.env.cells.lookup y = some c) (hcl2 : ∀ y, (y, NameKind.free) ∈ scope.names → ∃ c, cl.lookup y = some c)
    {a c' : Addr} {fo oc : Obj} {fs : Array Value} {nm qual : Str} {tq kb : Nat} {u1 u2 : HO} {params : Arguments} {body : Expr} {pm ctv : Value} {tb : TE3} {dom : D → Prop} {p : D → Bool} {B : HZ} {z : Hp} {τ : Tau}
    (ha : H1 a = some (.frz fo u1)) (hfo : fo.data = .func (PySem.W.kla_fn "<lambda>" qual params body scope cl pm (.ref c') ctv)) (hc : H1 c' = some (.frz oc u2)) (hoc : oc.data = .fields fs) (hfs : fs[1]? = some (.str nm tq))
    (hco : scope.isCoroutine = false) (hgen : scope.isGenerator = false) (hbind : ∀ (q : Str) (cl : List (Str × Addr)) (pm cv ct u : Value), bindArgs (PySem.W.kla_fn "<lambda>" q params body scope cl pm cv ct) ⟨[u], []⟩ = pure [(x, u)])
    (hb : ∀ cl nm a cdv A outer s H, Room kb (A.deeper (PySem.W.envX nm scope s.heap.objs.size a cdv cl)) → PE3 (cxLam X N scope cl nm a cdv A outer s H) body tb)
    (rep : Rep X B τ σ ⟨H1, z⟩) (hdom : ∀ x, dom x → tb (some (.d x) :: capsD τ idx) fun s => s = .d (.bl (p x))) : LamOk X.prog X.w X.K X.mg X.base (kb + 1) s1 H1 (frs X.stack) a dom p := by
  refine ⟨⟨fo, u1, _, ha, hfo⟩, fun A outer s' H' v u d hr e0 st sm rv is dm => ?_⟩
  have ga : s'.heap.get? a = some fo := (e0.hok a _ (sm _ _ ha)).1
  have gc : s'.heap.get? c' = some oc := (e0.hok c' _ (sm _ _ hc)).1
  have lim : s'.heap.NoLimit := e0.mod.nolimit.keeps fun b o e => (e0.bs b o e).1
  refine callLam (nm := nm) hr.depth ga hfo hco hgen rfl ⟨c', oc, fs, tq, rfl, gc, hoc, hfs⟩ ?_
  rw [hbind]
  refine wpAny_pure (wpAny_newFunctionEnv O.cell (fun y hy => ?_) (fun h1 hns hsb => ?_) O.kind)
  · have : y = (x, u) := by simpa using hy
    subst this
    exact O.own
  have old : ∀ b o, s'.heap.get? b = some o → h1.get? b = some o := fun b o e => hsb.extBut b o (Nat.ne_of_lt (Heap.lt_size e)) (Heap.get?_push_of_some _ e)
  refine ⟨lim.keeps old, ?_⟩
  show codeAny _ _ (.expr body (PySem.W.envX nm scope s'.heap.objs.size a (.ref c') cl)) _ _
  have J := lam_entry (nm := nm) (a := a) (cdv := .ref c') (tk := s'.toks + [(x, u)].length) O hfn I1 hcl hcl2 e0 hr.hd st rv hns old
  refine PySem.W.kla_codeExpr (wpAny_mono ((hb cl nm a (.ref c') A outer s' H' (hr.deeper _)).out [] _ _ H' (fun r H2 => r = .bl (p d) ∧ Same H' H2) J ⟨⟨H', H'⟩, H', some (.d d) :: capsD τ idx, fun s => s = .d (.bl (p d)), ?_, hdom d dm, fun s2 v2 q2 e2 i2 f2 h2 => ?_⟩)
    (fun r s2 ⟨v2, H2, J2, r2, hq⟩ => ⟨v2, H2, J2.os, J2.bare, J2.base, J2.hok, r2, hq⟩) fun _ _ z => z.elim)
  · have noL : ∀ (i : Nat) (xs : List D), ¬ (some (S.d d) :: capsD τ idx)[i]? = some (some (.l xs)) := fun i xs z => by
      cases i with
      | zero => cases z
      | succ k => obtain ⟨_, _, _, e, _⟩ := capsD_get (k := k) z; cases e
    refine ⟨by simp [caps, capsD], Ext.refl (Same.refl _), fun i y hy => ?_, fun i xs _ z _ => absurd z (noL i xs), fun i _ xs _ _ _ z _ _ _ => absurd z (noL i xs), fun _ => Same.refl _, fun k a h => by cases h⟩
    cases i with
    | zero => cases hy; exact ⟨v, rfl, is⟩
    | succ k =>
      obtain ⟨j, y', ej, ey, et⟩ := capsD_get (k := k) hy
      subst ey
      obtain ⟨v', e1, e2⟩ := rep.val j _ et
      refine ⟨v', ?_, (Is.mono rep.ext.sub e2).mono sm⟩
      show (caps σ idx)[k]? = _
      unfold caps
      rw [List.getElem?_map, ej]
      show some ((σ[j]?).getD none) = _
      rw [e1]
      rfl
  · subst h2
    exact ⟨Is.bl_inv i2, e2.hh⟩
end
section
variable {X : Cx} {pins : List (Addr × Obj)} {σ : St} {H : Hp} {s : Shared}
theorem codeAmong_old {pos pos' : Pos} {c cv : Value} : ∀ (l : List Value), TriplesOk l → codeAmong pos' (l ++ [rawInt pos.line, rawInt pos.col, c]) = some cv → codeAmong pos' l = some cv ∨ cv = c := by
  intro l h
  fun_induction TriplesOk l with
  | case1 =>
    intro e
    simp only [List.nil_append, codeAmong, rawInt] at e
    split at e
    · exact .inr (Option.some.inj e).symm
    · cases e
  | case2 a t b u x rest ih =>
    intro e
    simp only [List.cons_append, codeAmong] at e ⊢
    split at e
    · rename_i hc; rw [if_pos hc]; exact .inl e
    · rename_i hc; rw [if_neg hc]; exact ih h e
  | case3 l h1 h2 => exact h.elim
/-- a lambda is made -/
theorem lam_make {x : Str} {c T : Addr} {params : Arguments} {body : Expr} {scope : Scope} {pos : Pos} {cl : List (Str × Addr)} {E : Value → Shared → Prop} {QQ : Value → Shared → Prop} (I : Inv X pins σ H s) (ht : PySem.W.tabIn X.K x = some (c, T)) (hp : (recsOf X.prog).any (fun d => d.name == x) = true)
    (hcode : X.env.code = .ref c) (hdef : defaultsOf params X.env = ([], [])) (hcl : closureFor scope X.env = pure cl)
    (h : ∀ (a c' : Addr) (H' : Hp) (s' : Shared) (fo oc : Obj) (fs : Array Value) (nm qual : Str) (tq : Nat) (pm ctv : Value), Inv X pins σ H' s' → Same H H' → H' a = some (.frz fo (.own T)) → fo.data = .func (PySem.W.kla_fn "<lambda>" qual params body scope cl pm (.ref c') ctv) →
      H' c' = some (.frz oc (.own T)) → oc.data = .fields fs → fs[1]? = some (.str nm tq) → QQ (.ref a) s') :
    wpAny (model X.prog X.w) X.A (eval (.Lambda params body scope pos) X.env) QQ E s := by
  obtain ⟨hd, ps, hT⟩ := I.tb.tab x c T ht hp
  obtain ⟨bm, ob, b1, b2, b3, b4, b5, b6⟩ := I.tb.bm
  obtain ⟨tab, e1, tr, cod⟩ := (show TabOk H s.heap T from I.hok T _ hT)
  have tabNe : ∀ {b : Addr} {o : Obj}, X.base.get? b = some o → b ≠ T := fun {b o} e z => by
    have := (I.bs b o e).2
    rw [z, hT] at this
    cases this
  have hgs : s.heap.Ns mainGlobals X.mg := I.mod.glob.keeps I.bk
  have hgT : mainGlobals ≠ T := by
    obtain ⟨o, _, _, e, _⟩ := I.mod.glob
    exact tabNe e
  have hbG : bm ≠ mainGlobals := fun z => by
    obtain ⟨o, es, ep, e, d, _⟩ := I.mod.glob
    rw [z, e] at b3; cases b3; rw [d] at b6; cases b6
  have hB : s.heap.BuiltinsAt X.mg T := ⟨bm, ob, b1, b2, hbG, tabNe b3, I.bk _ _ b3, b4, b5, b6⟩
  refine PySem.W.kla_eval hdef ?_
  cases hf : codeAmong pos tab.toList with
  | some cv =>
    obtain ⟨c', oc, fs, nm, tq, rfl, hc', hoc, hfs⟩ := cod pos cv hf
    refine PySem.W.kla_makeFunctionHit (mg := X.mg) hcl I.ok.glob hgs hcode (hd.keeps I.bk) e1 tr hf hB fun ctv h' tk old sz => ?_
    refine h h'.objs.size c' (upd H h'.objs.size (.frz _ (.own T))) _ _ oc fs nm _ tq _ ctv (I.laid (fun b o e => Heap.get?_push_of_some _ (old b o e)) sz ⟨Heap.get?_push_size _ rfl, _, Heap.get?_push_size _ rfl⟩) (same_new (I.hok.fresh sz) _) upd_same rfl ?_ hoc hfs
    rw [upd_ne (Nat.ne_of_lt (Nat.lt_of_lt_of_le (I.hok.lt hc') sz))]
    exact hc'
  | none =>
    refine PySem.W.kla_makeFunction (mg := X.mg) hcl I.ok.glob hgs hcode (hd.keeps I.bk) e1 tr hf hgT hB fun c' ctv h' tk hx hge hlt hrec htb => ?_
    obtain ⟨c2, oc, fs, tq, ec, hoc, hdt, hfs⟩ := hrec
    cases ec
    have nT : ∀ {b : Addr} {o : Obj}, s.heap.get? b = some o → b ≠ T → h'.get? b = some o := fun {b o} e z => hx b o z e
    have fresh1 : H c' = none := I.hok.fresh hge
    have cT : T ≠ c' := Nat.ne_of_lt (Nat.lt_of_lt_of_le (Heap.lt_size e1) hge)
    have s1 : Same H (upd H c' (.frz oc (.own T))) := same_new fresh1 _
    have ok1 : HOk X.prog X.w (upd H c' (.frz oc (.own T))) h' := fun b u e => by
      by_cases hb : b = c'
      · subst hb
        rw [upd_same] at e
        cases e
        exact ⟨hoc, oc, hoc⟩
      · rw [upd_ne hb] at e
        by_cases hb2 : b = T
        · subst hb2
          rw [hT] at e
          cases e
          refine ⟨_, htb, by rw [Array.toList_append]; exact TriplesOk_snoc _ _ _ _ tr, fun pos' cv z => ?_⟩
          rw [Array.toList_append] at z
          rcases codeAmong_old _ tr z with z | z
          · obtain ⟨c3, o3, f3, n3, t3, q1, q2, q3⟩ := cod pos' cv z
            exact ⟨c3, o3, f3, n3, t3, q1, s1 _ _ q2, q3⟩
          · exact ⟨c', oc, fs, _, tq, z, upd_same, hdt, hfs⟩
        · refine (I.hok b u e).stay (hf := fun d w1 w2 q => s1 _ _ q) (fun d o hdd q => nT q ?_) (fun d q => s1 _ _ q) fun d xs q => s1 _ _ q
          rcases hdd with rfl | hdd
          · exact hb2
          · rintro rfl
            rw [hT] at hdd
            cases hdd
    have un1 : Un X.fs [] H (upd H c' (.frz oc (.own T))) s.heap h' := by
      refine ⟨fun b o e n _ _ => nT e (fun z => by rw [z, hT] at n; cases n), fun b o e n _ _ => ⟨o.slots, nT e (fun z => by rw [z, hT] at n; cases n)⟩, fun b o e n _ => ?_, fun b o e _ => ?_, fun b xs q => s1 _ _ q, fun b o u q => s1 _ _ q, fun b ps q => ⟨#[], by rw [s1 _ _ q]; simp⟩⟩
      · rw [upd_ne (Nat.ne_of_lt (Nat.lt_of_lt_of_le (Heap.lt_size e) hge))]; exact n
      · by_cases z : b = T
        · subst z; exact ⟨_, htb⟩
        · exact ⟨o, nT e z⟩
    have I1 : Inv X pins σ (upd H c' (.frz oc (.own T))) { s with heap := h', toks := tk } := I.un un1 ok1
    have I2 := I1.laid (a := h'.objs.size) (o := .frz (PySem.W.kla_obj "<lambda>" (X.env.qual ++ "<lambda>") params body scope cl ((X.mg "__name__").getD .none) c' ctv) (.own T)) (t' := tk) (h' := h'.push (PySem.W.kla_obj "<lambda>" (X.env.qual ++ "<lambda>") params body scope cl ((X.mg "__name__").getD .none) c' ctv))
      (fun b o e => Heap.get?_push_of_some _ e) (Nat.le_refl _) ⟨Heap.get?_push_size _ rfl, _, Heap.get?_push_size _ rfl⟩
    refine h h'.objs.size c' _ _ _ oc fs _ _ tq _ ctv I2 (s1.trans (same_new (I1.hok.fresh (Nat.le_refl _)) _)) upd_same rfl ?_ hdt hfs
    rw [upd_ne (Nat.ne_of_lt hlt)]
    exact upd_same
end
/-! a def that is handed a lambda -/
abbrev SpL := Addr → (D → Prop) → (D → Bool) → Sp3
structure FnOkL (P : Program) (w : World) (K : PySem.W.Frag) (mg : Str → Option Value) (base : Heap) (k kl : Nat) (f : Addr) (fd : FuncData) (ps : List Str) (sp : SpL) : Prop where
  len : ∀ a dom p ss R U, sp a dom p ss R U → ss.length = ps.length
  run : ∀ (A : Around) (outer : List Env) (s : Shared) (H : Hp) (args : PySem.Args) (us : List Value) (vs : List V) (Q : VK) (E : XK) (a : Addr) (dom : D → Prop) (p : D → Bool), Room k A → Env0 P w K mg base A outer s H → BindsTo s fd args (ps.zip us) → Vals vs us →
    LamOk P w K mg base kl s H (frs outer) a dom p → liftSp K mg (sp a dom p) vs H Q E → codeAny (model P w) A (.call (.ref f) args) (CR CX0 outer P w H s Q E) s
structure CalL (P : Program) (w : World) (K : PySem.W.Frag) (mg : Str → Option Value) (base : Heap) (k kl : Nat) (x : Str) (ps : List Str) (sp : SpL) : Prop where
  ex : ∃ f fd, FnOkL P w K mg base k kl f fd ps sp ∧ mg x = some (.ref f) ∧ PySem.W.keepIn K (.ref f) = true ∧ Binds K fd ps []
section
variable {P : Program} {w : World} {K : PySem.W.Frag} {mg : Str → Option Value} {base : Heap}
theorem fnL {x qual : Str} {st : Stmt} {f : Addr} {fd : FuncData} {N ps : List Str} {k kl : Nat} {sp : SpL} (F : Fun K x qual st f fd) (Sc : FnScope N ps (defScope st)) (len : ∀ a dom p ss R U, sp a dom p ss R U → ss.length = ps.length)
    (hbody : ∀ (cdv : Value) (A : Around) (outer : List Env) (s : Shared) (H : Hp) (E : XK) (a : Addr) (dom : D → Prop) (p : D → Bool) (ss : List S) (R : S → Prop) (U : Str → Prop), Room k (A.deeper (envOfC qual (defScope st) s.heap.objs.size f cdv)) → LamOk P w K mg base kl s H (frs outer) a dom p → sp a dom p ss R U →
      ∃ t, PSs3 (cxOf CX0 P w K mg base N qual (defScope st) f cdv A outer s H E).nox (defBody st) t ∧ t { nx := fun _ => R (.d .non), rt := R } (start3 N ss)) : FnOkL P w K mg base (k + 1) kl f fd ps sp := by
  obtain ⟨oc, od, kV, doc, pm, an, cdv, ct, osl, rfl, lk, hcd⟩ := F.ex
  refine ⟨len, fun A outer s H args us vs Q E a dom p hr e0 hb rv hL hh => ?_⟩
  obtain ⟨z, ss, R, U, hz, ha, h3, q, qe⟩ := hh
  have hl : vs.length = ps.length := ha.1.trans (len _ _ _ _ _ _ h3)
  have KX : K.In s.heap := e0.mod.kin.keeps fun b o e => (e0.bs b o e).1
  have lim : s.heap.NoLimit := e0.mod.nolimit.keeps fun b o e => (e0.bs b o e).1
  refine codeAny_call_function hr.depth (KX _ _ lk) rfl Sc.co Sc.gen rfl (PySem.W.codeRec_of KX hcd) (hb _ _ _ _ ?_)
  refine wpAny_newFunctionEnv_cells Sc.kind (fun y hy => ?_) fun env he s1 xx => ?_
  · obtain ⟨n, v⟩ := y
    rcases Sc.par n (List.of_mem_zip hy).1 with g | g
    · exact .inl g
    · exact .inr ⟨g, PySem.W.cellsFrom_some _ _ _ (.inl g)⟩
  subst he
  refine ⟨lim.keeps xx.toInCall.keep, codeAny_func ?_⟩
  obtain ⟨t, ht, hq⟩ := hbody cdv A outer s H E a dom p ss R U (hr.deeper _) hL h3
  have I : Inv (cxOf CX0 P w K mg base N qual (defScope st) f cdv A outer s H E) [] (start N vs) H s1 := inv_start Sc hr.hd e0 hl rv xx
  refine wpAny_mono (ht.out.nox [] s1 (start N vs) H { nx := fun _ H' => Q .non H', rt := Q } I ⟨⟨H, z⟩, z, start3 N ss, _, rep_start ha hz (Same.refl H), hq, ⟨fun τ σ p r h => q (.d .non) _ p r.ext Is.non fr_d h, fun _ _ _ _ z => z.elim, fun _ _ _ _ z => z.elim, fun s v p e i f h => q s v p e i f h⟩⟩) (fun fl s' hs => ?_) fun e s' hs => hs
  have fin : ∀ {σ' : St} {H' : Hp} {v : V} {u : Value}, Inv (cxOf CX0 P w K mg base N qual (defScope st) f cdv A outer s H E) [] σ' H' s' → RelV v u → Q v H' → CE outer P w H s Q u s' :=
    fun {σ' H' v u} J rv q => ⟨v, H', J.os, J.bare, J.base, J.hok, rv, q⟩
  cases fl with
  | ret u =>
    obtain ⟨v, σ', H', J, rv, q⟩ := hs
    exact fin J rv q
  | next =>
    obtain ⟨σ', H', J, q⟩ := hs
    exact fin (v := V.non) (u := Value.none) J rfl q
  | brk => obtain ⟨_, _, _, g⟩ := hs; exact False.elim g
  | cont => obtain ⟨_, _, _, g⟩ := hs; exact False.elim g
end
section
variable {X : Cx} {pos : Pos} {e : Expr} {te tb : TE3}
theorem CE_imp {outer : List Env} {P : Program} {w : World} {H : Hp} {s s' : Shared} {Q Q' : VK} {u : Value} (h : CE outer P w H s Q u s') (f : ∀ v H', Q v H' → Q' v H') : CE outer P w H s Q' u s' :=
  let ⟨v, H', a, b, c, d, r, q⟩ := h; ⟨v, H', a, b, c, d, r, f _ _ q⟩
/-- NAME(e), where NAME holds a lambda -/
def vCallV (i : Nat) (a : Addr) (dom : D → Prop) (p : D → Bool) (te : TE3) : TE3 := fun τ R => τ[i]? = some (some (.d (.ref a))) ∧ te τ fun s => dd s fun x => dom x ∧ R (.d (.bl (p x)))
theorem v_callV {i k : Nat} {x : Str} {np : Pos} {a : Addr} {dom : D → Prop} {p : D → Bool} (hL : LamOk X.prog X.w X.K X.mg X.base k X.s₀ X.H₀ X.fs a dom p) (hr : Room k X.A) (hv : PE X (.Name x np) (tVar i)) (he : PE3 X e te) (hex : X.ex = [] := by rfl) (hl : X.lent = none := by rfl)
    (hs : starEach [e] X.env = (false, eval e X.env) :: starEach [] X.env := by exact starE rfl) : PE3 X (.Call (.Name x np) [e] [] pos) (vCallV i a dom p te) := by
  refine ⟨fun pins s σ H Q I hh => ?_⟩
  obtain ⟨B, z, τ, R, r, ⟨hi, ht⟩, q⟩ := hh
  obtain ⟨v, h1, h2⟩ := r.val i _ hi
  have ev : v = .ref a := by
    have h2' : Is X.K z v (.ref a) := h2
    cases h2'; rfl
  subst ev
  obtain ⟨o, uu, fd, ho, hfd⟩ := hL.obj
  refine wpAny_Call_Name_kw (thn (hv pins s σ H (fun v' H' => v' = .ref a ∧ H' = H) I ⟨_, h1, rfl, rfl⟩) fun f s1 hh => ?_)
  obtain ⟨v', H', I1, rv, e1, e2⟩ := hh
  subst e1; subst e2
  obtain rfl : f = Value.ref a := rv
  have pa : wpAny (model X.prog X.w) X.A (spliced (backTo pos (starEach [e] X.env))) _ X.xe s1 := (pa_cons he.out pa_nil hs) pos pins s1 σ H' (fun vs H1 => ∃ y z1 x, vs = [y] ∧ Ext ⟨H', z⟩ ⟨H1, z1⟩ ∧ Is X.K z1 y x ∧ dom x ∧ R (.d (.bl (p x)))) I1 ⟨B, z, τ, _, r, ht, fun s2 v2 q2 e2 i2 f2 h2 => by
    obtain ⟨x, rfl, hx⟩ := dd_inv h2
    exact ⟨v2, q2.z, x, rfl, e2, i2, hx⟩⟩
  rw [hs] at pa ⊢
  refine PySem.W.callWith_of (P := fun h => ∃ ob, h.get? a = some ob ∧ ob.data = .func fd) rfl (fun h ⟨ob, g1, g2⟩ => ⟨.frame, .inl rfl, ?_⟩) (Calls.evalArgs_plain (thn pa fun us s2 ⟨vs, H2, I2, rv2, y, z1, x, evs, e2, i2, dm, hR⟩ => ?_))
  · obtain ⟨oc, od, od2, osl⟩ := ob
    cases g2
    exact (PySem.W.Looks.ld (part := none) g1).andThen .now
  subst evs
  have sm : Same X.H₀ H2 := (r.all hl).trans e2.hh
  obtain ⟨u, rfl, ru⟩ : ∃ u, us = [u] ∧ RelV y u := by
    cases rv2 with
    | cons a b => cases b; exact ⟨_, rfl, a⟩
  refine ⟨⟨o, (I2.hok a _ (sm _ _ ho)).1, hfd⟩, wpAny_call (codeAny_mono (hL.run X.A X.stack s2 H2 y u x hr I2.env0 (fun b ob g1 g2 g3 => ⟨I2.base.keep b ob g1 g2 g3 (by rw [hex]; simp), I2.base.free b ob g1 g2 (by rw [hex]; simp)⟩) sm ru (Is.mono e2.sub i2) dm) fun r2 s3 hq => ?_)⟩
  cases r2 with
  | error e => exact hq.elim
  | ok fl =>
    cases fl with
    | ret u2 =>
      refine I2.after (CE_imp hq fun v3 H3 h3 => ?_)
      obtain ⟨rfl, sm3⟩ := h3
      exact q (.d (.bl (p x))) _ ⟨H3, z1⟩ (e2.trans (Ext.grow e2.sub sm3)) (.bl _) fr_d hR
    | next => exact False.elim hq
    | brk => exact False.elim hq
    | cont => exact False.elim hq
/-- f(e, lambda ..) -/
def vCallL (sp : SpL) (U : Str → Prop) (idx : List Nat) (te tb : TE3) : TE3 := fun τ R => te τ fun s => ∃ (dom : D → Prop) (p : D → Bool), (∀ x, dom x → tb (some (.d x) :: capsD τ idx) fun s => s = .d (.bl (p x))) ∧ dd s fun d => ∀ a, sp a dom p [.d d, .d (.ref a)] R U
theorem v_callL {k kb : Nat} {g x y : Str} {np lp : Pos} {ps : List Str} {sp : SpL} {c T : Addr} {params : Arguments} {body : Expr} {scope : Scope} {N : List Str} {idx : List Nat} (cal : CalL X.prog X.w X.K X.mg X.base k (kb + 1) g ps sp) (hr : Room k X.A) (hg : Gl X g)
    (ht : PySem.W.tabIn X.K y = some (c, T)) (hp : (recsOf X.prog).any (fun d => d.name == y) = true) (hcode : X.env.code = .ref c) (O : CompOk X x scope N idx) (he : PE3 X e te)
    (hb : ∀ cl nm a cdv A outer s H, Room kb (A.deeper (PySem.W.envX nm scope s.heap.objs.size a cdv cl)) → PE3 (cxLam X N scope cl nm a cdv A outer s H) body tb)
    (hfn : ∀ y, X.fn y = true := by intro _; rfl) (hdef : defaultsOf params X.env = ([], []) := by rfl) (hco : scope.isCoroutine = false := by rfl) (hgen : scope.isGenerator = false := by rfl)
    (hbind : ∀ (q : Str) (cl : List (Str × Addr)) (pm cv ct u : Value), bindArgs (PySem.W.kla_fn "<lambda>" q params body scope cl pm cv ct) ⟨[u], []⟩ = pure [(x, u)] := by intros; rfl)
    (hdb : (g == ("__debug__" : Str)) = false := by decide) (hs : starEach [e, .Lambda params body scope lp] X.env = (false, eval e X.env) :: starEach [.Lambda params body scope lp] X.env := by exact starE rfl) :
    PE3 X (.Call (.Name g np) [e, .Lambda params body scope lp] [] pos) (vCallL sp NoU idx te tb) := by
  refine ⟨fun pins s σ H Q I hh => ?_⟩
  obtain ⟨B, z, τ, R, r, ht1, q⟩ := hh
  obtain ⟨f, fd, F, hm, hk, hbi⟩ := cal.ex
  obtain ⟨cl, ecl, hcl, hcl2⟩ := closure_of (scope := scope) (env := X.env) fun y hy hf => I.ok.has y.1 (.inl (O.free y hy hf))
  refine wpAny_Call_Name_kw (ld_glob I hg hm ?_ hdb)
  refine PySem.W.callWith_K (h₀ := X.base) I.ok.mod.kin hk ?_ hs rfl
  rw [hs]
  refine Calls.spliced_cons (thn (he.out pins s σ H (fun v1 H1 => ∃ z1 d, Ext ⟨H, z⟩ ⟨H1, z1⟩ ∧ Is X.K z1 v1 d ∧ ∃ (dom : D → Prop) (p : D → Bool), (∀ x, dom x → tb (some (.d x) :: capsD τ idx) fun s => s = .d (.bl (p x))) ∧ ∀ a, sp a dom p [.d d, .d (.ref a)] R NoU) I ⟨B, z, τ, _, r, ht1, fun s2 v2 q2 e2 i2 f2 h2 => ?_⟩) fun u1 s1 ⟨v1, H1, I1, rv1, z1, d, e1, i1, dom, p, hdom, hsp⟩ => ?_)
  · obtain ⟨dom, p, hdom, h3⟩ := h2
    obtain ⟨d, rfl, h4⟩ := dd_inv h3
    exact ⟨q2.z, d, e2, i2, dom, p, hdom, h4⟩
  have hs2 : starEach [Expr.Lambda params body scope lp] X.env = (false, eval (.Lambda params body scope lp) X.env) :: starEach [] X.env := starE rfl
  rw [hs2]
  refine Calls.spliced_cons (lam_make I1 ht hp hcode hdef ecl fun a c' H2 s2 fo oc fs nm qual tq pm ctv I2 sm ha hfo hc hoc hfs => ?_)
  refine Calls.spliced_nil ⟨I2.kIn, ?_⟩
  have e12 : Ext ⟨H, z⟩ ⟨H2, z1⟩ := e1.trans (Ext.grow e1.sub sm)
  have r2 : Rep X B τ σ ⟨H2, z1⟩ := r.mono e12
  have hL := lam_ok O hfn I2 hcl hcl2 ha hfo hc hoc hfs hco hgen hbind hb r2 hdom
  have i1' : Is X.K z1 v1 d := i1
  have hl : [u1, Value.ref a].length = ps.length := F.len a dom p _ _ _ (hsp a)
  have rvs : Vals [v1, V.ref a] [u1, Value.ref a] := .cons rv1 (.cons rfl .nil)
  refine wpAny_call (codeAny_mono (F.run X.A X.stack s2 H2 ⟨[u1, .ref a], []⟩ [u1, .ref a] [v1, .ref a] Q (fun _ _ _ => False) a dom p hr I2.env0 ?_ rvs hL ⟨z1, [.d d, .d (.ref a)], R, NoU, e12.sub, ⟨rfl, fun i v s h1 h2 => ?_⟩, hsp a, fun s v q3 e3 i3 f3 h3 => q s v q3 (e12.trans e3) i3 (fr_up e12 f3) h3, fun _ _ _ _ _ z => z.elim⟩) fun rr s3 hq => ?_)
  · have := hbi s2 [u1, .ref a] I2.kIn (by simpa using hl)
    simpa using this
  · match i, h1, h2 with
    | 0, h1, h2 => cases h1; cases h2; exact ⟨i1', rfl⟩
    | 1, h1, h2 => cases h1; cases h2; exact ⟨Is.ref a, rfl⟩
  cases rr with
  | error e => exact (show False from hq).elim
  | ok fl =>
    cases fl with
    | ret u => exact I2.after hq
    | next => exact False.elim hq
    | brk => exact False.elim hq
    | cont => exact False.elim hq
end

theorem tab_code {K : PySem.W.Frag} {x : Str} {c T f : Addr} {oc : Value} {od : Option Addr} {fd : FuncData} {osl : Array (Option Value)} (ht : PySem.W.tabIn K x = some (c, T)) (hn : PySem.W.nsIn K mainGlobals x = some (some (.ref f))) (lk : K.lookup f = some ⟨oc, od, .func fd, osl⟩) : fd.code = .ref c := by
  unfold PySem.W.tabIn at ht
  rw [hn] at ht
  dsimp only at ht
  rw [lk] at ht
  dsimp only at ht
  split at ht
  · rename_i c2 hc
    split at ht
    · split at ht
      · cases ht; exact hc
      · cases ht
    · cases ht
  · cases ht
section
variable {P : Program} {w : World} {K : PySem.W.Frag} {mg : Str → Option Value} {base : Heap}
/-- a def that may refuse and makes lambdas -/
theorem fnUT {x qual : Str} {st : Stmt} {f c T : Addr} {fd : FuncData} {N ps : List Str} {k : Nat} {sp : Sp3} (ht : PySem.W.tabIn K x = some (c, T)) (hn : PySem.W.nsIn K mainGlobals x = some (some (.ref f))) (F : Fun K x qual st f fd) (Sc : FnScope N ps (defScope st)) (len : ∀ ss R U, sp ss R U → ss.length = ps.length)
    (hbody : ∀ (cdv : Value) (A : Around) (outer : List Env) (s : Shared) (H : Hp) (E : XK) (ss : List S) (R : S → Prop) (U : Str → Prop), cdv = .ref c → Room k (A.deeper (envOfC qual (defScope st) s.heap.objs.size f cdv)) → sp ss R U →
      ExOk (cxOf (CXU P w) P w K mg base N qual (defScope st) f cdv A outer s H E) U →
      ∃ t, PSs3 (cxOf (CXU P w) P w K mg base N qual (defScope st) f cdv A outer s H E) (defBody st) t ∧ t { nx := fun _ => R (.d .non), rt := R } (start3 N ss)) : FnOk P w K mg base (CXU P w) (k + 1) f fd ps (liftSp K mg sp) := by
  obtain ⟨oc, od, kV, doc, pm, an, cdv, ct, osl, rfl, lk, hcd⟩ := F.ex
  have ec : cdv = .ref c := tab_code ht hn lk
  refine fn_of lk hcd Sc (fun vs H Q E hh => by obtain ⟨z, ss, R, U, hz, ha, h3, _⟩ := hh; exact ha.1.trans (len ss R U h3)) fun A outer s H vs Q E hr hh9 => ?_
  obtain ⟨z, ss, R, U, hz, ha, h3, q, qe⟩ := hh9
  obtain ⟨t, ht, hq⟩ := hbody cdv A outer s H E ss R U ec hr h3 (exok_cx qe)
  exact ⟨_, ht.out, ⟨H, z⟩, z, start3 N ss, _, rep_start ha hz (Same.refl H), hq, ⟨fun τ σ p r h => q (.d .non) _ p r.ext Is.non fr_d h, fun _ _ _ _ z => z.elim, fun _ _ _ _ z => z.elim, fun s v p e i f h => q s v p e i f h⟩⟩
end
theorem consE {us : List Value} {n : Nat} (h : us.length = n + 1) : ∃ x r, us = x :: r ∧ r.length = n := by
  cases us with
  | nil => cases h
  | cons x r => exact ⟨x, r, rfl, Nat.succ.inj h⟩
theorem lenE1 {us : List Value} (h : us.length = 1) : ∃ x0, us = [x0] := by
  obtain ⟨x0, r0, e0, h0⟩ := consE h
  have e := List.eq_nil_of_length_eq_zero h0
  exact ⟨x0, by rw [e0, e]⟩
theorem lenE2 {us : List Value} (h : us.length = 2) : ∃ x0 x1, us = [x0, x1] := by
  obtain ⟨x0, r0, e0, h0⟩ := consE h
  obtain ⟨x1, r1, e1, h1⟩ := consE h0
  have e := List.eq_nil_of_length_eq_zero h1
  exact ⟨x0, x1, by rw [e0, e1, e]⟩
theorem lenE3 {us : List Value} (h : us.length = 3) : ∃ x0 x1 x2, us = [x0, x1, x2] := by
  obtain ⟨x0, r0, e0, h0⟩ := consE h
  obtain ⟨x1, r1, e1, h1⟩ := consE h0
  obtain ⟨x2, r2, e2, h2⟩ := consE h1
  have e := List.eq_nil_of_length_eq_zero h2
  exact ⟨x0, x1, x2, by rw [e0, e1, e2, e]⟩
theorem lenE4 {us : List Value} (h : us.length = 4) : ∃ x0 x1 x2 x3, us = [x0, x1, x2, x3] := by
  obtain ⟨x0, r0, e0, h0⟩ := consE h
  obtain ⟨x1, r1, e1, h1⟩ := consE h0
  obtain ⟨x2, r2, e2, h2⟩ := consE h1
  obtain ⟨x3, r3, e3, h3⟩ := consE h2
  have e := List.eq_nil_of_length_eq_zero h3
  exact ⟨x0, x1, x2, x3, by rw [e0, e1, e2, e3, e]⟩
/-! ### the head -/
open Classical in
theorem law_callT {P q : Program} {loose : List Str} {mean : ExcName → Option Value} {w : World} {K : PySem.W.Frag} {mg mb : Str → Option Value} {k : Nat} {fa a : Addr} {fd : FuncData} {x : Str} {s₁ : Shared} {vs : List Value} {ns : List Int}
    (T : Top q loose mean mg mb s₁.heap) (hq : ∀ y : Str, (recsOf P).any (fun d => d.name == y) = true → (recsOf q).any (fun d => d.name == y) = true) (hnt : PySem.W.noTabs K = true) (KX : K.In s₁.heap) (hg : s₁.gens = #[])
    (ha : s₁.heap.get? a = some { cls := .type "list", data := .seq vs.toArray }) (hi : IntsAre vs ns) (hl : ns.length ≤ 63) (hr : Room k callerA)
    (F : ∀ base : Heap, K.In base → base.Ns mainGlobals mg → ∃ mg', FnOk P w K mg base CX0 k fa fd [x] (liftSp K mg' spLaw3)) (hbind : ∀ (s : Shared) (u : Value), BindsTo s fd ⟨[u], []⟩ [(x, u)]) :
    codeAny (model P w) callerA (.call (.ref fa) ⟨[.ref a], []⟩) (fun r s' => r = .ok (.ret (.bool true)) ∧ OldK s₁.heap s'.heap ∧ s'.os = s₁.os ∧ AllBare s'.gens) s₁ := by
  have rv := vals_ints hi
  have lenV := hi.length
  have sz : (63 : Nat) ≤ sizeLine := by decide
  let IsT : Addr → Prop := fun b => ∃ y c, PySem.W.tabIn K y = some (c, b) ∧ (recsOf P).any (fun d => d.name == y) = true
  have tabs : ∀ {y : Str} {c b : Addr}, PySem.W.tabIn K y = some (c, b) → (recsOf P).any (fun d => d.name == y) = true → PySem.W.CodeHd s₁.heap c b ∧ s₁.heap.get? b = some (PySem.W.tabObj #[]) := fun {y c b} h1 h2 => by
    have h3 := hq y h2
    cases e : (recsOf q).find? (fun d => d.name == y) with
    | some d => exact PySem.W.tab_of T KX e h1
    | none =>
      obtain ⟨d, hd, hn⟩ := List.any_eq_true.mp h3
      exact absurd hn (List.find?_eq_none.mp e d hd)
  have tabG : ∀ {b : Addr}, IsT b → s₁.heap.get? b = some (PySem.W.tabObj #[]) := fun ⟨_, _, h1, h2⟩ => (tabs h1 h2).2
  let H : Hp := fun b => if b = a ∧ K.lookup a = none then some (.frz { cls := .type "list", data := .seq vs.toArray } (.lst (ns.map V.int))) else if IsT b then some (.tbl #[]) else none
  have Ha : K.lookup a = none → H a = some (.frz { cls := .type "list", data := .seq vs.toArray } (.lst (ns.map V.int))) := fun h => if_pos ⟨rfl, h⟩
  have neT : ∀ {b : Addr}, IsT b → b ≠ a := fun t z => by
    have := tabG t
    rw [z, ha] at this
    cases this
  have Ht : ∀ {b : Addr}, IsT b → H b = some (.tbl #[]) := fun {b} t => (if_neg (fun z => neT t z.1)).trans (if_pos t)
  have Hn : ∀ {b : Addr}, ¬ (b = a ∧ K.lookup a = none) → ¬ IsT b → H b = none := fun {b} h1 h2 => (if_neg h1).trans (if_neg h2)
  have three : ∀ b, H b = none ∨ (b = a ∧ K.lookup a = none) ∨ IsT b := fun b => by
    by_cases h1 : b = a ∧ K.lookup a = none
    · exact .inr (.inl h1)
    · by_cases h2 : IsT b
      · exact .inr (.inr h2)
      · exact .inl (Hn h1 h2)
  have free_of : ∀ {b : Addr} {o : Obj}, s₁.heap.get? b = some o → (∀ xs n, o.data ≠ .seq xs n) → o ≠ PySem.W.tabObj #[] → H b = none := fun {b o} e h1 h2 => by
    refine Hn (fun z => ?_) (fun z => ?_)
    · rw [z.1, ha] at e
      cases e
      exact h1 _ _ rfl
    · have := tabG z
      rw [e] at this
      exact h2 (Option.some.inj this)
  have hok : HOk P w H s₁.heap := fun b u e => by
    rcases three b with z | z | z
    · rw [z] at e; cases e
    · obtain ⟨rfl, z⟩ := z
      rw [Ha z] at e
      cases e
      exact ⟨ha, by rw [List.length_map]; exact Nat.le_trans hl sz, vs, _, rv, ha⟩
    · rw [Ht z] at e
      cases e
      exact ⟨#[], tabG z, trivial, fun pos cv z => by cases z⟩
  have base_of : ∀ {b : Addr} {o : Obj}, s₁.heap.get? b = some o → H b = none → (hidT s₁.heap H).get? b = some o := fun e n => hidT_get e n
  have nsK : ∀ {b : Addr} {m : Str → Option Value}, s₁.heap.Ns b m → (hidT s₁.heap H).Ns b m := fun {b m} ⟨o, es, ep, e, d, r⟩ => ⟨o, es, ep, base_of e (free_of e (fun xs n z => by rw [d] at z; cases z) (fun z => by rw [z] at d; cases d)), d, r⟩
  have hKb : K.In (hidT s₁.heap H) := fun b o e => base_of (KX b o e) (Hn (fun z => by rw [z.1, z.2] at e; cases e) (fun z => by
    have h1 := tabG z
    rw [KX b o e] at h1
    have h2 := List.all_eq_true.mp hnt (b, o) (PySem.W.mem_of_lookupK e)
    rw [Option.some.inj h1] at h2
    exact absurd (show false = true from h2) Bool.false_ne_true))
  have hM : Mod K mg (hidT s₁.heap H) := ⟨hKb, nsK T.g, ⟨mb, nsK T.b, T.builtins⟩, let ⟨mc, h1, h2⟩ := T.nolimit; ⟨mc, nsK h1, h2⟩⟩
  have hTB : TB P K mg (hidT s₁.heap H) H := by
    refine ⟨?_, fun y c b h1 h2 => ⟨?_, #[], Ht ⟨y, c, h1, h2⟩⟩⟩
    · obtain ⟨bm, ob, b1, b2, b3, b4, b5, b6⟩ := T.bmain
      exact ⟨bm, ob, b1, b2, base_of b3 (free_of b3 (fun xs n z => by rw [b6] at z; cases z) (fun z => by rw [z] at b4; cases b4)), b4, b5, b6⟩
    · obtain ⟨o, fs, file, tf, flags, tg, inF, text, tt, g1, g2, g3, g4⟩ := (tabs h1 h2).1
      exact ⟨o, fs, file, tf, flags, tg, inF, text, tt, base_of g1 (free_of g1 (fun xs n z => by rw [g3] at z; cases z) (fun z => by rw [z] at g2; cases g2)), g2, g3, g4⟩
  have e0 : Env0 P w K mg (hidT s₁.heap H) callerA [] s₁ H := ⟨rfl, hM, fun b o e => of_hidT e, Nat.le_of_eq (hidT_size _ _), trivial, fun b hb => absurd (show b ∈ ([] : List Addr) from hb) (by simp), hok, .of_eq hg, hTB⟩
  have hS : SqL K H a (ns.map V.int) := by
    cases hk : K.lookup a with
    | some o =>
      have e := KX a o hk
      rw [ha] at e
      cases e
      exact .inr ⟨_, vs.toArray, _, hk, rfl, rfl, rfl, by rw [List.size_toArray, lenV]; exact Nat.le_trans hl sz, by simpa using rv⟩
    | none => exact .inl (.inr ⟨_, Ha hk⟩)
  obtain ⟨mg', FF⟩ := F _ hKb (nsK T.g)
  refine codeAny_mono (FF.run callerA [] s₁ H ⟨[.ref a], []⟩ [.ref a] [.ref a] (fun v _ => v = .bl true) (fun _ _ _ => False) hr e0 (hbind s₁ (.ref a)) (.cons rfl .nil) ⟨H, [.r (ns.map D.int)], fun s => s = .d (.bl true), NoU, Same.refl H, ⟨rfl, fun i v s h1 h2 => ?_⟩, ⟨ns, rfl, hl, rfl⟩, fun s v q _ i _ e => ?_, fun _ _ _ _ _ z => z.elim⟩) fun r s' h => ?_
  · cases i with
    | zero =>
      cases h1
      cases h2
      exact ⟨⟨a, _, rfl, hS, iss_ints ns⟩, rfl⟩
    | succ i => cases h1
  · subst e
    exact Is.bl_inv i
  cases r with
  | error e => exact (show False from h).elim
  | ok fl =>
    cases fl with
    | next => exact False.elim h
    | brk => exact False.elim h
    | cont => exact False.elim h
    | ret u =>
      obtain ⟨v, H', os, bare, un, hok', r', g⟩ := h
      have g' : v = .bl true := g
      subst g'
      obtain rfl : u = Value.bool true := r'
      refine ⟨rfl, ⟨fun b o e => ?_, fun b o e => un.there b o e (by simp)⟩, os, bare⟩
      rcases three b with z | z | z
      · exact .inl (un.keep b o e z (by intro z; exact absurd (show b ∈ ([] : List Addr) from z) (by simp)) (by simp))
      · obtain ⟨rfl, z⟩ := z
        obtain ⟨e2, _⟩ := hok' b _ (un.frzs b _ _ (Ha z))
        rw [ha] at e
        cases e
        exact .inl e2
      · have e1 := tabG z
        obtain ⟨y, c, h1, h2⟩ := id z
        rw [e] at e1
        cases e1
        obtain ⟨more, e3⟩ := un.tbls b _ (Ht z)
        obtain ⟨tab, e4, _⟩ := (show TabOk H' s'.heap b from hok' b _ e3)
        exact .inr (.inl ⟨((tabs h1 h2).1.tab (tabs h1 h2).2).isCodeTable, rfl, #[], tab, rfl, by rw [e4]; simp⟩)
theorem walk3 {l : PySem.W.OpenLaw} {k : Nat} {q : Program} {loose : List Str} {XP : (Str → Option Value) → Heap → Prop} {YP : World → Heap → Prop} {d : DefRec} {K : Params → PySem.W.Frag} {x : Str} (hn : l.most = some 63) (hdf : d.params.defaults = []) (hr : Room k callerA)
    (hq : ∀ y : Str, (recsOf l.prog).any (fun d => d.name == y) = true → (recsOf q).any (fun d => d.name == y) = true)
    (hY : ∀ (w : World) (h : Heap), YP w h → (K w.params).In h) (hnt : ∀ w : World, PySem.W.noTabs (K w.params) = true)
    (F : ∀ (w : World) (mg : Str → Option Value) (fa : Addr) (h : Heap), (K w.params).In h → h.Ns mainGlobals mg → mg d.name = some (.ref fa) →
      ∃ fd : FuncData, (∀ (s : Shared) (u : Value), BindsTo s fd ⟨[u], []⟩ [(x, u)]) ∧ ∀ base : Heap, (K w.params).In base → base.Ns mainGlobals mg → ∃ mg', FnOk l.prog w (K w.params) mg base CX0 k fa fd [x] (liftSp (K w.params) mg' spLaw3)) :
    PySem.W.WalkO q loose XP YP l.row.toRowW d [] (fun f vs => PySem.call f vs) := by
  refine Att.attach_call hn hdf fun w s₀ s₁ mg mb fa o pm cd doc a vs ns G Y ho hd hcd hmg hobj hints hlen hg => ?_
  have KX := hY w _ Y
  obtain ⟨fd, hb, hF⟩ := F w mg fa _ KX G.T.g hmg
  exact law_callT G.T hq (hnt w) KX hg hobj hints hlen hr hF hb
end L3
namespace L3
open PySem PySem.Spec PyProof.Rows L2
section
variable {X : Cx} {e a b : Expr} {te ta tb : TE3} {pos : Pos}
/-- NAME += e, whole numbers -/
def sAug (i : Nat) (te : TE3) : TS3 := fun D3 τ => match τ[i]? with
  | some (some (S.d (D.int n))) => te τ fun s => dd s fun d => match d with
    | .int j => D3.nx (τ.set i (some (.d (.int (n + j)))))
    | _ => False
  | _ => False
theorem s_augA {i : Nat} {x : Str} {px : Pos} (hN : X.N.Nodup) (hi : X.N[i]? = some x) (hx : Loc X.env.scope x) (he : PE3 X e te) (hf : X.fn x = true ∨ X.env.scope.names.lookup x = some .local := by first | exact .inl rfl | exact .inr rfl | assumption) (hp : PinOk X i := by first | exact pin_no rfl | exact pin_ne rfl (by decide) | assumption) :
    PS3 X (.AugAssign (.Name x px) .Add e pos) (sAug i te) := ⟨ps_imp (ps_aug hN hi hx he.out ip_add hf) fun D2 σ H hh => by
    obtain ⟨B, z, τ, D3, r, ht, c⟩ := hh
    unfold sAug at ht
    split at ht
    · rename_i n hs
      obtain ⟨v, h1, h2⟩ := r.val i _ hs
      have ev : v = .int n := Is.int_inv h2
      subst ev
      refine ⟨.int n, h1, B, _, τ, _, r, ht, fun s v q1 e1 i1 f1 h3 => ?_⟩
      obtain ⟨d, rfl, h4⟩ := dd_inv h3
      split at h4
      · rename_i j
        have ev : v = .int j := Is.int_inv i1
        subst ev
        refine ⟨n, j, rfl, rfl, ?_⟩
        exact c.nx _ _ _ ((r.mono e1).setd (.int (n + j)) hp) h4
      · exact h4.elim
    · exact ht.elim⟩
/-- an operator over values that may be fresh lists: they become data -/
def vOpA (r3 : R3) (ta tb : TE3) : TE3 := fun τ R => ta τ fun x => tb τ fun y => dd x.arg fun dx => dd y.arg fun dy => r3 dx dy fun d => R (.d d)
theorem v_opA {op : Operator} {r3 : R3} (ho : OpR3 X (binaryOp op) r3) (ha : PE3 X a ta) (hb : PE3 X b tb) : PE3 X (.BinOp a op b pos) (vOpA r3 ta tb) := ⟨pe_imp (pe_op ho ha.out hb.out) fun σ H Q hh => by
    obtain ⟨B, z, τ, R, r, ht, q⟩ := hh
    refine ⟨B, z, τ, _, r, ht, fun s v q1 e1 i1 f1 h1 => ?_⟩
    obtain ⟨z1, e1', i1'⟩ := arg_ext e1 i1 f1
    refine ⟨B, z1, τ, _, r.mono e1', h1, fun s2 v2 q2 e2 i2 f2 h2 => ?_⟩
    obtain ⟨z2, e2', i2'⟩ := arg_ext e2 i2 f2
    obtain ⟨dx, ex, h2⟩ := dd_inv h2
    obtain ⟨dy, ey, h2⟩ := dd_inv h2
    rw [ex] at i1'
    rw [ey] at i2'
    refine ⟨z2, dx, dy, _, e2'.sub, (show Is X.K z1 v dx from i1').mono e2'.zz, i2', h2, fun d w q3 e3 i3 h3 => ?_⟩
    exact q (.d d) w q3 (e1'.trans (e2'.trans e3)) i3 fr_d h3⟩
end
end L3
namespace L3
open PySem PySem.Spec PyProof.Rows L2
/-! ### for i, x in enumerate(..) -/
def Ite (K : PySem.W.Frag) (a : Addr) : It :=
  ⟨fun i H => ∃ xs x, SqL K H a xs ∧ xs[i]? = some x, fun i H x H' => ∃ p y, H p = none ∧ x = .ref p ∧ (∀ xs, SqL K H a xs → xs[i]? = some y) ∧ H' = upd H p (.tup [.int i, y]), fun i H => ∃ xs, SqL K H a xs ∧ xs.length ≤ i⟩
theorem turn_enum {P : Program} {w : World} {K : PySem.W.Frag} {elts : List Expr} {x1 : Nat} {tpos : Pos} (a e it : Addr) (hne : e ≠ it) : Turn P w K (.Tuple elts x1 tpos) (Ite K a) [e, it] e (fun i h => (∃ old, IsEnum h e it ((i : Nat) : Int) old) ∧ h.IsListIter it a i) where
  mem := by simp
  obj := fun i h st b hb => by
    obtain ⟨⟨old, he⟩, hi⟩ := st
    rcases List.mem_cons.mp hb with rfl | hb
    · exact ⟨_, he, fun v z => by cases z⟩
    · have : b = it := by simpa using hb
      subst this
      obtain ⟨o, e1, c, d⟩ := hi
      exact ⟨o, e1, fun v z => by rw [d] at z; cases z⟩
  keep := fun i h h' st k => ⟨let ⟨old, he⟩ := st.1; ⟨old, k e (by simp) _ he⟩, st.2.at fun o e1 => k it (by simp) o e1⟩
  item := by
    intro X hP hw hK hc i pins s σ H E I hf st hg
    subst hP hw hK
    obtain ⟨xs, x, hq, hx⟩ := hg
    obtain ⟨its, rv, p, hz⟩ := I.list hq
    obtain ⟨u, hu, ru⟩ := rv.get hx
    obtain ⟨⟨old, he⟩, hi⟩ := st
    obtain ⟨f0, f1, f2, f3, f4, f5⟩ := hf e (by simp)
    obtain ⟨g0, g1, g2, g3, g4, g5⟩ := hf it (by simp)
    refine wpAny_pyNext_enum_item he hi p.isList (x := u) (by simpa using hu) hne fun h1 heo hit1 ht1 hz1 hk1 => ⟨_, rfl, wpAny_letOwnedTupleGo_enum (s := { s with heap := h1, toks := s.toks + 1 }) heo fun h2 he2 hs2 => ?_⟩
    have hs2' : Heap.SameBut e h1 h2 := hs2
    have el : e < s.heap.objs.size := Heap.lt_size he
    have sz : s.heap.objs.size ≠ e := Nat.ne_of_gt el
    have hn : H s.heap.objs.size = none := I.hok.fresh (Nat.le_refl _)
    have old2 : ∀ b o, b ≠ e → b ≠ it → s.heap.get? b = some o → h2.get? b = some o := fun b o n1 n2 z => (hs2'.2 b n1).trans (hk1 b o n1 n2 z)
    have tup2 : h2.get? s.heap.objs.size = some { cls := .type "tuple", data := .seq #[.int i s.toks, u] } := (hs2'.2 _ sz).trans ht1
    have trk : ∀ {b : Addr} {o : HO}, H b = some o → b ≠ e ∧ b ≠ it := fun {b o} z => ⟨(fun y => by rw [y, f0] at z; cases z), (fun y => by rw [y, g0] at z; cases z)⟩
    have hok2 : HOk X.prog X.w (upd H s.heap.objs.size (.tup [.int i, x])) h2 := fun b o z => by
      by_cases hb : b = s.heap.objs.size
      · subst hb
        rw [upd_same] at z
        cases z
        exact ⟨by show 2 ≤ sizeLine; decide, [.int i s.toks, u], .cons ⟨_, rfl⟩ (.cons ru .nil), ⟨_, tup2, rfl, _, rfl⟩⟩
      · rw [upd_ne hb] at z
        refine (I.hok b o z).stay (hf := fun c w1 w2 y => by rw [upd_ne (ne_of_none y hn)]; exact y) (fun c v hc' y => ?_) (fun c y => by rw [upd_ne (ne_of_none y hn)]; exact y) fun c ys y => by rw [upd_ne (ne_of_none y hn)]; exact y
        have t : c ≠ e ∧ c ≠ it := by
          rcases hc' with rfl | hc'
          · exact trk z
          · exact trk hc'
        exact old2 c v t.1 t.2 y
    have I2 : Inv X pins σ (upd H s.heap.objs.size (.tup [.int i, x])) { s with heap := h2, toks := s.toks + 1 } := by
      refine I.step (g' := s.gens) (d' := s.drawn) (ch := [e, it]) (fun b hb => ?_) (fun b o _ _ hb z _ => old2 b o (fun y => hb (by simp [y])) (fun y => hb (by simp [y])) z) (fun b o _ _ hb z _ => ⟨o.slots, old2 b o (fun y => hb (by simp [y])) (fun y => hb (by simp [y])) z⟩)
        (fun b o _ z n => by rw [upd_ne (Nat.ne_of_lt (Heap.lt_size z))]; exact n) (fun b o hb z => ⟨o, old2 b o (fun y => hb (by simp [y])) (fun y => hb (by simp [y])) z⟩)
        (fun b ys y => by rw [upd_ne (ne_of_none y hn)]; exact y) (fun b o ys y => by rw [upd_ne (ne_of_none y hn)]; exact y) (fun b ps y => ⟨#[], by rw [upd_ne (ne_of_none y hn), y]; simp⟩) (fun m hm => ?_) hok2 I.bare
      · rcases List.mem_cons.mp hb with rfl | hb
        · exact ⟨f3, f1, f4, f5⟩
        · have : b = it := by simpa using hb
          subst this
          exact ⟨g3, g1, g4, g5⟩
      · obtain ⟨o, es, ep, ho, r⟩ := hm
        exact ⟨o, es, ep, old2 _ o (Ne.symm f1) (Ne.symm g1) ho, r⟩
    refine ⟨.ref s.heap.objs.size, _, I2, rfl, ⟨_, x, hn, rfl, fun ys hy => by rw [I.list_inj hy hq]; exact hx, rfl⟩, ⟨⟨u, ?_⟩, hit1.extBut hs2'.extBut (Ne.symm hne)⟩, fun b hb => ?_⟩
    · have : ((i + 1 : Nat) : Int) = (i : Int) + 1 := by omega
      rw [this]
      exact he2
    · rcases List.mem_cons.mp hb with rfl | hb
      · rw [upd_ne (Ne.symm sz)]; exact f0
      · have : b = it := by simpa using hb
        subst this
        obtain ⟨o, e1, _⟩ := hi
        rw [upd_ne (Nat.ne_of_lt (Heap.lt_size e1))]
        exact g0
  done := by
    intro X hP hw hK hc i pins s σ H E I hf st hg
    subst hP hw hK
    obtain ⟨xs, hq, hx⟩ := hg
    obtain ⟨its, rv, p, hz⟩ := I.list hq
    obtain ⟨⟨old, he⟩, hi⟩ := st
    obtain ⟨g0, g1, g2, g3, g4, g5⟩ := hf it (by simp)
    refine wpAny_pyNext_enum_end (I.ok.hd hc) he hi p.isList (by rw [List.getElem?_toArray]; rw [List.getElem?_eq_none_iff, ← rv.length]; exact hx) fun h' hx' => ⟨rfl, ?_⟩
    exact I.turned (t' := s.toks) (fun b o hb z => hx' b o hb z) g0 g1 g3 g4 g5
  self := fun A i s Q E st h => by
    obtain ⟨⟨old, he⟩, _⟩ := st
    exact wpAny_pyIter_enum he h
section
variable {X : Cx} {pos : Pos}
def iEnum (K : PySem.W.Frag) (tl : TE) : TI := fun σ H R => tl σ H fun x H1 => ∃ a, x = .ref a ∧ (∃ xs, Rd H1 a (.lst xs)) ∧ R (Ite K a) H1
theorem pi_enum {elts : List Expr} {x1 : Nat} {tpos p : Pos} {l : Expr} {tl : TE} (hg : Gl X "enumerate") (hm : X.mg "enumerate" = none) (hl : PE X l tl) (hs : starEach [l] X.env = [(false, eval l X.env)] := by rfl) : PI X (.Tuple elts x1 tpos) (.Call (.Name "enumerate" p) [l] [] pos) (iEnum X.K tl) := by
  intro pins s σ H R I h
  refine Call_ (ld_blt I hg hm PyProof.Rows.boot_enumerate (PyProof.Rows.callWith_type1 ?_ hs rfl))
  rw [hs]
  refine Calls.spliced_cons (thn (hl pins s σ H _ I h) fun v s1 ⟨x, H1, I1, r1, q1⟩ => Calls.spliced_nil ?_)
  obtain ⟨a, e, ⟨xs, hq⟩, q⟩ := q1
  subst e
  cases r1
  obtain ⟨_, its, n, rv, ho⟩ := hq.ok I1.hok
  refine call_enumerate_1 (items := its.toArray) (n := n) ho fun h' he hit hz old => ?_
  have I2 : Inv X pins σ H1 { s1 with heap := h' } := I1.kept (t' := s1.toks) old
  refine wpAny_pyIter_enum (s := { s1 with heap := h' }) he ?_
  refine ⟨s1.heap.objs.size + 1, [s1.heap.objs.size + 1, s1.heap.objs.size], _, _, H1, rfl, I2, turn_enum a (s1.heap.objs.size + 1) s1.heap.objs.size (Nat.succ_ne_self _), ⟨⟨_, he⟩, hit⟩, fun b hb => ?_, q⟩
  rcases List.mem_cons.mp hb with rfl | hb
  · exact I1.fpOk (Nat.le_succ _) (I1.hok.fresh (Nat.le_succ _))
  · have : b = s1.heap.objs.size := by simpa using hb
    subst this
    exact I1.fpOk (Nat.le_refl _) (I1.hok.fresh (Nat.le_refl _))
/-- the turns: the number and the thing are stored -/
def sTurnE (i1 i2 : Nat) (xs : List D) (tb : TS3) (D3 : Ends3) (τ0 : Tau) : Prop := ∃ I : Nat → Tau → Prop, I 0 τ0 ∧
  (∀ n τ x, xs[n]? = some x → I n τ → tb { D3 with nx := I (n + 1), ct := I (n + 1), bk := D3.nx } ((τ.set i1 (some (.d (.int n)))).set i2 (some (.d x)))) ∧ ∀ τ, I xs.length τ → D3.nx τ
def sForU (j i1 i2 : Nat) (tb : TS3) : TS3 := fun D3 τ => match τ[j]? with
  | some (some (.l xs)) => sTurnE i1 i2 xs tb D3 (τ.set j (some (.r xs)))
  | _ => False
theorem s_forU {j i1 i2 : Nat} {x1 x2 y : Str} {p1 p2 pt py pn pc : Pos} {kt : Nat} {body : List Stmt} {tb : TS3}
    (h : PS X (.For (.Tuple [.Name x1 p1, .Name x2 p2] kt pt) (.Call (.Name "enumerate" pn) [.Name y py] [] pc) body [] pos) (tFor (iEnum X.K (tVar j)) (gTup X.K 2 (gCons (gName i1) (gCons (gName i2) gNil))) (FS X tb))) (hp1 : PinOk X i1 := by first | exact pin_no rfl | exact pin_ne rfl (by decide) | assumption) (hp2 : PinOk X i2 := by first | exact pin_no rfl | exact pin_ne rfl (by decide) | assumption) :
    PS3 X (.For (.Tuple [.Name x1 p1, .Name x2 p2] kt pt) (.Call (.Name "enumerate" pn) [.Name y py] [] pc) body [] pos) (sForU j i1 i2 tb) := ⟨ps_imp h fun D2 σ H hh => by
    obtain ⟨B, z, τ, D3, r, ht, c⟩ := hh
    unfold sForU at ht
    split at ht
    · rename_i xs hs
      obtain ⟨v, h1, a, vs, rfl, h3, h4⟩ := r.val j _ hs
      have r' := r.freeze hs rfl
      obtain ⟨I, i0, turn, out⟩ := ht
      have hno : ∀ (m : Nat) (ys : List D), (τ.set j (some (.r xs)))[m]? = some (some (S.l ys)) → σ[m]? ≠ some (some (V.ref a)) := fun m ys hm hσ => by
        rcases set_get hm with ⟨rfl, z⟩ | ⟨hn, hm'⟩
        · cases z
        · have hl : j < τ.length := (List.getElem?_eq_some_iff.mp hs).1
          exact r'.sep m j ys (.r xs) a hn hm (by rw [List.getElem?_set_self hl]) rfl hσ h1
      have hB : SqL X.K (cutB (τ.set j (some (.r xs))) σ H) a vs := .inl (.inl (by rw [cutB_not hno]; exact h3))
      refine ⟨.ref a, h1, a, rfl, ⟨vs, .inl h3⟩, fun n m σ1 H1 => m = vs.length - n ∧ n ≤ vs.length ∧ ∃ z1 τ1, Rep X ⟨cutB (τ.set j (some (.r xs))) σ H, z⟩ τ1 σ1 ⟨H1, z1⟩ ∧ I n τ1, ⟨vs.length, by simp, Nat.zero_le _, z, _, r'.inB, i0⟩, ?_⟩
      rintro n m σ1 H1 ⟨rfl, hn, z1, τ1, r1, ih1⟩
      have q := r1.ext.hh.seq hB
      by_cases hlt : n < vs.length
      · refine .inr ⟨⟨vs, vs[n], q, by simp [hlt]⟩, fun σ' H' => ∃ z' τ', Rep X ⟨cutB (τ.set j (some (.r xs))) σ H, z⟩ τ' σ' ⟨H', z'⟩ ∧ I (n + 1) τ', fun σ' H' p' => ⟨vs.length - (n + 1), by omega, rfl, hlt, p'⟩, fun x H' y => ?_⟩
        obtain ⟨p, w, hp, rfl, hy, rfl⟩ := y
        have hw := hy vs q
        obtain ⟨d, hd, id⟩ := iss_item h4 hw
        have e1 : Ext ⟨H1, z1⟩ ⟨upd H1 p (.tup [.int n, w]), z1⟩ := Ext.own r1.ext.sub hp _
        have r2 := r1.mono e1
        refine ⟨p, [.int n, w], rfl, .inl (.inl upd_same), rfl, .int n, [w], rfl, w, [], rfl, rfl, ?_⟩
        exact ⟨_, _, _, _, (r2.setd (i := i1) (.int (n : Int)) hp1).setd (i := i2) (id.mono r1.ext.zz) hp2, turn n τ1 d hd ih1, c.inB r'.leB fun τ' σ' p' r' h' => ⟨p'.z, τ', r', h'⟩⟩
      · have e : n = vs.length := by omega
        subst e
        exact .inl ⟨⟨vs, q, Nat.le_refl _⟩, c.nx _ _ _ (r1.outB r'.leB) (out τ1 (by rw [← h4.1]; exact ih1))⟩
    · exact ht.elim⟩
end
end L3
namespace L3
open PySem L2
section
variable {X : Cx}
theorem ints_are {ns : List Int} : ∀ {its : List Value}, Vals (ns.map V.int) its → PyProof.Rows.IntsAre its ns := by
  induction ns with
  | nil => intro its h; cases h; exact .nil
  | cons n ns ih =>
    intro its h
    cases h with
    | cons r t =>
      obtain ⟨k, rfl⟩ := r
      exact .cons n k (ih t)
theorem vals_ints {vs : List Value} {ns : List Int} (h : PyProof.Rows.IntsAre vs ns) : Vals (ns.map V.int) vs := by
  induction h with
  | nil => exact .nil
  | cons n t _ ih => exact .cons ⟨t, rfl⟩ ih
theorem are_len {vs : List Value} {ns : List Int} (h : PyProof.Rows.IntsAre vs ns) : vs.length = ns.length := by
  induction h with
  | nil => rfl
  | cons n t _ ih => rw [List.length_cons, List.length_cons, ih]
theorem sorted_end {pins : List (Addr × Obj)} {σ : St} {H : Hp} {s : Shared} {Q : VK} {its : List Value} {out : Array Value} {ns : List Int} (I : Inv X pins σ H s) (a1 : PyProof.Rows.IntsAre out.toList ns) (hl : ns.length ≤ sizeLine)
    (q : ∀ l, H l = none → Q (.ref l) (upd H l (.lst (ns.map V.int)))) : EP X pins σ Q (.ref (s.heap.objs.size + 1)) { s with heap := PyProof.Rows.sortedAll s.heap its out } := by
  obtain ⟨e, he⟩ := PyProof.Rows.sortedAll_at s.heap its out
  refine ⟨.ref (s.heap.objs.size + 1), _, I.laid (t' := s.toks) (fun b o => PyProof.Rows.sortedAll_old) (Nat.le_succ _) (show ObjOk X.prog X.w _ _ _ (.lst (ns.map V.int)) from ⟨by rw [List.length_map]; exact hl, out.toList, e, vals_ints a1, he⟩), rfl, q _ (I.hok.fresh (Nat.le_succ _))⟩
def rSorted (X : Cx) : List V → Hp → VK → Prop := fun xs H Q => ∃ p ns, xs = [.ref p] ∧ SqL X.K H p (ns.map V.int) ∧ ns.length < 64 ∧ ∀ ns' : List Int, ns'.Perm ns → ∀ l, H l = none → Q (.ref l) (upd H l (.lst (ns'.map V.int)))
theorem call_sorted : CallR X (.builtin "sorted") (rSorted X) := by
  intro pins s σ H xs us Q I r h
  obtain ⟨p, ns, rfl, hq, h64, q⟩ := h
  obtain ⟨u, rfl, rx⟩ := vals1 r
  cases rx
  obtain ⟨its, r', pl, hz⟩ := I.list hq
  have hI := ints_are r'
  refine PyProof.Rows.sorted_ints pl.isList hI (by rw [are_len hI]; exact h64) fun out ns' a1 a2 a3 => ?_
  exact sorted_end I a1 (by rw [a2.length_eq]; rw [List.length_map] at hz; exact hz) (q ns' a2)
/-- sorted(e, reverse=True) -/
theorem pe_sortR {p pos kpos : Pos} {e : Expr} {t : TA} {b : Bool} {kj : Nat} {kp : Pos} (hg : Gl X "sorted") (hm : X.mg "sorted" = none) (ha : PA X [e] t)
    (he : starEach [e] X.env = (false, eval e X.env) :: starEach [] X.env := by rfl) :
    PE X (.Call (.Name "sorted" p) [e] [⟨some "reverse", .Constant (.bool b) kj kp, kpos⟩] pos) (tCB (rSorted X) t) := by
  intro pins s σ H Q I h
  refine wpAny_Call_Name_kw (ld_blt I hg hm PyProof.Rows.boot_sorted ?_ (by decide) (by decide))
  refine PyProof.Rows.callWith_kw (thn (ha pos pins s σ H _ I h) fun us s1 ⟨vs, H1, I1, r1, q1⟩ => ?_) (by rw [he]; rfl) (by rw [he]; rfl)
  refine thn ((pk_cons pe_bl pk_nil : PK X [⟨some "reverse", .Constant (.bool b) kj kp, kpos⟩] _) pos pins s1 σ H1 (fun ws H2 => ws = [V.bl b] ∧ rSorted X vs H2 Q) I1 ⟨rfl, q1⟩) fun ws s2 ⟨zs, H2, I2, rz, ez, q1⟩ => ?_
  subst ez
  obtain ⟨w, rfl, rw⟩ := vals1 rz
  cases rw
  obtain ⟨pp, ns, rfl, hq, h64, q⟩ := q1
  obtain ⟨u, rfl, rx⟩ := vals1 r1
  cases rx
  obtain ⟨its, r', pl, hz⟩ := I2.list hq
  have hI := ints_are r'
  refine PyProof.Rows.sorted_ints_rev pl.isList hI (by rw [are_len hI]; exact h64) fun out ns' a1 a2 a3 => ?_
  exact sorted_end I2 a1 (by rw [a2.length_eq]; rw [List.length_map] at hz; exact hz) (q ns' a2)
theorem ints_iss {K : PySem.W.Frag} {H : Hp} {vs : List V} {ns : List Int} (h : Iss K H vs (ns.map D.int)) : vs = ns.map V.int := by
  refine List.ext_getElem? fun i => ?_
  have hl := h.1
  rw [List.length_map] at hl
  rw [List.getElem?_map]
  by_cases c : i < vs.length
  · have e := List.getElem?_eq_getElem c
    have e2 : ns[i]? = some ns[i] := List.getElem?_eq_getElem (by omega)
    have := h.2 i vs[i] (.int ns[i]) e (by rw [List.getElem?_map, e2]; rfl)
    rw [e, e2, Is.int_inv this]
    rfl
  · rw [List.getElem?_eq_none_iff.mpr (by omega), List.getElem?_eq_none_iff.mpr (by omega)]
    rfl
def vSorted (te : TE3) : TE3 := fun τ R => te τ fun s => match lstS s with
  | some xs => ∃ ns : List Int, xs = ns.map D.int ∧ ns.length < 64 ∧ ∀ ns' : List Int, ns'.Perm ns → R (.l (ns'.map D.int))
  | none => False
theorem v_sorted {e : Expr} {te : TE3} {p pos : Pos} (he : PE3 X e te) (hg : Gl X "sorted") (hm : X.mg "sorted" = none) (hs : starEach [e] X.env = (false, eval e X.env) :: starEach [] X.env := by exact starE rfl) : PE3 X (.Call (.Name "sorted" p) [e] [] pos) (vSorted te) :=
  ⟨pe_imp (pe_k (pe_callB call_sorted hg hm PyProof.Rows.boot_sorted (pa_cons he.out pa_nil hs) (he := hs))) fun σ H Q hh => by
    obtain ⟨B, z, τ, R, r, ht, q⟩ := hh
    exact ⟨B, z, τ, _, r, ht, fun s v q1 e1 i1 f1 h1 => by
      split at h1
      · rename_i xs hx
        obtain ⟨ns, rfl, h64, h1⟩ := h1
        obtain ⟨a, vs, rfl, g2, g1⟩ := lst_of i1 e1.sub hx
        have ev := ints_iss g2
        subst ev
        refine ⟨a, ns, rfl, g1, h64, fun ns' pm d hd hk => ?_⟩
        exact q (.l (ns'.map D.int)) _ ⟨_, q1.z⟩ (e1.trans (Ext.own e1.sub hd _)) ⟨d, ns'.map V.int, rfl, upd_same, iss_ints ns'⟩ (fun ys a _ h2 => by
          cases h2
          exact ⟨e1.hh.free hd, hk d _ upd_same, e1.sub.free hd⟩) (h1 ns' pm)
      · exact h1.elim⟩⟩
theorem v_sortedR {e : Expr} {te : TE3} {p pos kpos kp : Pos} {b : Bool} {kj : Nat} (he : PE3 X e te) (hg : Gl X "sorted") (hm : X.mg "sorted" = none) (hs : starEach [e] X.env = (false, eval e X.env) :: starEach [] X.env := by exact starE rfl) : PE3 X (.Call (.Name "sorted" p) [e] [⟨some "reverse", .Constant (.bool b) kj kp, kpos⟩] pos) (vSorted te) :=
  ⟨pe_imp (pe_k (pe_sortR hg hm (pa_cons he.out pa_nil hs) hs)) fun σ H Q hh => by
    obtain ⟨B, z, τ, R, r, ht, q⟩ := hh
    exact ⟨B, z, τ, _, r, ht, fun s v q1 e1 i1 f1 h1 => by
      split at h1
      · rename_i xs hx
        obtain ⟨ns, rfl, h64, h1⟩ := h1
        obtain ⟨a, vs, rfl, g2, g1⟩ := lst_of i1 e1.sub hx
        have ev := ints_iss g2
        subst ev
        refine ⟨a, ns, rfl, g1, h64, fun ns' pm d hd hk => ?_⟩
        exact q (.l (ns'.map D.int)) _ ⟨_, q1.z⟩ (e1.trans (Ext.own e1.sub hd _)) ⟨d, ns'.map V.int, rfl, upd_same, iss_ints ns'⟩ (fun ys a _ h2 => by
          cases h2
          exact ⟨e1.hh.free hd, hk d _ upd_same, e1.sub.free hd⟩) (h1 ns' pm)
      · exact h1.elim⟩⟩
end
end L3
namespace CH
open PySem L2 L3
/-! ### curves: corners as pairs of rationals, and the last slope -/
def qd (q : Rat) : D := .tup [.int q.num, .int (q.den : Int)]
abbrev tp (a b : Int) : D := .tup [.int a, .int b]
abbrev Cs := List (Rat × Rat)
def cd (c : Rat × Rat) : D := .tup [qd c.1, qd c.2]
def tt (cs : Cs) (k : Nat) : Rat := (cs.getD k (0, 0)).1
def vv (cs : Cs) (k : Nat) : Rat := (cs.getD k (0, 0)).2
def slp (cs : Cs) (m : Rat) (k : Nat) : Rat := if k + 1 < cs.length then (vv cs (k + 1) - vv cs k) / (tt cs (k + 1) - tt cs k) else m
def Up (cs : Cs) : Prop := ∀ k, k + 1 < cs.length → tt cs k < tt cs (k + 1)
def SzC (n : Nat) (cs : Cs) : Prop := ∀ k, k < cs.length → Sz n (tt cs k) ∧ Sz n (vv cs k)
theorem at_cs {cs : Cs} {k : Nat} (h : k < cs.length) : atI (cs.map cd) (k : Int) = some (.tup [qd (tt cs k), qd (vv cs k)]) := by
  refine atI_nat ?_
  rw [List.getElem?_map, List.getElem?_eq_getElem h]
  unfold tt vv
  rw [List.getD_eq_getElem?_getD, List.getElem?_eq_getElem h]
  rfl
end CH
namespace CH
open PySem L2 L3
theorem atR {o : Option D} {d : D} {F : D → Prop} (e : o = some d) (h : F d) : (match (generalizing := false) o with | some d => F d | none => False) := by subst e; exact h
theorem at_cs' {cs : Cs} {i : Int} (k : Nat) (hi : i = (k : Int)) (h : k < cs.length) : atI (cs.map cd) i = some (.tup [qd (tt cs k), qd (vv cs k)]) := by subst hi; exact at_cs h
def L4 (k : Nat) (a b c d : Int) : Prop := a.natAbs < 2 ^ k ∧ b.natAbs < 2 ^ k ∧ c.natAbs < 2 ^ k ∧ d.natAbs < 2 ^ k
theorem l4 {k m : Nat} {p q : Rat} (hp : Sz m p) (hq : Sz m q) (h : m ≤ k) : L4 k p.num p.den q.num q.den := ⟨up_lt hp.1 h, up_lt (den_lt hp) h, up_lt hq.1 h, up_lt (den_lt hq) h⟩
/-- a bound that omega doesn't see -/
def Lb (k : Nat) (a : Int) : Prop := a.natAbs < 2 ^ k
theorem slp_in {cs : Cs} {m : Rat} {k : Nat} (h : k + 1 < cs.length) : slp cs m k = (vv cs (k + 1) - vv cs k) / (tt cs (k + 1) - tt cs k) := if_pos h
theorem slp_out {cs : Cs} {m : Rat} {k : Nat} (h : ¬ k + 1 < cs.length) : slp cs m k = m := if_neg h
theorem num_eq' (q : Rat) : ((q.num : Int) : Rat) = q * (((q.den : Nat) : Int) : Rat) := by rw [Rat.intCast_natCast]; exact num_eq q
theorem sub_ne {a b : Rat} (h : a < b) : b - a ≠ 0 := by grind
theorem one_lt {k : Nat} (h : k ≠ 0) : (1 : Int).natAbs < 2 ^ k := Nat.one_lt_two_pow h
theorem one_c : ((1 : Int) : Rat) = 1 * ((1 : Int) : Rat) := by simp
def crv (cs : Cs) (m : Rat) : D := .tup [.tup (cs.map cd), qd m]
/-- the told form -/
structure Crv (cs : Cs) (m : Rat) : Prop where
  ne : 0 < cs.length
  t0 : tt cs 0 = 0
  v0 : 0 ≤ vv cs 0
  m0 : 0 ≤ m
  up : Up cs
  vu : ∀ k, k + 1 < cs.length → vv cs k ≤ vv cs (k + 1)
  bend : ∀ k, k + 1 < cs.length → slp cs m k ≠ slp cs m (k + 1)
/-- sizes of a curve -/
structure SzK (n : Nat) (cs : Cs) (m : Rat) : Prop where
  len : cs.length ≤ 100000
  cs : SzC n cs
  m : Sz n m
theorem item_cs {cs : Cs} {n : Nat} {x : D} (h : (cs.map cd)[n]? = some x) : n < cs.length ∧ x = .tup [qd (tt cs n), qd (vv cs n)] := by
  have hl : n < cs.length := by
    have := (List.getElem?_eq_some_iff.mp h).1
    rwa [List.length_map] at this
  have a := at_cs hl
  rw [show atI (cs.map cd) (n : Int) = (cs.map cd)[n]? from ?_, h] at a
  · exact ⟨hl, Option.some.inj a⟩
  · rw [h]
    exact atI_nat h
/-- the corners that are kept, of the first n behind the begin -/
def kp (cs : Cs) (m : Rat) : Nat → Cs
  | 0 => [(tt cs 0, vv cs 0)]
  | n + 1 => if slp cs m n = slp cs m (n + 1) then kp cs m n else kp cs m n ++ [(tt cs (n + 1), vv cs (n + 1))]
theorem kp_go {cs : Cs} {m : Rat} {n : Nat} (h : ¬ slp cs m n = slp cs m (n + 1)) : kp cs m (n + 1) = kp cs m n ++ [(tt cs (n + 1), vv cs (n + 1))] := if_neg h
theorem kp_stay {cs : Cs} {m : Rat} {n : Nat} (h : slp cs m n = slp cs m (n + 1)) : kp cs m (n + 1) = kp cs m n := if_pos h
theorem kp_len (cs : Cs) (m : Rat) : ∀ n, (kp cs m n).length ≤ n + 1
  | 0 => Nat.le_refl _
  | n + 1 => by
    have := kp_len cs m n
    by_cases h : slp cs m n = slp cs m (n + 1)
    · rw [kp_stay h]; omega
    · rw [kp_go h, List.length_append]; simp; omega
theorem tt_l {L M : Cs} {k : Nat} (h : k < L.length) : tt (L ++ M) k = tt L k := by
  unfold tt; rw [List.getD_eq_getElem?_getD, List.getD_eq_getElem?_getD, List.getElem?_append_left h]
theorem vv_l {L M : Cs} {k : Nat} (h : k < L.length) : vv (L ++ M) k = vv L k := by
  unfold vv; rw [List.getD_eq_getElem?_getD, List.getD_eq_getElem?_getD, List.getElem?_append_left h]
theorem tt_r {L : Cs} {c : Rat × Rat} : tt (L ++ [c]) L.length = c.1 := by
  unfold tt; rw [List.getD_eq_getElem?_getD, List.getElem?_append_right (Nat.le_refl _)]; simp
theorem vv_r {L : Cs} {c : Rat × Rat} : vv (L ++ [c]) L.length = c.2 := by
  unfold vv; rw [List.getD_eq_getElem?_getD, List.getElem?_append_right (Nat.le_refl _)]; simp
theorem len_snoc {L : Cs} {c : Rat × Rat} : (L ++ [c]).length = L.length + 1 := by simp
/-- a piece more: the slopes ahead stay -/
theorem slp_snoc {L : Cs} {c : Rat × Rat} {M M' : Rat} {i : Nat} (hi : i < L.length) (h : (c.2 - vv L (L.length - 1)) / (c.1 - tt L (L.length - 1)) = M) : slp (L ++ [c]) M' i = slp L M i := by
  rw [slp_in (by rw [len_snoc]; omega)]
  by_cases e : i + 1 < L.length
  · rw [slp_in e, tt_l e, tt_l hi, vv_l e, vv_l hi]
  · rw [slp_out e, tt_l hi, vv_l hi]
    have e' : i + 1 = L.length := by omega
    rw [e', tt_r, vv_r, show i = L.length - 1 by omega]
    exact h
theorem slp_last {L : Cs} {c : Rat × Rat} {M' : Rat} : slp (L ++ [c]) M' L.length = M' := slp_out (by rw [len_snoc]; omega)
/-- corners in their order -/
structure Ord (cs : Cs) : Prop where
  ne : 0 < cs.length
  t0 : tt cs 0 = 0
  v0 : 0 ≤ vv cs 0
  up : Up cs
  vu : ∀ k, k + 1 < cs.length → vv cs k ≤ vv cs (k + 1)
theorem Ord.snoc {L : Cs} {c : Rat × Rat} (h : Ord L) (ht : tt L (L.length - 1) < c.1) (hv : vv L (L.length - 1) ≤ c.2) : Ord (L ++ [c]) := by
  have n := h.ne
  refine ⟨by rw [len_snoc]; omega, by rw [tt_l n]; exact h.t0, by rw [vv_l n]; exact h.v0, fun k hk => ?_, fun k hk => ?_⟩
  all_goals
    rw [len_snoc] at hk
    by_cases e : k + 1 < L.length
  · rw [tt_l e, tt_l (by omega)]; exact h.up k e
  · have e' : k + 1 = L.length := by omega
    rw [e', tt_r, tt_l (by omega), show k = L.length - 1 by omega]; exact ht
  · rw [vv_l e, vv_l (by omega)]; exact h.vu k e
  · have e' : k + 1 = L.length := by omega
    rw [e', vv_r, vv_l (by omega), show k = L.length - 1 by omega]; exact hv
theorem Ord.one {v : Rat} (h : 0 ≤ v) : Ord [(0, v)] := ⟨Nat.one_pos, rfl, h, fun k hk => by simp at hk, fun k hk => by simp at hk⟩
/-- what is known of the corners kept of the first n behind the begin -/
structure Kept (cs : Cs) (m : Rat) (n : Nat) (L : Cs) : Prop where
  ord : Ord L
  bend : ∀ k, k + 1 < L.length → slp L (slp cs m n) k ≠ slp L (slp cs m n) (k + 1)
  at_ : ∃ j, j ≤ n ∧ tt L (L.length - 1) = tt cs j ∧ vv L (L.length - 1) = vv cs j ∧ vv cs n - vv cs j = slp cs m n * (tt cs n - tt cs j) ∧ tt cs j ≤ tt cs n ∧ vv cs j ≤ vv cs n
theorem seg {a b x y z v w s : Rat} (h1 : w - v = s * (b - a)) (h2 : (x - w) / (y - b) = s) (h3 : b < y) : x - v = s * (y - a) := by
  have h4 : y - b ≠ 0 := sub_ne h3
  have h5 : x - w = s * (y - b) := by grind
  grind
theorem div_of {x y s : Rat} (h : x = s * y) (hy : y ≠ 0) : x / y = s := by grind
theorem kept_all {cs : Cs} {m : Rat} (o : Ord cs) : ∀ n, n < cs.length → Kept cs m n (kp cs m n)
  | 0, h => ⟨by
      have e : kp cs m 0 = [(0, vv cs 0)] := by show [(tt cs 0, vv cs 0)] = _; rw [o.t0]
      rw [e]; exact Ord.one o.v0, fun k hk => by simp [kp] at hk, 0, Nat.le_refl _, rfl, rfl, by grind, Rat.le_refl, Rat.le_refl⟩
  | n + 1, h => by
    obtain ⟨ko, kb, j, hj, ht, hv, hs, tn, vn⟩ := kept_all o n (by omega)
    have u := o.up n h
    have w := o.vu n h
    have sn := slp_in (m := m) h
    have g : vv cs (n + 1) - vv cs j = slp cs m n * (tt cs (n + 1) - tt cs j) := seg (z := 0) hs sn.symm u
    by_cases e : slp cs m n = slp cs m (n + 1)
    · rw [kp_stay e]
      exact ⟨ko, e ▸ kb, j, by omega, ht, hv, e ▸ g, by grind, by grind⟩
    · rw [kp_go e]
      have lt : tt cs j < tt cs (n + 1) := by grind
      have sl : (vv cs (n + 1) - vv (kp cs m n) ((kp cs m n).length - 1)) / (tt cs (n + 1) - tt (kp cs m n) ((kp cs m n).length - 1)) = slp cs m n := by
        rw [ht, hv]; exact div_of g (sub_ne lt)
      have nl := ko.ne
      refine ⟨ko.snoc (by rw [ht]; exact lt) (by rw [hv]; grind), fun k hk => ?_, n + 1, Nat.le_refl _, ?_, ?_, by grind, Rat.le_refl, Rat.le_refl⟩
      · rw [len_snoc] at hk
        by_cases e1 : k + 1 < (kp cs m n).length
        · rw [slp_snoc (c := (tt cs (n + 1), vv cs (n + 1))) (by omega) sl, slp_snoc (c := (tt cs (n + 1), vv cs (n + 1))) e1 sl]
          exact kb k e1
        · have e2 : k + 1 = (kp cs m n).length := by omega
          rw [slp_snoc (c := (tt cs (n + 1), vv cs (n + 1))) (by omega) sl, slp_out e1, e2, slp_last]
          exact e
      · rw [len_snoc, Nat.add_sub_cancel, tt_r]
      · rw [len_snoc, Nat.add_sub_cancel, vv_r]
theorem kept_crv {cs : Cs} {m : Rat} (o : Ord cs) (hm : 0 ≤ m) : Crv (kp cs m (cs.length - 1)) m := by
  have n := o.ne
  have k := kept_all (m := m) o (cs.length - 1) (by omega)
  have e : slp cs m (cs.length - 1) = m := slp_out (by omega)
  exact ⟨k.ord.ne, k.ord.t0, k.ord.v0, hm, k.ord.up, k.ord.vu, by have b := k.bend; rw [e] at b; exact b⟩
theorem cw_mid {lo hi : Int} (c : lo < hi) : lo ≤ (lo + hi) / 2 ∧ (lo + hi) / 2 < hi := by omega
theorem cw_r {a b c : Int} (h : b < c) (h2 : a ≤ b) : (b - a).toNat < (c - a).toNat := by omega
theorem cw_m {m lo : Int} {L : Nat} (h1 : 0 ≤ lo) (h2 : lo ≤ m) {hi : Int} (h3 : m < hi) (h4 : hi ≤ L) : m.toNat < L := by omega
theorem rngD_item {lo st : Int} {n i : Nat} {x : D} (h : (rngD lo st n)[i]? = some x) : i < n ∧ x = .int (lo + i * st) := by
  have hl : i < n := by
    have := (List.getElem?_eq_some_iff.mp h).1
    rwa [rngD_len] at this
  rw [rngD_get hl] at h
  exact ⟨hl, (Option.some.inj h).symm⟩
theorem fm {a m : Int} (h : 0 < m) : 0 ≤ a.fmod m ∧ a.fmod m < m := ⟨Int.fmod_nonneg_of_pos a h, Int.fmod_lt_of_pos a h⟩
theorem os_ints (f : Nat → Int) (n : Nat) : ((List.range n).map fun i => some (D.int (f i))).filterMap id = ((List.range n).map f).map D.int := by
  rw [List.filterMap_map, List.map_map, ← List.filterMap_eq_map]
  rfl
theorem divInt_lt {a b c : Int} (hc : 0 < c) (h : a < b) : Rat.divInt a c < Rat.divInt b c := by
  have hc' : (0 : Rat) < (c : Rat) := Rat.intCast_pos.mpr hc
  rw [Rat.divInt_eq_div, Rat.divInt_eq_div, Rat.div_lt_iff hc', Rat.div_mul_cancel (fun z => absurd (z ▸ hc') Rat.lt_irrefl)]
  exact Rat.intCast_lt_intCast.mpr h
theorem divInt_le {a b c : Int} (hc : 0 < c) (h : a ≤ b) : Rat.divInt a c ≤ Rat.divInt b c := by
  by_cases e : a = b
  · rw [e]; exact Rat.le_refl
  · exact Rat.le_of_lt (divInt_lt hc (by omega))
theorem SzC.snoc {n : Nat} {L : Cs} {c : Rat × Rat} (h : SzC n L) (h1 : Sz n c.1) (h2 : Sz n c.2) : SzC n (L ++ [c]) := fun k hk => by
  rw [len_snoc] at hk
  by_cases e : k < L.length
  · rw [tt_l e, vv_l e]; exact h k e
  · rw [show k = L.length by omega, tt_r, vv_r]; exact ⟨h1, h2⟩
theorem SzC.one {n : Nat} {v : Rat} (h0 : 1 ≤ n) (h : Sz n v) : SzC n [(0, v)] := fun k hk => by
  have : k = 0 := by simp at hk; omega
  subst this
  exact ⟨Sz.zero.mono h0, h⟩
theorem SzC.mono {n m : Nat} {L : Cs} (h : SzC n L) (hk : n ≤ m) : SzC m L := fun k hl => ⟨(h k hl).1.mono hk, (h k hl).2.mono hk⟩
theorem atI_cell {ms : List Int} {i : Int} (k : Nat) (hi : i = (k : Int)) (h : k < ms.length) : atI (ms.map D.int) i = some (.int (cell ms k)) := by
  subst hi
  exact atI_ints (by omega) (by omega)
theorem sz_of {a b : Int} {k : Nat} (hb : 0 < b) (h1 : a.natAbs < 2 ^ k) (h2 : b.natAbs < 2 ^ k) : Sz k (Rat.divInt a b) := sz_divInt (by omega) h1 h2
theorem rs2 (M : Int) : Builtin.Range.rangeSize 0 M 2 = if 0 < M then (M - 0 - 1) / 2 + 1 else 0 := rfl
theorem kp_sz {cs : Cs} {m : Rat} {n : Nat} (h : SzC n cs) : ∀ k, k < cs.length → SzC n (kp cs m k)
  | 0, hk => fun i hi => by
    have : i = 0 := by simp [kp] at hi; omega
    subst this
    exact h 0 hk
  | k + 1, hk => by
    have ih := kp_sz (m := m) h k (by omega)
    by_cases e : slp cs m k = slp cs m (k + 1)
    · rw [kp_stay e]; exact ih
    · rw [kp_go e]; exact ih.snoc (h (k + 1) hk).1 (h (k + 1) hk).2
theorem iteE {b : Bool} {A B : Prop} (e : b = true) (h : B) : if (!b) = true then A else B := by subst e; exact h
theorem hu1 {A : Around} {k n : Nat} (hr : Room k A) (hn : n ≤ 199) : A.units + 1 + n < cLine := by have := hr.un; omega
theorem zip_all {p : D × D → Bool} : ∀ xs : List D, (∀ x ∈ xs, p (x, x) = true) → (xs.zip xs).all p = true
  | [], _ => rfl
  | x :: xs, h => by
    rw [List.zip_cons_cons, List.all_cons, h x List.mem_cons_self, zip_all xs fun y hy => h y (List.mem_cons_of_mem _ hy)]
    rfl
theorem eqL_refl (n : Nat) (xs : List D) (h : xs.all (depOk n) = true) : eqL n xs xs = true := by
  unfold eqL
  rw [zip_all xs fun x hx => eqN_refl n x (List.all_eq_true.mp h x hx)]
  simp
/-- the piece of a time: the last corner of the first n that is not behind it (the begin else) -/
def plc (cs : Cs) (t : Rat) : Nat → Nat
  | 0 => 0
  | n + 1 => if t < tt cs n then plc cs t n else n
theorem plc_lt {cs : Cs} {t : Rat} (h : 0 < cs.length) : ∀ n, n ≤ cs.length → plc cs t n < cs.length
  | 0, _ => h
  | n + 1, hn => by
    unfold plc
    split
    · exact plc_lt h n (by omega)
    · omega
/-- the value of a curve at a time -/
def val (cs : Cs) (m t : Rat) : Rat := vv cs (plc cs t cs.length) + slp cs m (plc cs t cs.length) * (t - tt cs (plc cs t cs.length))
/-- numbers above and below that are worth a rational -/
structure Wq (k : Nat) (a b : Int) (q : Rat) : Prop where
  pos : 0 < b
  eq : (a : Rat) = q * b
  la : Lb k a
  lb : Lb k b
theorem Wq.mono {k n : Nat} {a b : Int} {q : Rat} (h : Wq k a b q) (hk : k ≤ n) : Wq n a b q := ⟨h.pos, h.eq, up_lt h.la hk, up_lt h.lb hk⟩
theorem Wq.of {k : Nat} {q : Rat} (h : Sz k q) : Wq k q.num q.den q := ⟨by have := den_pos q; omega, num_eq' q, h.1, den_lt h⟩
theorem Wq.minus {k : Nat} {a b c d : Int} {p q : Rat} (h : Wq k a b p) (g : Wq k c d q) : Wq (k + k + 1) (a * d - c * b) (b * d) (p - q) := by
  refine ⟨Int.mul_pos h.pos g.pos, ?_, sub_lt (mul_lt h.la g.lb) (mul_lt g.la h.lb), up_lt (mul_lt h.lb g.lb) (by omega)⟩
  rw [Rat.intCast_sub, Rat.intCast_mul, Rat.intCast_mul, Rat.intCast_mul, h.eq, g.eq]
  grind
theorem Wq.mul {k n : Nat} {a b c d : Int} {p q : Rat} (h : Wq k a b p) (g : Wq n c d q) : Wq (k + n) (a * c) (b * d) (p * q) := by
  refine ⟨Int.mul_pos h.pos g.pos, ?_, mul_lt h.la g.la, mul_lt h.lb g.lb⟩
  rw [Rat.intCast_mul, Rat.intCast_mul, h.eq, g.eq]
  grind
theorem Wq.inv {k : Nat} {a b : Int} {q : Rat} (h : Wq k a b q) (hq : 0 < q) : 0 < a ∧ Wq k b a (1 / q) := by
  have hb : (0 : Rat) < (b : Rat) := Rat.intCast_pos.mpr h.pos
  have ha : (0 : Rat) < (a : Rat) := by rw [h.eq]; exact Rat.mul_pos hq hb
  have ha' : 0 < a := Rat.intCast_pos.mp ha
  have q0 : q ≠ 0 := fun z => absurd (z ▸ hq) Rat.lt_irrefl
  refine ⟨ha', ha', ?_, h.lb, h.la⟩
  rw [h.eq]
  grind
theorem Wq.lt_iff {k n : Nat} {a b c d : Int} {p q : Rat} (h : Wq k a b p) (g : Wq n c d q) : a * d < c * b ↔ p < q := by
  have hb : (0 : Rat) < (b : Rat) := Rat.intCast_pos.mpr h.pos
  have hd : (0 : Rat) < (d : Rat) := Rat.intCast_pos.mpr g.pos
  rw [← Rat.intCast_lt_intCast, Rat.intCast_mul, Rat.intCast_mul, h.eq, g.eq]
  rw [show p * (b : Rat) * (d : Rat) = p * ((b : Rat) * d) by grind, show q * (d : Rat) * (b : Rat) = q * ((b : Rat) * d) by grind]
  have hp := Rat.mul_pos hb hd
  constructor
  · intro e
    by_cases z : p < q
    · exact z
    · exact absurd e (Rat.not_lt.mpr (Rat.mul_le_mul_of_nonneg_right (Rat.not_lt.mp z) (Rat.le_of_lt hp)))
  · intro e
    exact Rat.mul_lt_mul_of_pos_right e hp
theorem Wq.one : Wq 1 1 1 1 := ⟨by decide, one_c, one_lt (by decide), one_lt (by decide)⟩
theorem Wq.plus {k n : Nat} {a b c d : Int} {p q : Rat} (h : Wq k a b p) (g : Wq n c d q) : Wq (k + n + 1) (a * d + c * b) (b * d) (p + q) := by
  refine ⟨Int.mul_pos h.pos g.pos, ?_, add_lt (mul_lt h.la g.lb) (up_lt (mul_lt g.la h.lb) (by omega)), up_lt (mul_lt h.lb g.lb) (by omega)⟩
  rw [Rat.intCast_add, Rat.intCast_mul, Rat.intCast_mul, Rat.intCast_mul, h.eq, g.eq]
  grind
theorem Wq.cast {k : Nat} {a b : Int} {p q : Rat} (h : Wq k a b p) (e : p = q) : Wq k a b q := e ▸ h
theorem Wq.l4 {k n : Nat} {a b c d : Int} {p q : Rat} (h : Wq k a b p) (g : Wq k c d q) (hk : k ≤ n) : L4 n a b c d := ⟨up_lt h.la hk, up_lt h.lb hk, up_lt g.la hk, up_lt g.lb hk⟩
theorem plc_go {cs : Cs} {t : Rat} {n : Nat} (h : t < tt cs n) : plc cs t (n + 1) = plc cs t n := if_pos h
theorem plc_at {cs : Cs} {t : Rat} {n : Nat} (h : ¬ t < tt cs n) : plc cs t (n + 1) = n := if_neg h
/-- the slope right behind a time -/
def sat (cs : Cs) (m t : Rat) : Rat := slp cs m (plc cs t cs.length)
theorem plc_l {L M : Cs} {t : Rat} : ∀ n, n ≤ L.length → plc (L ++ M) t n = plc L t n
  | 0, _ => rfl
  | n + 1, h => by
    unfold plc
    rw [tt_l (by omega), plc_l n (by omega)]
theorem plc_snoc {L : Cs} {c : Rat × Rat} {t : Rat} : plc (L ++ [c]) t (L ++ [c]).length = if t < c.1 then plc L t L.length else L.length := by
  rw [len_snoc]
  conv => lhs; unfold plc
  rw [tt_r, plc_l _ (Nat.le_refl _)]
theorem sat_snoc {L : Cs} {c : Rat × Rat} {M M' t : Rat} (n : 0 < L.length) (h : (c.2 - vv L (L.length - 1)) / (c.1 - tt L (L.length - 1)) = M) : sat (L ++ [c]) M' t = if t < c.1 then sat L M t else M' := by
  unfold sat
  rw [plc_snoc]
  split
  · exact slp_snoc (plc_lt n _ (Nat.le_refl _)) h
  · exact slp_last
theorem val_snoc {L : Cs} {c : Rat × Rat} {M M' t : Rat} (n : 0 < L.length) (h : (c.2 - vv L (L.length - 1)) / (c.1 - tt L (L.length - 1)) = M) : val (L ++ [c]) M' t = if t < c.1 then val L M t else c.2 + M' * (t - c.1) := by
  unfold val
  rw [plc_snoc]
  split
  · have p := plc_lt (t := t) n _ (Nat.le_refl _)
    rw [slp_snoc p h, vv_l p, tt_l p]
  · rw [slp_last, vv_r, tt_r]
theorem plc_end {L : Cs} {t : Rat} (n : 0 < L.length) (h : tt L (L.length - 1) ≤ t) : plc L t L.length = L.length - 1 := by
  have e : L.length = L.length - 1 + 1 := by omega
  rw [e, plc_at (Rat.not_lt.mpr h), Nat.add_sub_cancel]
theorem sat_end {L : Cs} {M t : Rat} (n : 0 < L.length) (h : tt L (L.length - 1) ≤ t) : sat L M t = M := by
  unfold sat
  rw [plc_end n h, slp_out (by omega)]
theorem val_end {L : Cs} {M t : Rat} (n : 0 < L.length) (h : tt L (L.length - 1) ≤ t) : val L M t = vv L (L.length - 1) + M * (t - tt L (L.length - 1)) := by
  unfold val
  rw [plc_end n h, slp_out (by omega)]
def pre (cs : Cs) (n : Nat) : Cs := cs.take (n + 1)
theorem pre_len {cs : Cs} {n : Nat} (h : n < cs.length) : (pre cs n).length = n + 1 := by unfold pre; rw [List.length_take]; omega
theorem pre_go {cs : Cs} {n : Nat} (h : n + 1 < cs.length) : pre cs (n + 1) = pre cs n ++ [(tt cs (n + 1), vv cs (n + 1))] := by
  unfold pre tt vv
  rw [List.take_succ, List.getElem?_eq_getElem h, List.getD_eq_getElem?_getD, List.getElem?_eq_getElem h]
  rfl
theorem pre_at {cs : Cs} {n k : Nat} (h : n < cs.length) (hk : k ≤ n) : tt (pre cs n) k = tt cs k ∧ vv (pre cs n) k = vv cs k := by
  have e : cs = pre cs n ++ cs.drop (n + 1) := (List.take_append_drop _ _).symm
  have l := pre_len h
  constructor
  · conv => rhs; rw [e]
    rw [tt_l (by omega)]
  · conv => rhs; rw [e]
    rw [vv_l (by omega)]
theorem pre_all {cs : Cs} (n : 0 < cs.length) : pre cs (cs.length - 1) = cs := by
  unfold pre
  exact List.take_of_length_le (by omega)
/-- what is kept has the same values and slopes -/
theorem kp_same {cs : Cs} {m : Rat} (o : Ord cs) (t : Rat) : ∀ n, n < cs.length → val (kp cs m n) (slp cs m n) t = val (pre cs n) (slp cs m n) t ∧ sat (kp cs m n) (slp cs m n) t = sat (pre cs n) (slp cs m n) t
  | 0, h => by
    have e : pre cs 0 = kp cs m 0 := by
      cases cs with
      | nil => exact absurd h (by simp)
      | cons c r => rfl
    rw [e]
    exact ⟨rfl, rfl⟩
  | n + 1, h => by
    obtain ⟨iv, is⟩ := kp_same (m := m) o t n (by omega)
    have k := kept_all (m := m) o n (by omega)
    obtain ⟨j, hj, ht, hv, hs, tn, vn⟩ := k.at_
    have u := o.up n h
    have sn := slp_in (m := m) h
    have g : vv cs (n + 1) - vv cs j = slp cs m n * (tt cs (n + 1) - tt cs j) := seg (z := 0) hs sn.symm u
    have lp := pre_len (cs := cs) (n := n) (by omega)
    have pl := pre_at (cs := cs) (n := n) (k := n) (by omega) (Nat.le_refl _)
    have sp : (vv cs (n + 1) - vv (pre cs n) ((pre cs n).length - 1)) / (tt cs (n + 1) - tt (pre cs n) ((pre cs n).length - 1)) = slp cs m n := by
      rw [lp, Nat.add_sub_cancel, pl.1, pl.2, sn]
    rw [pre_go h, val_snoc (c := (tt cs (n + 1), vv cs (n + 1))) (by omega) sp, sat_snoc (c := (tt cs (n + 1), vv cs (n + 1))) (by omega) sp]
    have lt : tt cs j < tt cs (n + 1) := by grind
    by_cases e : slp cs m n = slp cs m (n + 1)
    · rw [kp_stay e, ← e, iv, is]
      by_cases c : t < tt cs (n + 1)
      · rw [if_pos c, if_pos c]; exact ⟨rfl, rfl⟩
      · rw [if_neg c, if_neg c]
        have c' := Rat.not_lt.mp c
        have en : tt (pre cs n) ((pre cs n).length - 1) ≤ t := by rw [lp, Nat.add_sub_cancel, pl.1]; grind
        rw [val_end (by omega) en, sat_end (by omega) en, lp, Nat.add_sub_cancel, pl.1, pl.2]
        refine ⟨?_, rfl⟩
        have q : vv cs (n + 1) - vv cs n = slp cs m n * (tt cs (n + 1) - tt cs n) := by
          have := sub_ne u
          rw [sn]; grind
        show _ = vv cs (n + 1) + slp cs m n * (t - tt cs (n + 1))
        grind
    · have sl : (vv cs (n + 1) - vv (kp cs m n) ((kp cs m n).length - 1)) / (tt cs (n + 1) - tt (kp cs m n) ((kp cs m n).length - 1)) = slp cs m n := by
        rw [ht, hv]; exact div_of g (sub_ne lt)
      rw [kp_go e, val_snoc (c := (tt cs (n + 1), vv cs (n + 1))) k.ord.ne sl, sat_snoc (c := (tt cs (n + 1), vv cs (n + 1))) k.ord.ne sl, iv, is]
      exact ⟨rfl, rfl⟩
theorem val_kp {cs : Cs} {m : Rat} (o : Ord cs) (t : Rat) : val (kp cs m (cs.length - 1)) m t = val cs m t ∧ sat (kp cs m (cs.length - 1)) m t = sat cs m t := by
  have n := o.ne
  have k := kp_same (m := m) o t (cs.length - 1) (by omega)
  rw [slp_out (show ¬ cs.length - 1 + 1 < cs.length by omega), pre_all n] at k
  exact k
theorem tt_mono {cs : Cs} (u : Up cs) {i : Nat} : ∀ {j : Nat}, i ≤ j → j < cs.length → tt cs i ≤ tt cs j
  | 0, h, _ => by have : i = 0 := by omega
                  subst this; exact Rat.le_refl
  | j + 1, h, hl => by
    by_cases e : i = j + 1
    · subst e; exact Rat.le_refl
    · have := tt_mono u (i := i) (j := j) (by omega) (by omega)
      have := u j hl
      grind
theorem vv_mono {cs : Cs} (u : ∀ k, k + 1 < cs.length → vv cs k ≤ vv cs (k + 1)) {i : Nat} : ∀ {j : Nat}, i ≤ j → j < cs.length → vv cs i ≤ vv cs j
  | 0, h, _ => by have : i = 0 := by omega
                  subst this; exact Rat.le_refl
  | j + 1, h, hl => by
    by_cases e : i = j + 1
    · subst e; exact Rat.le_refl
    · have := vv_mono u (i := i) (j := j) (by omega) (by omega)
      have := u j hl
      grind
theorem plc_eq {cs : Cs} (u : Up cs) {t : Rat} {k : Nat} (h1 : tt cs k ≤ t) (h2 : k + 1 < cs.length → t < tt cs (k + 1)) : ∀ n, k < n → n ≤ cs.length → plc cs t n = k
  | 0, h, _ => by omega
  | n + 1, h, hn => by
    by_cases e : n = k
    · subst e; exact plc_at (Rat.not_lt.mpr h1)
    · rw [plc_go, plc_eq u h1 h2 n (by omega) (by omega)]
      have a := h2 (by omega)
      have b := tt_mono u (i := k + 1) (j := n) (by omega) (by omega)
      grind
/-- the time lies on piece k (its end too) -/
structure On (cs : Cs) (k : Nat) (t : Rat) : Prop where
  lt : k < cs.length
  lo : tt cs k ≤ t
  hi : k + 1 < cs.length → t ≤ tt cs (k + 1)
theorem vv_next {cs : Cs} {m : Rat} (u : Up cs) {k : Nat} (h : k + 1 < cs.length) : vv cs (k + 1) = vv cs k + slp cs m k * (tt cs (k + 1) - tt cs k) := by
  have := sub_ne (u k h)
  rw [slp_in h]; grind
theorem val_on {cs : Cs} {m t : Rat} (u : Up cs) {k : Nat} (o : On cs k t) : val cs m t = vv cs k + slp cs m k * (t - tt cs k) := by
  have hl := o.lt
  by_cases e : k + 1 < cs.length ∧ t = tt cs (k + 1)
  · obtain ⟨e1, e2⟩ := e
    have p : plc cs t cs.length = k + 1 := plc_eq u (by rw [e2]; exact Rat.le_refl) (fun h => by rw [e2]; exact u _ h) _ e1 (Nat.le_refl _)
    unfold val
    rw [p, vv_next (m := m) u e1, e2]
    grind
  · have p : plc cs t cs.length = k := plc_eq u o.lo (fun h => by
      have a := o.hi h
      have b : t ≠ tt cs (k + 1) := fun z => e ⟨h, z⟩
      grind) _ hl (Nat.le_refl _)
    unfold val
    rw [p]
def nxt (cs : Cs) (i : Nat) : Rat := if i + 1 < cs.length then tt cs (i + 1) else tt cs i + 1
theorem nxt_gt {cs : Cs} (u : Up cs) (i : Nat) : tt cs i < nxt cs i := by
  unfold nxt
  split
  · exact u _ (by assumption)
  · grind
theorem nxt_on {cs : Cs} {i : Nat} {t : Rat} (h : i < cs.length) (h1 : tt cs i ≤ t) (h2 : t ≤ nxt cs i) : On cs i t := ⟨h, h1, fun e => by unfold nxt at h2; rw [if_pos e] at h2; exact h2⟩
theorem two_min {a x y : Rat} (h1 : a < x) (h2 : a < y) : ∃ t, a < t ∧ t ≤ x ∧ t ≤ y := by
  by_cases e : x ≤ y
  · exact ⟨x, h1, Rat.le_refl, e⟩
  · exact ⟨y, h2, by grind, Rat.le_refl⟩
theorem tt_nn {cs : Cs} {m : Rat} (a : Crv cs m) {i : Nat} (h : i < cs.length) : 0 ≤ tt cs i := by
  have := tt_mono a.up (i := 0) (j := i) (by omega) h
  rw [a.t0] at this
  exact this
theorem same_slp {cs ds : Cs} {m k : Rat} (a : Crv cs m) (b : Crv ds k) (h : ∀ t, 0 ≤ t → val cs m t = val ds k t) {i : Nat} (hc : i < cs.length) (hd : i < ds.length) (et : tt cs i = tt ds i) (ev : vv cs i = vv ds i) : slp cs m i = slp ds k i := by
  obtain ⟨t, h1, h2, h3⟩ := two_min (nxt_gt a.up i) (show tt cs i < nxt ds i by rw [et]; exact nxt_gt b.up i)
  have e := h t (by have := tt_nn a hc; grind)
  rw [val_on a.up (nxt_on hc (Rat.le_of_lt h1) h2), val_on b.up (nxt_on hd (by rw [← et]; exact Rat.le_of_lt h1) h3), ev, et] at e
  have n : t - tt ds i ≠ 0 := by rw [← et]; exact sub_ne h1
  grind
theorem no_early {cs ds : Cs} {m k : Rat} (a : Crv cs m) (b : Crv ds k) (h : ∀ t, 0 ≤ t → val cs m t = val ds k t) {i : Nat} (hc : i + 1 < cs.length) (hd : i < ds.length) (et : tt cs i = tt ds i) (ev : vv cs i = vv ds i) : i + 1 < ds.length ∧ tt ds (i + 1) ≤ tt cs (i + 1) := by
  have es := same_slp a b h (by omega) hd et ev
  have bt := a.bend i hc
  have u := a.up i hc
  have key : (i + 1 < ds.length → tt cs (i + 1) < tt ds (i + 1)) → False := fun hx => by
    have : ∃ t, tt cs (i + 1) < t ∧ t ≤ nxt cs (i + 1) ∧ (i + 1 < ds.length → t ≤ tt ds (i + 1)) := by
      by_cases e : i + 1 < ds.length
      · obtain ⟨t, h1, h2, h3⟩ := two_min (nxt_gt a.up (i + 1)) (hx e)
        exact ⟨t, h1, h2, fun _ => h3⟩
      · exact ⟨nxt cs (i + 1), nxt_gt a.up (i + 1), Rat.le_refl, fun z => absurd z e⟩
    obtain ⟨t, h1, h2, h3⟩ := this
    have e := h t (by have := tt_nn a hc; grind)
    rw [val_on a.up (nxt_on hc (Rat.le_of_lt h1) h2), val_on b.up ⟨hd, by rw [← et]; grind, h3⟩, vv_next (m := m) a.up hc, ev, et, ← es] at e
    have n : t - tt cs (i + 1) ≠ 0 := sub_ne h1
    apply bt
    grind
  by_cases e : i + 1 < ds.length
  · refine ⟨e, ?_⟩
    by_cases z : tt ds (i + 1) ≤ tt cs (i + 1)
    · exact z
    · exact (key fun _ => by grind).elim
  · exact (key fun z => absurd z e).elim
theorem crv_step {cs ds : Cs} {m k : Rat} (a : Crv cs m) (b : Crv ds k) (h : ∀ t, 0 ≤ t → val cs m t = val ds k t) : ∀ i, (i < cs.length ↔ i < ds.length) ∧ (i < cs.length → tt cs i = tt ds i ∧ vv cs i = vv ds i)
  | 0 => by
    refine ⟨⟨fun _ => b.ne, fun _ => a.ne⟩, fun _ => ⟨by rw [a.t0, b.t0], ?_⟩⟩
    have e := h 0 Rat.le_refl
    rw [val_on a.up (nxt_on a.ne (by rw [a.t0]; exact Rat.le_refl) (by rw [← a.t0]; exact Rat.le_of_lt (nxt_gt a.up 0))), val_on b.up (nxt_on b.ne (by rw [b.t0]; exact Rat.le_refl) (by rw [← b.t0]; exact Rat.le_of_lt (nxt_gt b.up 0))), a.t0, b.t0] at e
    grind
  | i + 1 => by
    obtain ⟨h1, h2⟩ := crv_step a b h i
    have fw : i + 1 < cs.length → i + 1 < ds.length ∧ tt ds (i + 1) ≤ tt cs (i + 1) := fun e => by
      obtain ⟨et, ev⟩ := h2 (by omega)
      exact no_early a b h e (h1.mp (by omega)) et ev
    have bw : i + 1 < ds.length → i + 1 < cs.length ∧ tt cs (i + 1) ≤ tt ds (i + 1) := fun e => by
      obtain ⟨et, ev⟩ := h2 (h1.mpr (by omega))
      exact no_early b a (fun t ht => (h t ht).symm) e (h1.mpr (by omega)) et.symm ev.symm
    refine ⟨⟨fun e => (fw e).1, fun e => (bw e).1⟩, fun e => ?_⟩
    obtain ⟨e1, e2⟩ := fw e
    have e3 := (bw e1).2
    have et : tt cs (i + 1) = tt ds (i + 1) := by grind
    obtain ⟨eti, evi⟩ := h2 (by omega)
    have es := same_slp a b h (by omega) (by omega) eti evi
    exact ⟨et, by rw [vv_next (m := m) a.up e, vv_next (m := k) b.up e1, es, et, eti, evi]⟩
/-- curves with the same values are the same -/
theorem crv_ext {cs ds : Cs} {m k : Rat} (a : Crv cs m) (b : Crv ds k) (h : ∀ t, 0 ≤ t → val cs m t = val ds k t) : cs = ds ∧ m = k := by
  have st := crv_step a b h
  have el : cs.length = ds.length := by
    have x := (st cs.length).1
    have y := (st ds.length).1
    omega
  have na := a.ne
  constructor
  · refine List.ext_getElem el fun i h1 h2 => ?_
    obtain ⟨et, ev⟩ := (st i).2 h1
    unfold tt at et
    unfold vv at ev
    rw [List.getD_eq_getElem?_getD, List.getD_eq_getElem?_getD, List.getElem?_eq_getElem h1, List.getElem?_eq_getElem h2] at et ev
    exact Prod.ext et ev
  · obtain ⟨et, ev⟩ := (st (cs.length - 1)).2 (by omega)
    have es := same_slp a b h (i := cs.length - 1) (by omega) (by omega) et ev
    rwa [slp_out (by omega), slp_out (by omega)] at es
theorem Wq.sz {k : Nat} {a b : Int} {q : Rat} (h : Wq k a b q) : Sz k q := by
  have hb : (b : Rat) ≠ 0 := fun z => absurd (Rat.intCast_eq_zero_iff.mp z) (Int.ne_of_gt h.pos)
  have e : q = Rat.divInt a b := by
    rw [Rat.divInt_eq_div, h.eq]
    grind
  rw [e]
  exact sz_of h.pos h.la h.lb
theorem Wq.same {k n : Nat} {a b : Int} {q : Rat} (h : Wq k a b q) : q.num * b = a * (q.den : Int) := by
  rw [← Rat.intCast_inj, Rat.intCast_mul, Rat.intCast_mul, h.eq, num_eq' q]
  grind
theorem Wq.div {k n : Nat} {a b c d : Int} {p q : Rat} (h : Wq k a b p) (g : Wq n c d q) (hq : 0 < q) : Wq (k + n) (a * d) (b * c) (p / q) := by
  refine (h.mul (g.inv hq).2).cast ?_
  grind
end CH
namespace CH
open PySem L2 L3

theorem eqN_qd (p q : Rat) : eqN 1 (qd p) (qd q) = decide (p = q) := by
  by_cases h : p = q
  · subst h
    rw [decide_eq_true rfl]
    exact eqN_refl 1 _ rfl
  · rw [decide_eq_false h]
    cases e : eqN 1 (qd p) (qd q) with
    | false => rfl
    | true =>
      exfalso
      apply h
      have e' : ((p.num == q.num && ((p.den : Int) == (q.den : Int) && true)) && true) = true := e
      rw [Bool.and_true, Bool.and_true, Bool.and_eq_true, beq_iff_eq, beq_iff_eq] at e'
      exact Rat.ext e'.1 (Int.ofNat.inj e'.2)
theorem neT (p q : Rat) {A B : Prop} (h1 : ¬ p = q → A) (h2 : p = q → B) : if (!eqN 1 (qd p) (qd q)) = true then A else B := by
  rw [eqN_qd]
  exact iteN h1 h2
theorem eqT (p q : Rat) {A B : Prop} (h1 : p = q → A) (h2 : ¬ p = q → B) : if eqN 1 (qd p) (qd q) = true then A else B := by
  rw [eqN_qd]
  exact iteD h1 h2
def Bgn (cs : Cs) : Prop := 0 < cs.length ∧ tt cs 0 = 0 ∧ 0 ≤ vv cs 0
def Ris (cs : Cs) (n : Nat) : Prop := ∀ k, k < n → k + 1 < cs.length → tt cs k < tt cs (k + 1) ∧ vv cs k ≤ vv cs (k + 1)
def slpL (cs : Cs) (m : Rat) : List Rat := (List.range cs.length).map (slp cs m)
theorem slpL_len (cs : Cs) (m : Rat) : (slpL cs m).length = cs.length := by unfold slpL; rw [List.length_map, List.length_range]
theorem atI_nat {α : Type} {xs : List α} {k : Nat} (h : k < xs.length) : atI xs (k : Int) = xs[k]? := by
  unfold atI ixN
  rw [if_pos (by omega), if_pos (by omega)]
  simp
theorem at_sl {cs : Cs} {m : Rat} {i : Int} (k : Nat) (hi : i = (k : Int)) (h : k < cs.length) : atI ((slpL cs m).map qd) i = some (qd (slp cs m k)) := by
  subst hi
  rw [atI_nat (by rw [List.length_map, slpL_len]; exact h)]
  unfold slpL
  rw [List.getElem?_map, List.getElem?_map, List.getElem?_range h]
  rfl
theorem slp_fill (cs : Cs) (m : Rat) (h : 0 < cs.length) : (((List.range (cs.length - 1)).map fun i => some (qd (slp cs m i))).filterMap id) ++ [qd m] = (slpL cs m).map qd := by
  have e : ((List.range (cs.length - 1)).map fun i => some (qd (slp cs m i))).filterMap id = (List.range (cs.length - 1)).map fun i => qd (slp cs m i) := by
    rw [List.filterMap_map]
    exact congrFun (List.filterMap_eq_map (f := fun i => qd (slp cs m i))) _
  rw [e]
  unfold slpL
  rw [List.map_map]
  have e2 : cs.length = cs.length - 1 + 1 := by omega
  conv => rhs; rw [e2, List.range_succ, List.map_append]
  show _ ++ [qd m] = _ ++ [qd (slp cs m (cs.length - 1))]
  rw [slp_out (cs := cs) (m := m) (k := cs.length - 1) (by omega)]
  rfl

theorem slp_sz {n : Nat} {cs : Cs} {m : Rat} (up : Up cs) (hz : SzK n cs m) {k : Nat} (hk : k < cs.length) : Sz (4 * n + 2) (slp cs m k) := by
  by_cases c : k + 1 < cs.length
  · rw [slp_in c]
    have z0 := hz.cs k hk
    have z1 := hz.cs (k + 1) c
    exact ((z1.2.sub z0.2).div (z1.1.sub z0.1) (sub_ne (up k c))).mono (by omega)
  · rw [slp_out c]
    exact hz.m.mono (by omega)
def tOf : D → Rat
  | .tup (.tup [.int a, .int b] :: _) => Rat.divInt a b
  | _ => 0
theorem tOf_eq (a b : Rat) : tOf (.tup [qd a, qd b]) = a := Rat.num_divInt_den a
theorem plc_spec {cs : Cs} {t : Rat} (h0 : tt cs 0 ≤ t) : ∀ n, 0 < n → tt cs (plc cs t n) ≤ t ∧ plc cs t n < n ∧ ∀ i, plc cs t n < i → i < n → t < tt cs i
  | 1, _ => by
    have e : plc cs t 1 = 0 := by rw [plc_at (n := 0) (Rat.not_lt.mpr h0)]
    rw [e]
    exact ⟨h0, Nat.one_pos, fun i h1 h2 => by omega⟩
  | n + 2, _ => by
    obtain ⟨h1, h2, h3⟩ := plc_spec h0 (n + 1) (Nat.succ_pos n)
    by_cases c : t < tt cs (n + 1)
    · rw [plc_go c]
      refine ⟨h1, by omega, fun i i1 i2 => ?_⟩
      by_cases e : i = n + 1
      · rw [e]; exact c
      · exact h3 i i1 (by omega)
    · rw [plc_at c]
      exact ⟨Rat.not_lt.mp c, by omega, fun i i1 i2 => by omega⟩
theorem plc_iff {cs : Cs} {t : Rat} (up : Up cs) (h0 : tt cs 0 ≤ t) {i : Nat} (hi : i < cs.length) : (!decide (t < tt cs i)) = decide (i < plc cs t cs.length + 1) := by
  obtain ⟨h1, h2, h3⟩ := plc_spec h0 cs.length (by omega)
  by_cases c : i < plc cs t cs.length + 1
  · rw [decide_eq_true c, decide_eq_false (Rat.not_lt.mpr (Rat.le_trans (tt_mono up (i := i) (j := plc cs t cs.length) (by omega) h2) h1))]
    rfl
  · rw [decide_eq_false c, decide_eq_true (h3 i (by omega) hi)]
    rfl
/-! ### heights -/
theorem div_nn {a b : Rat} (ha : 0 ≤ a) (hb : 0 < b) : 0 ≤ a / b := by
  by_cases h : 0 ≤ a / b
  · exact h
  · have h' : 0 < -(a / b) := by grind
    have := Rat.mul_pos h' hb
    have e : -(a / b) * b = -a := by grind
    rw [e] at this
    grind
theorem div_pos' {a b : Rat} (ha : 0 < a) (hb : 0 < b) : 0 < a / b := by
  have h := div_nn (Rat.le_of_lt ha) hb
  by_cases e : a / b = 0
  · have : a = 0 := by
      have e2 : a = a / b * b := by grind
      rw [e2, e]; grind
    grind
  · exact Rat.lt_of_le_of_ne h (fun z => e z.symm)
structure Rise (cs : Cs) (m : Rat) : Prop where
  o : Ord cs
  m0 : 0 ≤ m
theorem slp_nn {cs : Cs} {m : Rat} (r : Rise cs m) (k : Nat) : 0 ≤ slp cs m k := by
  by_cases c : k + 1 < cs.length
  · rw [slp_in c]
    have h1 := r.o.vu k c
    have h2 := r.o.up k c
    exact div_nn (by grind) (by grind)
  · rw [slp_out c]; exact r.m0
theorem plc_on {cs : Cs} (o : Ord cs) {t : Rat} (ht : 0 ≤ t) : On cs (plc cs t cs.length) t := by
  have n := o.ne
  obtain ⟨h1, h2, h3⟩ := plc_spec (cs := cs) (t := t) (by rw [o.t0]; exact ht) cs.length n
  exact ⟨h2, h1, fun c => Rat.le_of_lt (h3 _ (by omega) c)⟩
theorem val_ge {cs : Cs} {m t : Rat} (r : Rise cs m) {k : Nat} (hk : k < cs.length) (h : tt cs k ≤ t) : vv cs k ≤ val cs m t := by
  have t0 : 0 ≤ t := by
    have := tt_mono r.o.up (i := 0) (j := k) (by omega) hk
    rw [r.o.t0] at this
    grind
  have n := r.o.ne
  obtain ⟨h1, h2, h3⟩ := plc_spec (cs := cs) (t := t) (by rw [r.o.t0]; exact t0) cs.length n
  have kj : k ≤ plc cs t cs.length := by
    by_cases c : k ≤ plc cs t cs.length
    · exact c
    · have := h3 k (by omega) hk
      grind
  have := vv_mono r.o.vu kj h2
  have s := slp_nn r (plc cs t cs.length)
  have p := Rat.mul_nonneg s (show 0 ≤ t - tt cs (plc cs t cs.length) by grind)
  show vv cs k ≤ vv cs (plc cs t cs.length) + slp cs m (plc cs t cs.length) * (t - tt cs (plc cs t cs.length))
  grind
theorem val_le {cs : Cs} {m t : Rat} (r : Rise cs m) {k : Nat} (hk : k < cs.length) (t0 : 0 ≤ t) (h : t ≤ tt cs k) : val cs m t ≤ vv cs k := by
  have on := plc_on r.o t0
  generalize hj : plc cs t cs.length = j at on
  by_cases c : j < k
  · have c1 : j + 1 < cs.length := by omega
    have := vv_mono r.o.vu (i := j + 1) (j := k) (by omega) hk
    have e := vv_next (m := m) r.o.up c1
    have s := slp_nn r j
    have p := Rat.mul_nonneg s (show 0 ≤ tt cs (j + 1) - t by have := on.hi c1; grind)
    rw [val_on r.o.up on]
    grind
  · have e1 := tt_mono r.o.up (i := k) (j := j) (by omega) on.lt
    have e2 := on.lo
    have e : t = tt cs k := by grind
    by_cases c2 : j = k
    · subst c2
      rw [val_on r.o.up on, e]
      grind
    · have e3 := tt_mono r.o.up (i := k + 1) (j := j) (by omega) on.lt
      have e4 := r.o.up k (by have := on.lt; omega)
      grind
theorem val_mono {cs : Cs} {m x y : Rat} (r : Rise cs m) (x0 : 0 ≤ x) (h : x ≤ y) : val cs m x ≤ val cs m y := by
  have ox := plc_on r.o x0
  have oy := plc_on r.o (Rat.le_trans x0 h)
  by_cases c : plc cs y cs.length ≤ plc cs x cs.length
  · have e1 := tt_mono r.o.up c ox.lt
    have oy2 : On cs (plc cs x cs.length) y ∨ plc cs y cs.length < plc cs x cs.length := by
      by_cases e : plc cs y cs.length = plc cs x cs.length
      · rw [← e]; exact .inl oy
      · exact .inr (by omega)
    rcases oy2 with oy2 | oy2
    · rw [val_on r.o.up ox, val_on r.o.up oy2]
      have s := slp_nn r (plc cs x cs.length)
      have p := Rat.mul_nonneg s (show 0 ≤ y - x by grind)
      grind
    · have h3 := (plc_spec (cs := cs) (t := y) (by rw [r.o.t0]; exact Rat.le_trans x0 h) cs.length r.o.ne).2.2 _ oy2 ox.lt
      have := ox.lo
      grind
  · have c' : plc cs x cs.length + 1 < cs.length := by have := oy.lt; omega
    have h1 := val_le (m := m) r c' x0 (ox.hi c')
    have h2 := val_ge (m := m) (t := y) r c' (by
      have e3 := tt_mono r.o.up (i := plc cs x cs.length + 1) (j := plc cs y cs.length) (by omega) oy.lt
      have := oy.lo
      grind)
    exact Rat.le_trans h1 h2
theorem val_at {cs : Cs} {m : Rat} (o : Ord cs) {k : Nat} (hk : k < cs.length) : val cs m (tt cs k) = vv cs k := by
  rw [val_on (k := k) o.up ⟨hk, Rat.le_refl, fun c => Rat.le_of_lt (o.up k c)⟩]
  grind
theorem val_zero {cs : Cs} {m : Rat} (o : Ord cs) : val cs m 0 = vv cs 0 := by
  have := val_at (m := m) o o.ne
  rw [o.t0] at this
  exact this
/-- on the piece k the height h is met at this time -/
theorem met {cs : Cs} {m h : Rat} (r : Rise cs m) {k : Nat} (hk : k < cs.length) (s : slp cs m k ≠ 0) (h1 : vv cs k ≤ h) (h2 : k + 1 < cs.length → h ≤ vv cs (k + 1)) :
    On cs k (tt cs k + (h - vv cs k) / slp cs m k) ∧ val cs m (tt cs k + (h - vv cs k) / slp cs m k) = h := by
  have s0 : 0 < slp cs m k := Rat.lt_of_le_of_ne (slp_nn r k) (fun z => s z.symm)
  have d0 := div_nn (show 0 ≤ h - vv cs k by grind) s0
  have on : On cs k (tt cs k + (h - vv cs k) / slp cs m k) := by
    refine ⟨hk, by grind, fun c => ?_⟩
    have e := vv_next (m := m) r.o.up c
    have hh := h2 c
    have d1 := div_nn (show 0 ≤ vv cs (k + 1) - h by grind) s0
    have e2 : (vv cs (k + 1) - h) / slp cs m k = tt cs (k + 1) - tt cs k - (h - vv cs k) / slp cs m k := by
      rw [e]
      generalize slp cs m k = S at s
      grind
    grind
  refine ⟨on, ?_⟩
  rw [val_on r.o.up on]
  generalize slp cs m k = S at s
  grind
end CH
namespace CH
open PySem L2 L3
/-! ### the times of the corners of two curves -/
def T (ts : List Rat) (i : Nat) : Rat := ts.getD i 0
structure Tms (cs ds : Cs) (ts : List Rat) : Prop where
  ne : 0 < ts.length
  t0 : T ts 0 = 0
  up : ∀ i, i + 1 < ts.length → T ts i < T ts (i + 1)
  a : ∀ k, k < cs.length → ∃ i, i < ts.length ∧ T ts i = tt cs k
  b : ∀ k, k < ds.length → ∃ i, i < ts.length ∧ T ts i = tt ds k
  of : ∀ i, i < ts.length → (∃ k, k < cs.length ∧ T ts i = tt cs k) ∨ ∃ k, k < ds.length ∧ T ts i = tt ds k
theorem T_mono {ts : List Rat} (u : ∀ i, i + 1 < ts.length → T ts i < T ts (i + 1)) {i : Nat} : ∀ {j : Nat}, i ≤ j → j < ts.length → T ts i ≤ T ts j
  | 0, h, _ => by have : i = 0 := by omega
                  subst this; exact Rat.le_refl
  | j + 1, h, hj => by
    by_cases e : i = j + 1
    · subst e; exact Rat.le_refl
    · have h1 := T_mono u (i := i) (j := j) (by omega) (by omega)
      have h2 := u j hj
      grind
theorem T_nn {cs ds : Cs} {ts : List Rat} (t : Tms cs ds ts) {i : Nat} (h : i < ts.length) : 0 ≤ T ts i := by
  have := T_mono t.up (i := 0) (j := i) (by omega) h
  rw [t.t0] at this
  exact this
theorem Tms.swap {cs ds : Cs} {ts : List Rat} (t : Tms cs ds ts) : Tms ds cs ts := ⟨t.ne, t.t0, t.up, t.b, t.a, fun i h => (t.of i h).symm⟩
/-- between two times of them a curve goes straight -/
theorem on_piece {cs ds : Cs} {ts : List Rat} (o : Ord cs) (t : Tms cs ds ts) {i : Nat} (hi : i < ts.length) {x : Rat} (h1 : T ts i ≤ x) (h2 : i + 1 < ts.length → x ≤ T ts (i + 1)) : On cs (plc cs (T ts i) cs.length) x := by
  have on := plc_on o (T_nn t hi)
  obtain ⟨_, p2, p3⟩ := plc_spec (cs := cs) (t := T ts i) (by rw [o.t0]; exact T_nn t hi) cs.length o.ne
  refine ⟨on.lt, by have := on.lo; grind, fun c => ?_⟩
  have lt := p3 _ (Nat.lt_succ_self _) c
  obtain ⟨j, hj, ej⟩ := t.a _ c
  have ij : i < j := by
    by_cases z : i < j
    · exact z
    · have := T_mono t.up (i := j) (j := i) (by omega) hi
      rw [ej] at this
      grind
  have := h2 (by omega)
  have h3 := T_mono t.up (i := i + 1) (j := j) (by omega) hj
  rw [ej] at h3
  grind
theorem straight {cs ds : Cs} {ts : List Rat} {m : Rat} (o : Ord cs) (t : Tms cs ds ts) {i : Nat} (hi : i < ts.length) {x : Rat} (h1 : T ts i ≤ x) (h2 : i + 1 < ts.length → x ≤ T ts (i + 1)) :
    val cs m x = val cs m (T ts i) + slp cs m (plc cs (T ts i) cs.length) * (x - T ts i) := by
  rw [val_on o.up (on_piece o t hi h1 h2), val_on o.up (on_piece o t hi Rat.le_refl (fun c => Rat.le_of_lt (t.up i c)))]
  grind
theorem last_slp {cs ds : Cs} {ts : List Rat} {m : Rat} (o : Ord cs) (t : Tms cs ds ts) : slp cs m (plc cs (T ts (ts.length - 1)) cs.length) = m := by
  have n := o.ne
  obtain ⟨j, hj, ej⟩ := t.a (cs.length - 1) (by omega)
  have := T_mono t.up (i := j) (j := ts.length - 1) (by omega) (by have := t.ne; omega)
  rw [ej] at this
  rw [plc_end n this]
  exact slp_out (by omega)
/-- the piece in which a time lies -/
theorem piece_of {ts : List Rat} (ne : 0 < ts.length) (t0 : T ts 0 = 0) {x : Rat} (x0 : 0 ≤ x) : ∃ i, i < ts.length ∧ T ts i ≤ x ∧ (i + 1 < ts.length → x ≤ T ts (i + 1)) := by
  have all : ∀ n, n < ts.length → T ts n ≤ x ∨ ∃ i, i < ts.length ∧ T ts i ≤ x ∧ (i + 1 < ts.length → x ≤ T ts (i + 1)) := by
    intro n
    induction n with
    | zero => intro _; exact .inl (by rw [t0]; exact x0)
    | succ n ih =>
      intro h
      rcases ih (by omega) with h1 | h1
      · by_cases c : T ts (n + 1) ≤ x
        · exact .inl c
        · exact .inr ⟨n, by omega, h1, fun _ => by grind⟩
      · exact .inr h1
  rcases all (ts.length - 1) (by omega) with h | h
  · exact ⟨ts.length - 1, by omega, h, fun c => by omega⟩
  · exact h
def gap (cs : Cs) (m : Rat) (ds : Cs) (k : Rat) (x : Rat) : Rat := val cs m x - val ds k x
/-! the walk over both curves' corners -/
structure Mrg (cs ds : Cs) (i p : Nat) (ts : List Rat) : Prop where
  inc : ts.Pairwise (· < ·)
  of : ∀ x ∈ ts, (∃ a, a < i ∧ x = tt cs a) ∨ ∃ b, b < p ∧ x = tt ds b
  a : ∀ k, k < i → tt cs k ∈ ts
  b : ∀ k, k < p → tt ds k ∈ ts
  lt : ∀ x ∈ ts, ∀ k, p ≤ k → k < ds.length → x < tt ds k
  len : ts.length ≤ i + p
theorem up_lt' {cs : Cs} (u : Up cs) {i j : Nat} (h : i < j) (hj : j < cs.length) : tt cs i < tt cs j := by
  have h1 := u i (by omega)
  have h2 := tt_mono u (i := i + 1) (j := j) (by omega) hj
  grind
theorem Mrg.nil (cs ds : Cs) : Mrg cs ds 0 0 [] := ⟨List.Pairwise.nil, (fun x h => by cases h), (fun k h => by omega), (fun k h => by omega), (fun x h => by cases h), Nat.zero_le _⟩
theorem Mrg.other {cs ds : Cs} {i p : Nat} {ts : List Rat} (g : Mrg cs ds i p ts) (up : Up ds) (hp : p < ds.length) (hi : ∀ x ∈ ts, x < tt cs i) (h : tt ds p < tt cs i) : Mrg cs ds i (p + 1) (ts ++ [tt ds p]) ∧ ∀ x ∈ ts ++ [tt ds p], x < tt cs i := by
  refine ⟨⟨?_, fun x hx => ?_, fun k hk => List.mem_append_left _ (g.a k hk), fun k hk => ?_, fun x hx k k1 k2 => ?_, by rw [List.length_append]; have := g.len; simp; omega⟩, fun x hx => ?_⟩
  · rw [List.pairwise_append]
    exact ⟨g.inc, List.pairwise_singleton _ _, fun x hx y hy => by rw [List.mem_singleton.mp hy]; exact g.lt x hx p (Nat.le_refl _) hp⟩
  · rcases List.mem_append.mp hx with hx | hx
    · rcases g.of x hx with z | ⟨b, hb, e⟩
      · exact .inl z
      · exact .inr ⟨b, by omega, e⟩
    · exact .inr ⟨p, by omega, List.mem_singleton.mp hx⟩
  · by_cases e : k = p
    · subst e; exact List.mem_append_right _ (List.mem_singleton.mpr rfl)
    · exact List.mem_append_left _ (g.b k (by omega))
  · rcases List.mem_append.mp hx with hx | hx
    · exact g.lt x hx k (by omega) k2
    · rw [List.mem_singleton.mp hx]; exact up_lt' up (by omega) k2
  · rcases List.mem_append.mp hx with hx | hx
    · exact hi x hx
    · rw [List.mem_singleton.mp hx]; exact h
theorem Mrg.one {cs ds : Cs} {i p q : Nat} {ts : List Rat} (g : Mrg cs ds i p ts) (hpq : q = p ∨ (q = p + 1 ∧ p < ds.length ∧ tt ds p = tt cs i)) (hi : ∀ x ∈ ts, x < tt cs i) (hb : ∀ k, q ≤ k → k < ds.length → tt cs i < tt ds k) : Mrg cs ds (i + 1) q (ts ++ [tt cs i]) := by
  refine ⟨?_, fun x hx => ?_, fun k hk => ?_, fun k hk => ?_, fun x hx k k1 k2 => ?_, ?_⟩
  · rw [List.pairwise_append]
    exact ⟨g.inc, List.pairwise_singleton _ _, fun x hx y hy => by rw [List.mem_singleton.mp hy]; exact hi x hx⟩
  · rcases List.mem_append.mp hx with hx | hx
    · rcases g.of x hx with ⟨a, ha, e⟩ | ⟨b, hb, e⟩
      · exact .inl ⟨a, by omega, e⟩
      · exact .inr ⟨b, by omega, e⟩
    · exact .inl ⟨i, by omega, List.mem_singleton.mp hx⟩
  · by_cases e : k = i
    · subst e; exact List.mem_append_right _ (List.mem_singleton.mpr rfl)
    · exact List.mem_append_left _ (g.a k (by omega))
  · by_cases e : k < p
    · exact List.mem_append_left _ (g.b k e)
    · rcases hpq with z | ⟨z, _, e2⟩
      · omega
      · have : k = p := by omega
        subst this
        rw [e2]
        exact List.mem_append_right _ (List.mem_singleton.mpr rfl)
  · rcases List.mem_append.mp hx with hx | hx
    · exact g.lt x hx k (by omega) k2
    · rw [List.mem_singleton.mp hx]; exact hb k k1 k2
  · rw [List.length_append]
    have := g.len
    simp
    omega
theorem T_get {ts : List Rat} {i : Nat} (h : i < ts.length) : T ts i = ts[i] := by
  unfold T
  rw [List.getD_eq_getElem?_getD, List.getElem?_eq_getElem h]
  rfl
theorem mem_T {ts : List Rat} {x : Rat} (h : x ∈ ts) : ∃ i, i < ts.length ∧ T ts i = x := by
  obtain ⟨i, hi, e⟩ := List.mem_iff_getElem.mp h
  exact ⟨i, hi, by rw [T_get hi]; exact e⟩
def rst (ds : Cs) (p : Nat) : List Rat := (ds.drop p).map (·.1)
theorem rest_get {ds : Cs} {p j : Nat} (h : p + j < ds.length) : (rst ds p)[j]? = some (tt ds (p + j)) := by
  unfold rst
  rw [List.getElem?_map, List.getElem?_drop, List.getElem?_eq_getElem h]
  unfold tt
  rw [List.getD_eq_getElem?_getD, List.getElem?_eq_getElem h]
  rfl
theorem mem_rest {ds : Cs} {p : Nat} {x : Rat} (h : x ∈ rst ds p) : ∃ k, p ≤ k ∧ k < ds.length ∧ x = tt ds k := by
  obtain ⟨j, hj, e⟩ := List.mem_iff_getElem.mp h
  have hj' : p + j < ds.length := by unfold rst at hj; rw [List.length_map, List.length_drop] at hj; omega
  have := rest_get hj'
  rw [List.getElem?_eq_getElem hj, e] at this
  exact ⟨p + j, by omega, hj', Option.some.inj this⟩
theorem rest_mem {ds : Cs} {p k : Nat} (h : p ≤ k) (hk : k < ds.length) : tt ds k ∈ rst ds p := by
  have := rest_get (ds := ds) (p := p) (j := k - p) (by omega)
  rw [show p + (k - p) = k by omega] at this
  exact List.mem_of_getElem? this
theorem tms_of {cs ds : Cs} {p : Nat} {ts : List Rat} (o : Ord cs) (q : Ord ds) (g : Mrg cs ds cs.length p ts) (hp : p ≤ ds.length) : Tms cs ds (ts ++ rst ds p) := by
  have inc : (ts ++ rst ds p).Pairwise (· < ·) := by
    rw [List.pairwise_append]
    refine ⟨g.inc, ?_, fun x hx y hy => ?_⟩
    · rw [List.pairwise_iff_getElem]
      intro i j hi hj hij
      have lr : (rst ds p).length = ds.length - p := by unfold rst; rw [List.length_map, List.length_drop]
      have e1 := rest_get (ds := ds) (p := p) (j := i) (by omega)
      have e2 := rest_get (ds := ds) (p := p) (j := j) (by omega)
      rw [List.getElem?_eq_getElem hi] at e1
      rw [List.getElem?_eq_getElem hj] at e2
      rw [Option.some.inj e1, Option.some.inj e2]
      exact up_lt' q.up (by omega) (by omega)
    · obtain ⟨k, k1, k2, e⟩ := mem_rest hy
      rw [e]
      exact g.lt x hx k k1 k2
  have z : tt cs 0 ∈ ts ++ rst ds p := List.mem_append_left _ (g.a 0 o.ne)
  have ne : 0 < (ts ++ rst ds p).length := List.length_pos_of_mem z
  have of : ∀ x ∈ ts ++ rst ds p, (∃ k, k < cs.length ∧ x = tt cs k) ∨ ∃ k, k < ds.length ∧ x = tt ds k := fun x hx => by
    rcases List.mem_append.mp hx with hx | hx
    · rcases g.of x hx with h | ⟨b, hb, e⟩
      · exact .inl h
      · exact .inr ⟨b, by omega, e⟩
    · obtain ⟨k, _, k2, e⟩ := mem_rest hx
      exact .inr ⟨k, k2, e⟩
  have up : ∀ i, i + 1 < (ts ++ rst ds p).length → T (ts ++ rst ds p) i < T (ts ++ rst ds p) (i + 1) := fun i hi => by
    rw [T_get (by omega), T_get hi]
    exact List.pairwise_iff_getElem.mp inc i (i + 1) (by omega) hi (by omega)
  refine ⟨ne, ?_, up, fun k hk => mem_T (List.mem_append_left _ (g.a k hk)), fun k hk => ?_, fun i hi => ?_⟩
  · obtain ⟨i, hi, e⟩ := mem_T z
    rw [o.t0] at e
    have h1 := T_mono up (i := 0) (j := i) (by omega) hi
    rw [e] at h1
    have nn : 0 ≤ T (ts ++ rst ds p) 0 := by
      rw [T_get ne]
      rcases of _ (List.getElem_mem ne) with ⟨k, hk, ek⟩ | ⟨k, hk, ek⟩
      · rw [ek]; have := tt_mono o.up (i := 0) (j := k) (by omega) hk; rw [o.t0] at this; exact this
      · rw [ek]; have := tt_mono q.up (i := 0) (j := k) (by omega) hk; rw [q.t0] at this; exact this
    grind
  · by_cases c : k < p
    · exact mem_T (List.mem_append_left _ (g.b k c))
    · exact mem_T (List.mem_append_right _ (rest_mem (by omega) hk))
  · rw [T_get hi]
    exact of _ (List.getElem_mem hi)
end CH
namespace CH
open PySem L2 L3
theorem at_rest {ds : Cs} {p : Int} (k : Nat) (hp : p = (k : Int)) (h : k < ds.length) : atI ((rst ds 0).map qd) p = some (qd (tt ds k)) := by
  subst hp
  have lr : (rst ds 0).length = ds.length := by unfold rst; rw [List.length_map, List.length_drop]; omega
  rw [atI_nat (by rw [List.length_map, lr]; exact h), List.getElem?_map]
  have := rest_get (ds := ds) (p := 0) (j := k) (by omega)
  rw [this, Nat.zero_add]
  rfl
theorem rest_len (ds : Cs) (p : Nat) : (rst ds p).length = ds.length - p := by unfold rst; rw [List.length_map, List.length_drop]
theorem cut_rest {ds : Cs} {p : Nat} (h : p ≤ ds.length) : cutD ((rst ds 0).map qd) (some (p : Int)) none = (rst ds p).map qd := by
  unfold cutD
  have lr : ((rst ds 0).map qd).length = ds.length := by rw [List.length_map, rest_len]; omega
  rw [lr, HT.sIx_nat, HT.sIx_none, Nat.min_eq_left h]
  rw [List.take_of_length_le (by rw [List.length_drop, lr]; omega), ← List.map_drop]
  congr 1
  unfold rst
  rw [← List.map_drop, List.drop_drop, Nat.zero_add]
/-- rows of a time and both values; corners of the gap -/
def rw3 (cs : Cs) (m : Rat) (ds : Cs) (k : Rat) (t : Rat) : D := .tup [qd t, qd (val cs m t), qd (val ds k t)]
def gcs (cs : Cs) (m : Rat) (ds : Cs) (k : Rat) (ts : List Rat) : Cs := ts.map fun t => (t, gap cs m ds k t)
theorem gcs_len {cs : Cs} {m : Rat} {ds : Cs} {k : Rat} {ts : List Rat} : (gcs cs m ds k ts).length = ts.length := by unfold gcs; rw [List.length_map]
theorem gcs_at {cs : Cs} {m : Rat} {ds : Cs} {k : Rat} {ts : List Rat} {i : Nat} (h : i < ts.length) : tt (gcs cs m ds k ts) i = T ts i ∧ vv (gcs cs m ds k ts) i = gap cs m ds k (T ts i) := by
  have e : (gcs cs m ds k ts).getD i (0, 0) = (T ts i, gap cs m ds k (T ts i)) := by
    unfold gcs
    rw [List.getD_eq_getElem?_getD, List.getElem?_map, List.getElem?_eq_getElem h, T_get h]
    rfl
  unfold tt vv
  rw [e]
  exact ⟨rfl, rfl⟩
theorem T_item {ts : List Rat} {i : Nat} {t : Rat} (h : ts[i]? = some t) : i < ts.length ∧ T ts i = t := by
  obtain ⟨h1, h2⟩ := List.getElem?_eq_some_iff.mp h
  exact ⟨h1, by rw [T_get h1]; exact h2⟩
theorem map_item {α : Type} {f : α → D} {xs : List α} {i : Nat} {x : D} (h : (xs.map f)[i]? = some x) : ∃ a, xs[i]? = some a ∧ x = f a := by
  rw [List.getElem?_map] at h
  cases e : xs[i]? with
  | none => rw [e] at h; cases h
  | some a => rw [e] at h; exact ⟨a, rfl, (Option.some.inj h).symm⟩
theorem fill_some {α : Type} (xs : List α) (f : α → D) : (xs.map fun a => some (f a)).filterMap id = xs.map f := by
  rw [List.filterMap_map]
  exact congrFun (List.filterMap_eq_map (f := f)) _
theorem Tms.sz {cs ds : Cs} {ts : List Rat} {n : Nat} (t : Tms cs ds ts) (h1 : SzC n cs) (h2 : SzC n ds) {i : Nat} (hi : i < ts.length) : Sz n (T ts i) := by
  rcases t.of i hi with ⟨k, hk, e⟩ | ⟨k, hk, e⟩
  · rw [e]; exact (h1 k hk).1
  · rw [e]; exact (h2 k hk).1
end CH
namespace CH
open PySem L2 L3
/-! ### corners that are not in lowest terms -/
structure Raw (n : Nat) (xs : List D) (cs : Cs) : Prop where
  len : xs.length = cs.length
  at_ : ∀ k, k < cs.length → ∃ a b c d : Int, xs[k]? = some (.tup [tp a b, tp c d]) ∧ Wq n a b (tt cs k) ∧ Wq n c d (vv cs k)
theorem Raw.mono {n m : Nat} {xs : List D} {cs : Cs} (h : Raw n xs cs) (hk : n ≤ m) : Raw m xs cs := ⟨h.len, fun k hl => by
  obtain ⟨a, b, c, d, e, w1, w2⟩ := h.at_ k hl
  exact ⟨a, b, c, d, e, w1.mono hk, w2.mono hk⟩⟩
theorem Raw.of {n : Nat} {cs : Cs} (h : SzC n cs) : Raw n (cs.map cd) cs := ⟨List.length_map _, fun k hk => by
  obtain ⟨z1, z2⟩ := h k hk
  refine ⟨_, _, _, _, ?_, Wq.of z1, Wq.of z2⟩
  have := at_cs hk
  rw [atI_nat (by rw [List.length_map]; exact hk)] at this
  exact this⟩
def ia (l : List (Int × Int)) (k : Nat) : Int := (l.getD k (0, 0)).1
def iv (l : List (Int × Int)) (k : Nat) : Int := (l.getD k (0, 0)).2
structure RawI (B : Nat) (l : List (Int × Int)) : Prop where
  ne : 0 < l.length
  le : l.length ≤ 1000
  t0 : ia l 0 = 0
  v0 : 0 ≤ iv l 0
  up : ∀ k, k + 1 < l.length → ia l k < ia l (k + 1) ∧ iv l k ≤ iv l (k + 1)
  sz : ∀ k, k < l.length → (ia l k).natAbs < 2 ^ B ∧ (iv l k).natAbs < 2 ^ B
theorem ia_l {l : List (Int × Int)} {p : Int × Int} {k : Nat} (h : k < l.length) : ia (l ++ [p]) k = ia l k ∧ iv (l ++ [p]) k = iv l k := by
  unfold ia iv
  rw [List.getD_eq_getElem?_getD, List.getElem?_append_left h, List.getD_eq_getElem?_getD]
  exact ⟨rfl, rfl⟩
theorem ia_r {l : List (Int × Int)} {p : Int × Int} : ia (l ++ [p]) l.length = p.1 ∧ iv (l ++ [p]) l.length = p.2 := by
  unfold ia iv
  rw [List.getD_eq_getElem?_getD, List.getElem?_append_right (Nat.le_refl _), Nat.sub_self]
  exact ⟨rfl, rfl⟩
theorem RawI.snoc {B : Nat} {l : List (Int × Int)} {a v : Int} (r : RawI B l) (hl : l.length < 1000) (h1 : ia l (l.length - 1) < a) (h2 : iv l (l.length - 1) ≤ v) (z1 : a.natAbs < 2 ^ B) (z2 : v.natAbs < 2 ^ B) : RawI B (l ++ [(a, v)]) := by
  have n := r.ne
  have ll : (l ++ [(a, v)]).length = l.length + 1 := by simp
  refine ⟨by omega, by omega, by rw [(ia_l n).1]; exact r.t0, by rw [(ia_l n).2]; exact r.v0, fun k hk => ?_, fun k hk => ?_⟩
  · by_cases e : k + 1 < l.length
    · rw [(ia_l e).1, (ia_l e).2, (ia_l (show k < l.length by omega)).1, (ia_l (show k < l.length by omega)).2]
      exact r.up k e
    · have e' : k + 1 = l.length := by omega
      rw [e', ia_r.1, ia_r.2, (ia_l (show k < l.length by omega)).1, (ia_l (show k < l.length by omega)).2, show k = l.length - 1 by omega]
      exact ⟨h1, h2⟩
  · by_cases e : k < l.length
    · rw [(ia_l e).1, (ia_l e).2]; exact r.sz k e
    · have e' : k = l.length := by omega
      rw [e', ia_r.1, ia_r.2]; exact ⟨z1, z2⟩
theorem RawI.one {B : Nat} {st : Int} (h : 0 ≤ st) (z : st.natAbs < 2 ^ B) : RawI B [(0, st)] := by
  refine ⟨Nat.one_pos, by show 1 ≤ 1000; decide, rfl, h, fun k hk => ?_, fun k hk => ?_⟩
  · have : k + 1 < 1 := hk
    omega
  · have : k = 0 := by have : k < 1 := hk; omega
    subst this
    exact ⟨Nat.two_pow_pos B, z⟩
end CH
namespace CH
open PySem L2 L3
/-! ### what a curve leaves of another one -/
/-- v is the greatest of nought and of all gaps up to t -/
def IsL (h : Rat → Rat) (t v : Rat) : Prop := 0 ≤ v ∧ (v = 0 ∨ ∃ s, 0 ≤ s ∧ s ≤ t ∧ h s = v) ∧ ∀ s, 0 ≤ s → s ≤ t → h s ≤ v
theorem IsL.uniq {h : Rat → Rat} {t v w : Rat} (a : IsL h t v) (b : IsL h t w) : v = w := by
  have le : ∀ {v w : Rat}, IsL h t v → IsL h t w → v ≤ w := fun {v w} a b => by
    rcases a.2.1 with e | ⟨s, s0, st, e⟩
    · rw [e]; exact b.1
    · rw [← e]; exact b.2.2 s s0 st
  exact Rat.le_antisymm (le a b) (le b a)
/-- a straight piece from T on: what is greatest up to t -/
theorem IsL.on {h : Rat → Rat} {T B G s t : Rat} (a : IsL h T B) (T0 : 0 ≤ T) (hG : h T = G) (tT : T ≤ t) (lin : ∀ x, T ≤ x → x ≤ t → h x = G + s * (x - T)) {v : Rat} (hv : v = B ∨ v = G + s * (t - T)) (h1 : B ≤ v) (h2 : G + s * (t - T) ≤ v) : IsL h t v := by
  have gB : G ≤ B := by rw [← hG]; exact a.2.2 T T0 Rat.le_refl
  refine ⟨Rat.le_trans a.1 h1, ?_, fun x x0 xt => ?_⟩
  · rcases hv with e | e
    · rcases a.2.1 with z | ⟨y, y0, y1, ey⟩
      · exact .inl (e.trans z)
      · exact .inr ⟨y, y0, Rat.le_trans y1 tT, ey.trans e.symm⟩
    · exact .inr ⟨t, Rat.le_trans T0 tT, Rat.le_refl, (lin t tT Rat.le_refl).trans e.symm⟩
  · by_cases c : x ≤ T
    · exact Rat.le_trans (a.2.2 x x0 c) h1
    · rw [lin x (by grind) xt]
      by_cases s0 : 0 ≤ s
      · have := Rat.mul_nonneg s0 (show 0 ≤ t - x by grind)
        grind
      · have := Rat.mul_nonneg (show 0 ≤ -s by grind) (show 0 ≤ x - T by grind)
        grind
/-- the corners so far: they have the greatest so far up to the next time, by the slope M behind the last one -/
structure Lft (h : Rat → Rat) (C : Cs) (T B M : Rat) (nx : Option Rat) : Prop where
  o : Ord C
  lo : T ≤ tt C (C.length - 1)
  hi : ∀ t, nx = some t → tt C (C.length - 1) < t
  b : vv C (C.length - 1) = B
  M0 : 0 ≤ M
  v : ∀ t, 0 ≤ t → (∀ u, nx = some u → t ≤ u) → IsL h t (val C M t)
  l : IsL h T B
theorem Lft.next {h : Rat → Rat} {C : Cs} {T B M u B' : Rat} (a : Lft h C T B M (some u)) (hB : IsL h u B') : Ord (C ++ [(u, B')]) ∧ ∀ (M' t : Rat), 0 ≤ t → t ≤ u → val (C ++ [(u, B')]) M' t = val C M t := by
  have n := a.o.ne
  have lt := a.hi u rfl
  have t0 : 0 ≤ tt C (C.length - 1) := by
    have := tt_mono a.o.up (i := 0) (j := C.length - 1) (by omega) (by omega)
    rw [a.o.t0] at this
    exact this
  have eB : B' = val C M u := hB.uniq (a.v u (by grind) (fun w hw => by cases hw; exact Rat.le_refl))
  have ev : val C M u = vv C (C.length - 1) + M * (u - tt C (C.length - 1)) := val_end n (Rat.le_of_lt lt)
  have mn := Rat.mul_nonneg a.M0 (show 0 ≤ u - tt C (C.length - 1) by grind)
  have sl : (B' - vv C (C.length - 1)) / (u - tt C (C.length - 1)) = M := by
    rw [eB, ev]
    have ne : u - tt C (C.length - 1) ≠ 0 := by grind
    generalize tt C (C.length - 1) = X at ne
    generalize vv C (C.length - 1) = Y
    grind
  refine ⟨a.o.snoc (c := (u, B')) lt (by show _ ≤ B'; rw [eB, ev]; grind), fun M' t t0 tu => ?_⟩
  rw [val_snoc (c := (u, B')) (M := M) n sl]
  by_cases c : t < u
  · rw [if_pos c]
  · rw [if_neg c]
    have e : t = u := by grind
    show B' + M' * (t - u) = _
    rw [e, eB]
    grind
end CH
namespace CH
open PySem L2 L3
/-- behind a corner (T, B): the corners have the greatest up to T, and from there on they go on by M -/
structure Lf0 (h : Rat → Rat) (C : Cs) (T B : Rat) : Prop where
  o : Ord C
  t : tt C (C.length - 1) = T
  b : vv C (C.length - 1) = B
  l : IsL h T B
  v : ∀ (M t : Rat), 0 ≤ t → t ≤ T → IsL h t (val C M t)
theorem Lf0.t0 {h : Rat → Rat} {C : Cs} {T B : Rat} (a : Lf0 h C T B) : 0 ≤ T := by
  have := tt_mono a.o.up (i := 0) (j := C.length - 1) (by omega) (by have := a.o.ne; omega)
  rw [a.o.t0, a.t] at this
  exact this
theorem Lf0.go {h : Rat → Rat} {C : Cs} {T B G s M : Rat} {nx : Option Rat} (a : Lf0 h C T B) (hG : h T = G) (hnx : ∀ u, nx = some u → T < u) (lin : ∀ x, T ≤ x → (∀ u, nx = some u → x ≤ u) → h x = G + s * (x - T)) (M0 : 0 ≤ M)
    (val' : ∀ x, T ≤ x → (∀ u, nx = some u → x ≤ u) → (B + M * (x - T) = B ∨ B + M * (x - T) = G + s * (x - T)) ∧ G + s * (x - T) ≤ B + M * (x - T)) : Lft h C T B M nx := by
  refine ⟨a.o, by rw [a.t]; exact Rat.le_refl, fun u hu => by rw [a.t]; exact hnx u hu, a.b, M0, fun t t0 ht => ?_, a.l⟩
  by_cases c : t ≤ T
  · exact a.v M t t0 c
  · have cT : T ≤ t := by grind
    have e : val C M t = B + M * (t - T) := by rw [val_end a.o.ne (by rw [a.t]; exact cT), a.t, a.b]
    rw [e]
    obtain ⟨v1, v2⟩ := val' t cT ht
    have mn := Rat.mul_nonneg M0 (show 0 ≤ t - T by grind)
    exact a.l.on a.t0 hG cT (fun x x1 x2 => lin x x1 (fun u hu => Rat.le_trans x2 (ht u hu))) v1 (by grind) v2
/-- a corner more, flat from (T, B) to (X, B) -/
theorem Lf0.flat {h : Rat → Rat} {C : Cs} {T B G s X : Rat} (a : Lf0 h C T B) (hG : h T = G) (hX : T < X) (lin : ∀ x, T ≤ x → x ≤ X → h x = G + s * (x - T)) (hB : G + s * (X - T) = B) : Lf0 h (C ++ [(X, B)]) X B := by
  have f : Lft h C T B 0 (some X) := a.go (s := s) hG (fun u hu => by cases hu; exact hX) (fun x x1 x2 => lin x x1 (x2 X rfl)) Rat.le_refl (fun x x1 x2 => by
    have x2 := x2 X rfl
    have gB : G ≤ B := by rw [← hG]; exact a.l.2.2 T a.t0 Rat.le_refl
    refine ⟨.inl (by grind), ?_⟩
    by_cases s0 : 0 ≤ s
    · have := Rat.mul_nonneg s0 (show 0 ≤ X - x by grind)
      grind
    · have := Rat.mul_nonneg (show 0 ≤ -s by grind) (show 0 ≤ x - T by grind)
      grind)
  have lX : IsL h X B := by
    have := f.v X (by have := a.t0; grind) (fun w hw => by cases hw; exact Rat.le_refl)
    rw [val_end a.o.ne (by rw [a.t]; exact Rat.le_of_lt hX), a.t, a.b] at this
    have e : B + 0 * (X - T) = B := by grind
    rw [e] at this
    exact this
  obtain ⟨o, vs⟩ := f.next lX
  have ln : (C ++ [(X, B)]).length - 1 = C.length := by rw [len_snoc]; omega
  exact ⟨o, by rw [ln, tt_r], by rw [ln, vv_r], lX, fun M t t0 tX => by rw [vs M t t0 tX]; exact f.v t t0 (fun w hw => by cases hw; exact tX)⟩
/-- the next corner (u, B') -/
theorem Lft.step {h : Rat → Rat} {C : Cs} {T B M u B' : Rat} (a : Lft h C T B M (some u)) (hB : IsL h u B') : Lf0 h (C ++ [(u, B')]) u B' := by
  obtain ⟨o, vs⟩ := a.next hB
  have ln : (C ++ [(u, B')]).length - 1 = C.length := by rw [len_snoc]; omega
  exact ⟨o, by rw [ln, tt_r], by rw [ln, vv_r], hB, fun M t t0 tu => by rw [vs M t t0 tu]; exact a.v t t0 (fun w hw => by cases hw; exact tu)⟩
def mx (a b : Rat) : Rat := if a < b then b else a
theorem mx_le (a b : Rat) : a ≤ mx a b ∧ b ≤ mx a b ∧ (mx a b = a ∨ mx a b = b) := by
  unfold mx
  split <;> grind
/-- above at the next time, or growing for ever -/
def Ab (h : Rat → Rat) (B s : Rat) : Option Rat → Prop
  | some u => B < h u
  | none => 0 < s
/-- one turn: from the corner (T, B), the gap there G, the slope s up to the next time: the corners told, and the slope behind them -/
theorem Lf0.turn {h : Rat → Rat} {C : Cs} {T B G s : Rat} {nx : Option Rat} (a : Lf0 h C T B) (hG : h T = G) (hnx : ∀ u, nx = some u → T < u) (lin : ∀ x, T ≤ x → (∀ u, nx = some u → x ≤ u) → h x = G + s * (x - T)) :
    (¬ G < B → Lft h C T B (mx 0 s) nx) ∧
    (G < B → ¬ Ab h B s nx → Lft h C T B 0 nx) ∧
    (G < B → Ab h B s nx → 0 < s ∧ Lft h (C ++ [(T + (B - G) / s, B)]) T B s nx) := by
  have gB : G ≤ B := by rw [← hG]; exact a.l.2.2 T a.t0 Rat.le_refl
  have m0 := mx_le 0 s
  refine ⟨fun c => ?_, fun c1 c2 => ?_, fun c1 c2 => ?_⟩
  · have e : G = B := by grind
    refine a.go hG hnx lin m0.1 (fun x x1 x2 => ⟨?_, ?_⟩)
    · rcases m0.2.2 with z | z
      · rw [z]; exact .inl (by grind)
      · rw [z, e]; exact .inr rfl
    · have := Rat.mul_nonneg (show 0 ≤ mx 0 s - s by grind) (show 0 ≤ x - T by grind)
      grind
  · refine a.go hG hnx lin Rat.le_refl (fun x x1 x2 => ⟨.inl (by grind), ?_⟩)
    cases nx with
    | none =>
      have sn : ¬ 0 < s := c2
      have := Rat.mul_nonneg (show 0 ≤ -s by grind) (show 0 ≤ x - T by grind)
      grind
    | some u =>
      have hu : ¬ B < h u := c2
      have tu := hnx u rfl
      have xu := x2 u rfl
      have e := lin u (Rat.le_of_lt tu) (fun w hw => by cases hw; exact Rat.le_refl)
      by_cases s0 : 0 ≤ s
      · have := Rat.mul_nonneg s0 (show 0 ≤ u - x by grind)
        grind
      · have := Rat.mul_nonneg (show 0 ≤ -s by grind) (show 0 ≤ x - T by grind)
        grind
  · have s0 : 0 < s := by
      cases nx with
      | none => exact c2
      | some u =>
        have hu : B < h u := c2
        have tu := hnx u rfl
        have e := lin u (Rat.le_of_lt tu) (fun w hw => by cases hw; exact Rat.le_refl)
        by_cases z : 0 < s
        · exact z
        · have := Rat.mul_nonneg (show 0 ≤ -s by grind) (show 0 ≤ u - T by grind)
          grind
    have ne : s ≠ 0 := by grind
    have d := div_pos' (show 0 < B - G by grind) s0
    have eX : s * (T + (B - G) / s - T) = B - G := by grind
    have inX : ∀ u, nx = some u → T + (B - G) / s < u := fun u hu => by
      subst hu
      have hu : B < h u := c2
      have tu := hnx u rfl
      have e := lin u (Rat.le_of_lt tu) (fun w hw => by cases hw; exact Rat.le_refl)
      by_cases z : T + (B - G) / s < u
      · exact z
      · have := Rat.mul_nonneg (Rat.le_of_lt s0) (show 0 ≤ T + (B - G) / s - u by grind)
        grind
    have f := a.flat (X := T + (B - G) / s) (s := s) hG (by grind) (fun x x1 x2 => lin x x1 (fun u hu => Rat.le_trans x2 (Rat.le_of_lt (inX u hu)))) (by rw [eX]; grind)
    have hX : h (T + (B - G) / s) = B := by rw [lin _ (by grind) (fun u hu => Rat.le_of_lt (inX u hu)), eX]; grind
    have g := f.go (s := s) (M := s) (nx := nx) hX inX (fun x x1 x2 => by rw [lin x (by grind) x2]; grind) (Rat.le_of_lt s0) (fun x x1 x2 => ⟨.inr rfl, Rat.le_refl⟩)
    exact ⟨s0, g.o, by have := g.lo; grind, g.hi, g.b, g.M0, g.v, a.l⟩
/-- the greatest at the next time -/
theorem IsL.nxt {h : Rat → Rat} {T B G s u : Rat} (a : IsL h T B) (T0 : 0 ≤ T) (hG : h T = G) (tu : T ≤ u) (lin : ∀ x, T ≤ x → x ≤ u → h x = G + s * (x - T)) : IsL h u (mx B (h u)) := by
  have e := lin u tu Rat.le_refl
  obtain ⟨m1, m2, m3⟩ := mx_le B (h u)
  refine a.on T0 hG tu lin ?_ m1 (by rw [← e]; exact m2)
  rcases m3 with z | z
  · exact .inl z
  · exact .inr (z.trans e)
end CH
namespace CH
open PySem L2 L3
/-! ### sizes by corners and slopes; what is left, by the walk -/
structure SzM (n p : Nat) (cs : Cs) (m : Rat) : Prop where
  len : cs.length ≤ 1000
  sl : ∀ k, k < cs.length → Sz p (slp cs m k)
  cs : SzC n cs
theorem SzM.m {n p : Nat} {cs : Cs} {m : Rat} (z : SzM n p cs m) (h : 0 < cs.length) : Sz p m := by
  have := z.sl (cs.length - 1) (by omega)
  rw [slp_out (by omega)] at this
  exact this
theorem SzM.k {n p : Nat} {cs : Cs} {m : Rat} (z : SzM n p cs m) (h : 0 < cs.length) (hp : n ≤ p) : SzK p cs m := ⟨by have := z.len; omega, z.cs.mono hp, z.m h⟩
theorem SzM.val {n p : Nat} {cs : Cs} {m t : Rat} (z : SzM n p cs m) (o : Ord cs) (ht : Sz n t) (t0 : 0 ≤ t) : Sz (3 * n + p + 2) (val cs m t) := by
  have on := plc_on o t0
  have zk := z.cs _ on.lt
  exact (zk.2.add ((z.sl _ on.lt).mul (ht.sub zk.1))).mono (by omega)
theorem SzM.kept {n p : Nat} {cs : Cs} {m : Rat} (z : SzM n p cs m) (o : Ord cs) (hm : 0 ≤ m) : SzM n p (kp cs m (cs.length - 1)) m := by
  have c := kept_crv o hm
  have kl := kp_len cs m (cs.length - 1)
  have := z.len
  have n0 := o.ne
  refine ⟨by omega, fun k hk => ?_, kp_sz z.cs _ (by omega)⟩
  have t0 := tt_nn c hk
  have e : sat (kp cs m (cs.length - 1)) m (tt (kp cs m (cs.length - 1)) k) = slp (kp cs m (cs.length - 1)) m k := by
    unfold sat
    rw [plc_eq c.up (k := k) Rat.le_refl (fun h => c.up k h) _ hk (Nat.le_refl _)]
  rw [← e, (val_kp o _).2]
  exact z.sl _ (plc_lt n0 _ (Nat.le_refl _))
/-- on a piece between two union times: the slope of the gap is that of the gap's corners -/
theorem gap_lin {cs ds : Cs} {ts : List Rat} {m k : Rat} (o : Ord cs) (q : Ord ds) (t : Tms cs ds ts) {i : Nat} (hi : i < ts.length) :
    (∀ x, T ts i ≤ x → (i + 1 < ts.length → x ≤ T ts (i + 1)) → gap cs m ds k x = gap cs m ds k (T ts i) + slp (gcs cs m ds k ts) (m - k) i * (x - T ts i)) ∧
      slp (gcs cs m ds k ts) (m - k) i = slp cs m (plc cs (T ts i) cs.length) - slp ds k (plc ds (T ts i) ds.length) := by
  have main : ∀ x, T ts i ≤ x → (i + 1 < ts.length → x ≤ T ts (i + 1)) → gap cs m ds k x = gap cs m ds k (T ts i) + (slp cs m (plc cs (T ts i) cs.length) - slp ds k (plc ds (T ts i) ds.length)) * (x - T ts i) := fun x h1 h2 => by
    unfold gap
    rw [straight (m := m) o t hi h1 h2, straight (m := k) q t.swap hi h1 h2]
    grind
  have e : slp (gcs cs m ds k ts) (m - k) i = slp cs m (plc cs (T ts i) cs.length) - slp ds k (plc ds (T ts i) ds.length) := by
    by_cases c : i + 1 < ts.length
    · rw [slp_in (by rw [gcs_len]; exact c), (gcs_at hi).1, (gcs_at hi).2, (gcs_at c).1, (gcs_at c).2]
      have u := t.up i c
      have g := main (T ts (i + 1)) (Rat.le_of_lt u) (fun _ => Rat.le_refl)
      exact div_of (by grind) (by grind)
    · rw [slp_out (by rw [gcs_len]; exact c)]
      have e : i = ts.length - 1 := by omega
      rw [e, last_slp o t, last_slp q t.swap]
  exact ⟨fun x h1 h2 => by rw [e]; exact main x h1 h2, e⟩
end CH
namespace CH
open PySem L2 L3
/-! ### the greatest gap is found at corners -/
end CH
namespace CH
open PySem L2 L3
/-! ### one curve followed by another -/
theorem tt_get {cs : Cs} {k : Nat} (h : k < cs.length) : tt cs k = cs[k].1 ∧ vv cs k = cs[k].2 := by
  unfold tt vv
  rw [List.getD_eq_getElem?_getD, List.getElem?_eq_getElem h]
  exact ⟨rfl, rfl⟩
/-- the later curve's corners, moved -/
def mvd (a h : Rat) (ds : Cs) : Cs := ds.map fun c => (a + c.1, h + c.2)
theorem mvd_len {a h : Rat} {ds : Cs} : (mvd a h ds).length = ds.length := List.length_map _
theorem mvd_at {a h : Rat} {ds : Cs} {k : Nat} (hk : k < ds.length) : tt (mvd a h ds) k = a + tt ds k ∧ vv (mvd a h ds) k = h + vv ds k := by
  rw [(tt_get (show k < (mvd a h ds).length by rw [mvd_len]; exact hk)).1, (tt_get (show k < (mvd a h ds).length by rw [mvd_len]; exact hk)).2, (tt_get hk).1, (tt_get hk).2]
  unfold mvd
  rw [List.getElem_map]
  exact ⟨rfl, rfl⟩
theorem tt_a {A B : Cs} {k : Nat} (h : A.length ≤ k) : tt (A ++ B) k = tt B (k - A.length) ∧ vv (A ++ B) k = vv B (k - A.length) := by
  unfold tt vv
  rw [List.getD_eq_getElem?_getD, List.getElem?_append_right h, List.getD_eq_getElem?_getD]
  exact ⟨rfl, rfl⟩
theorem tt_take {A : Cs} {j k : Nat} (h : k < j) : tt (A.take j) k = tt A k ∧ vv (A.take j) k = vv A k := by
  unfold tt vv
  rw [List.getD_eq_getElem?_getD, List.getElem?_take_of_lt h, List.getD_eq_getElem?_getD]
  exact ⟨rfl, rfl⟩
structure Spl (cs : Cs) (m a : Rat) (ds : Cs) (j : Nat) (L : Cs) : Prop where
  jl : j ≤ cs.length
  e : L = cs.take j ++ mvd a (val cs m a - vv ds 0) ds
  lo : ∀ i, i < j → tt cs i < a
  hi : ∀ i, j ≤ i → i < cs.length → a ≤ tt cs i
theorem Spl.len {cs ds L : Cs} {m a : Rat} {j : Nat} (s : Spl cs m a ds j L) : L.length = j + ds.length := by
  have := s.jl
  rw [s.e, List.length_append, List.length_take, mvd_len]
  omega
theorem Spl.one {cs ds L : Cs} {m a : Rat} {j : Nat} (s : Spl cs m a ds j L) {i : Nat} (h : i < j) : tt L i = tt cs i ∧ vv L i = vv cs i := by
  have := s.jl
  have il : i < (cs.take j).length := by rw [List.length_take]; omega
  rw [s.e, tt_l il, vv_l il]
  exact tt_take h
theorem Spl.two {cs ds L : Cs} {m a : Rat} {j : Nat} (s : Spl cs m a ds j L) {k : Nat} (h : k < ds.length) : tt L (j + k) = a + tt ds k ∧ vv L (j + k) = (val cs m a - vv ds 0) + vv ds k := by
  have := s.jl
  have il : (cs.take j).length = j := by rw [List.length_take]; omega
  rw [s.e, (tt_a (show (cs.take j).length ≤ j + k by omega)).1, (tt_a (show (cs.take j).length ≤ j + k by omega)).2, il, show j + k - j = k by omega]
  exact mvd_at h
theorem Spl.ord {cs ds L : Cs} {m a : Rat} {j : Nat} (s : Spl cs m a ds j L) (r : Rise cs m) (p : Ord ds) (a0 : 0 ≤ a) : Ord L := by
  have n := p.ne
  have ll := s.len
  have jl := s.jl
  have o := r.o
  have z := s.two (k := 0) n
  rw [p.t0] at z
  have z1 : tt L j = a := by have := z.1; grind
  have z2 : vv L j = val cs m a := by have := z.2; grind
  have j0 : j = 0 → a = 0 := fun e => by
    have := s.hi 0 (by omega) o.ne
    rw [o.t0] at this
    grind
  refine ⟨by omega, ?_, ?_, fun k hk => ?_, fun k hk => ?_⟩
  · by_cases e : j = 0
    · rw [show (0 : Nat) = j by omega, z1]; exact j0 e
    · rw [(s.one (show 0 < j by omega)).1]; exact o.t0
  · by_cases e : j = 0
    · rw [show (0 : Nat) = j by omega, z2, j0 e, val_zero o]; exact o.v0
    · rw [(s.one (show 0 < j by omega)).2]; exact o.v0
  · by_cases c : k + 1 < j
    · rw [(s.one c).1, (s.one (show k < j by omega)).1]; exact o.up k (by omega)
    · by_cases c2 : k + 1 = j
      · rw [c2, z1, (s.one (show k < j by omega)).1]; exact s.lo k (by omega)
      · obtain ⟨i, rfl⟩ : ∃ i, k = j + i := ⟨k - j, by omega⟩
        have := p.up i (by omega)
        rw [(s.two (show i < ds.length by omega)).1, show j + i + 1 = j + (i + 1) by omega, (s.two (show i + 1 < ds.length by omega)).1]
        grind
  · by_cases c : k + 1 < j
    · rw [(s.one c).2, (s.one (show k < j by omega)).2]; exact o.vu k (by omega)
    · by_cases c2 : k + 1 = j
      · rw [c2, z2, (s.one (show k < j by omega)).2]
        exact val_ge r (by omega) (Rat.le_of_lt (s.lo k (by omega)))
      · obtain ⟨i, rfl⟩ : ∃ i, k = j + i := ⟨k - j, by omega⟩
        have := p.vu i (by omega)
        rw [(s.two (show i < ds.length by omega)).2, show j + i + 1 = j + (i + 1) by omega, (s.two (show i + 1 < ds.length by omega)).2]
        grind
/-- its values -/
theorem Spl.val {cs ds L : Cs} {m k a : Rat} {j : Nat} (s : Spl cs m a ds j L) (r : Rise cs m) (p : Ord ds) (a0 : 0 ≤ a) {t : Rat} (t0 : 0 ≤ t) : val L k t = if a < t then val cs m a + (val ds k (t - a) - vv ds 0) else val cs m t := by
  have O := s.ord r p a0
  have n := p.ne
  have ll := s.len
  have jl := s.jl
  have o := r.o
  have z := s.two (k := 0) n
  rw [p.t0] at z
  have z1 : tt L j = a := by have := z.1; grind
  have z2 : vv L j = CH.val cs m a := by have := z.2; grind
  by_cases c : a ≤ t
  · have on := plc_on p (t := t - a) (by grind)
    generalize plc ds (t - a) ds.length = i at on
    have il := on.lt
    have oL : On L (j + i) t := ⟨by omega, by rw [(s.two il).1]; have := on.lo; grind, fun h => by
      have := on.hi (by omega)
      rw [show j + i + 1 = j + (i + 1) by omega, (s.two (show i + 1 < ds.length by omega)).1]
      grind⟩
    have sl : slp L k (j + i) = slp ds k i := by
      by_cases c2 : i + 1 < ds.length
      · rw [slp_in (show j + i + 1 < L.length by omega), slp_in c2, show j + i + 1 = j + (i + 1) by omega, (s.two il).1, (s.two il).2, (s.two c2).1, (s.two c2).2]
        have e1 : a + tt ds (i + 1) - (a + tt ds i) = tt ds (i + 1) - tt ds i := by grind
        have e2 : CH.val cs m a - vv ds 0 + vv ds (i + 1) - (CH.val cs m a - vv ds 0 + vv ds i) = vv ds (i + 1) - vv ds i := by grind
        rw [e1, e2]
      · rw [slp_out (by omega), slp_out c2]
    have e : CH.val L k t = CH.val cs m a + (CH.val ds k (t - a) - vv ds 0) := by
      rw [val_on O.up oL, val_on p.up on, sl, (s.two il).1, (s.two il).2]
      grind
    by_cases c3 : a < t
    · rw [if_pos c3]; exact e
    · rw [if_neg c3, e]
      have ea : t = a := by grind
      subst ea
      rw [show t - t = 0 by grind, val_zero p]
      grind
  · have lt : t < a := by grind
    rw [if_neg (by grind)]
    have on := plc_on o t0
    generalize plc cs t cs.length = i at on
    have il := on.lt
    have ij : i < j := by
      by_cases h : i < j
      · exact h
      · have := s.hi i (by omega) il
        have := on.lo
        grind
    have oa : i + 1 = j → On cs i a := fun e => ⟨il, Rat.le_of_lt (s.lo i ij), fun h => s.hi _ (by omega) h⟩
    have oL : On L i t := ⟨by omega, by rw [(s.one ij).1]; exact on.lo, fun h => by
      by_cases c2 : i + 1 < j
      · rw [(s.one c2).1]; exact on.hi (by omega)
      · rw [show i + 1 = j by omega, z1]; exact Rat.le_of_lt lt⟩
    have sl : slp L k i = slp cs m i := by
      rw [slp_in (show i + 1 < L.length by omega)]
      by_cases c2 : i + 1 < j
      · rw [slp_in (show i + 1 < cs.length by omega), (s.one c2).1, (s.one c2).2, (s.one ij).1, (s.one ij).2]
      · have e := oa (by omega)
        have lo := s.lo i ij
        have ev := val_on (m := m) o.up e
        rw [show i + 1 = j by omega, z1, z2, (s.one ij).1, (s.one ij).2, ev]
        have ne : a - tt cs i ≠ 0 := by grind
        generalize a - tt cs i = X at ne
        generalize slp cs m i = Y
        generalize vv cs i = Z
        grind
    rw [val_on O.up oL, val_on o.up on, sl, (s.one ij).1, (s.one ij).2]
theorem Spl.sz {cs ds L : Cs} {m a : Rat} {j n : Nat} (s : Spl cs m a ds j L) (h1 : SzC n cs) (h2 : ∀ i, i < ds.length → Sz n (a + tt ds i) ∧ Sz n (CH.val cs m a - vv ds 0 + vv ds i)) : SzC n L := fun i hi => by
  have ll := s.len
  have jl := s.jl
  by_cases c : i < j
  · rw [(s.one c).1, (s.one c).2]; exact h1 i (by omega)
  · obtain ⟨i', rfl⟩ : ∃ i', i = j + i' := ⟨i - j, by omega⟩
    rw [(s.two (show i' < ds.length by omega)).1, (s.two (show i' < ds.length by omega)).2]
    exact h2 i' (by omega)
end CH
namespace CH
open PySem L2 L3
/-! ### the tallest gap -/
theorem Ord.mem {cs : Cs} (o : Ord cs) {n : Nat} (z : SzC n cs) {c : Rat × Rat} (h : c ∈ cs) : Sz n c.1 ∧ 0 ≤ c.1 := by
  obtain ⟨k, hk, rfl⟩ := List.mem_iff_getElem.mp h
  have := tt_mono o.up (i := 0) (j := k) (by omega) hk
  rw [o.t0, (tt_get hk).1] at this
  have z := (z k hk).1
  rw [(tt_get hk).1] at z
  exact ⟨z, this⟩
theorem at_mem {xs : List D} {i : Int} (h0 : 0 ≤ i) (h1 : i < (xs.length : Int)) : ∃ x, atI xs i = some x ∧ x ∈ xs := by
  obtain ⟨k, rfl⟩ := Int.eq_ofNat_of_zero_le h0
  have hk : k < xs.length := by omega
  exact ⟨xs[k], by rw [atI_nat hk, List.getElem?_eq_getElem hk], List.getElem_mem hk⟩
theorem at_last {xs : List D} (h : 0 < xs.length) : ∃ x, atI xs (-1) = some x ∧ x ∈ xs := by
  obtain ⟨x, e, m⟩ := at_mem (xs := xs) (i := ((xs.length - 1 : Nat) : Int)) (by omega) (by omega)
  refine ⟨x, ?_, m⟩
  rw [← e]
  unfold atI ixN
  rw [if_neg (by omega), if_pos (by omega), if_pos (by omega), if_pos (by omega)]
  congr 1
  congr 1
  omega
end CH
namespace CH
open PySem L2 L3
/-! ### sums -/
def cD (f : Cs × Rat) : D := crv f.1 f.2
def sm (fs : List (Cs × Rat)) (t : Rat) : Rat := (fs.map fun f => val f.1 f.2 t).foldr (· + ·) 0
theorem sm_nil (t : Rat) : sm [] t = 0 := rfl
theorem sm_cons (f : Cs × Rat) (fs : List (Cs × Rat)) (t : Rat) : sm (f :: fs) t = val f.1 f.2 t + sm fs t := rfl
theorem sm_append (fs gs : List (Cs × Rat)) (t : Rat) : sm (fs ++ gs) t = sm fs t + sm gs t := by
  induction fs with
  | nil => rw [List.nil_append, sm_nil]; grind
  | cons f fs ih => rw [List.cons_append, sm_cons, sm_cons, ih]; grind
/-- times of a bits, values of v bits at times of a bits -/
structure VS (a v : Nat) (cs : Cs) (m : Rat) : Prop where
  len : cs.length ≤ 1000
  tm : ∀ i, i < cs.length → Sz a (tt cs i)
  va : ∀ t, 0 ≤ t → Sz a t → Sz v (val cs m t)
  m : Sz 1000 m
/-- the sum's corners at the times of both -/
def scs (cs : Cs) (m : Rat) (ds : Cs) (k : Rat) (ts : List Rat) : Cs := ts.map fun t => (t, val cs m t + val ds k t)
theorem scs_len {cs : Cs} {m : Rat} {ds : Cs} {k : Rat} {ts : List Rat} : (scs cs m ds k ts).length = ts.length := List.length_map _
theorem scs_at {cs : Cs} {m : Rat} {ds : Cs} {k : Rat} {ts : List Rat} {i : Nat} (h : i < ts.length) : tt (scs cs m ds k ts) i = T ts i ∧ vv (scs cs m ds k ts) i = val cs m (T ts i) + val ds k (T ts i) := by
  rw [(tt_get (show i < (scs cs m ds k ts).length by rw [scs_len]; exact h)).1, (tt_get (show i < (scs cs m ds k ts).length by rw [scs_len]; exact h)).2, T_get h]
  unfold scs
  rw [List.getElem_map]
  exact ⟨rfl, rfl⟩
theorem scs_ord {cs ds : Cs} {ts : List Rat} {m k : Rat} (r : Rise cs m) (s : Rise ds k) (t : Tms cs ds ts) : Ord (scs cs m ds k ts) := by
  have n := t.ne
  refine ⟨by rw [scs_len]; exact n, by rw [(scs_at n).1]; exact t.t0, ?_, fun i hi => ?_, fun i hi => ?_⟩
  · rw [(scs_at n).2, t.t0, val_zero r.o, val_zero s.o]
    have := r.o.v0
    have := s.o.v0
    grind
  · rw [scs_len] at hi
    rw [(scs_at (show i < ts.length by omega)).1, (scs_at hi).1]; exact t.up i hi
  · rw [scs_len] at hi
    have i0 : i < ts.length := by omega
    rw [(scs_at i0).2, (scs_at hi).2]
    have a := val_mono r (T_nn t i0) (Rat.le_of_lt (t.up i hi))
    have b := val_mono s (T_nn t i0) (Rat.le_of_lt (t.up i hi))
    grind
theorem scs_val {cs ds : Cs} {ts : List Rat} {m k x : Rat} (r : Rise cs m) (s : Rise ds k) (t : Tms cs ds ts) (x0 : 0 ≤ x) : val (scs cs m ds k ts) (m + k) x = val cs m x + val ds k x := by
  obtain ⟨i, hi, h1, h2⟩ := piece_of t.ne t.t0 x0
  have O := scs_ord r s t
  have sc := fun {y : Rat} (a : T ts i ≤ y) (b : i + 1 < ts.length → y ≤ T ts (i + 1)) => straight (m := m) (x := y) r.o t hi a b
  have sd := fun {y : Rat} (a : T ts i ≤ y) (b : i + 1 < ts.length → y ≤ T ts (i + 1)) => straight (m := k) (x := y) s.o t.swap hi a b
  have e1 := sc h1 h2
  have e2 := sd h1 h2
  have on : On (scs cs m ds k ts) i x := ⟨by rw [scs_len]; exact hi, by rw [(scs_at hi).1]; exact h1, fun z => by rw [scs_len] at z; rw [(scs_at z).1]; exact h2 z⟩
  have sl : slp (scs cs m ds k ts) (m + k) i = slp cs m (plc cs (T ts i) cs.length) + slp ds k (plc ds (T ts i) ds.length) := by
    by_cases c : i + 1 < ts.length
    · rw [slp_in (by rw [scs_len]; exact c), (scs_at hi).1, (scs_at hi).2, (scs_at c).1, (scs_at c).2]
      have u := t.up i c
      have a1 := sc (Rat.le_of_lt u) (fun _ => Rat.le_refl)
      have a2 := sd (Rat.le_of_lt u) (fun _ => Rat.le_refl)
      exact div_of (by grind) (by grind)
    · rw [slp_out (by rw [scs_len]; exact c)]
      have e : i = ts.length - 1 := by omega
      rw [e, last_slp r.o t, last_slp s.o t.swap]
  rw [val_on O.up on, sl, (scs_at hi).1, (scs_at hi).2, e1, e2]
  grind

theorem kp_at {cs : Cs} {m : Rat} : ∀ k, k < cs.length → ∀ i, i < (kp cs m k).length → ∃ j, j < cs.length ∧ tt (kp cs m k) i = tt cs j
  | 0, hk => fun i hi => by
    have : i = 0 := by simp [kp] at hi; omega
    subst this
    exact ⟨0, hk, rfl⟩
  | k + 1, hk => by
    have ih := kp_at (cs := cs) (m := m) k (by omega)
    by_cases e : slp cs m k = slp cs m (k + 1)
    · rw [kp_stay e]; exact ih
    · rw [kp_go e]
      intro i hi
      by_cases c : i < (kp cs m k).length
      · rw [tt_l c]; exact ih i c
      · rw [len_snoc] at hi
        rw [show i = (kp cs m k).length by omega, tt_r]
        exact ⟨k + 1, hk, rfl⟩
/-! ### rows (time, value, slope) of whole numbers -/
abbrev Rl := List (Int × Int × Int)
def ra (rs : Rl) (i : Nat) : Int := (rs.getD i (0, 0, 0)).1
def rv (rs : Rl) (i : Nat) : Int := (rs.getD i (0, 0, 0)).2.1
def rl (rs : Rl) (i : Nat) : Int := (rs.getD i (0, 0, 0)).2.2
structure Rws (rs : Rl) : Prop where
  ne : 0 < rs.length
  le : rs.length ≤ 61
  a0 : ra rs 0 = 0
  v0 : 0 ≤ rv rs 0
  up : ∀ i, i + 1 < rs.length → ra rs i < ra rs (i + 1) ∧ rv rs (i + 1) = rv rs i + (ra rs (i + 1) - ra rs i) * rl rs i
  sl : ∀ i, i < rs.length → 0 ≤ rl rs i ∧ (rl rs i).natAbs < 2 ^ 68
  sz : ∀ i, i < rs.length → (ra rs i).natAbs < 2 ^ 75 ∧ (rv rs i).natAbs < 2 ^ 145
theorem cut_l {α : Type} {f : α → D} {xs : List α} {h : Nat} (hh : h ≤ xs.length) : cutD (xs.map f) none (some (h : Int)) = (xs.take h).map f := by
  unfold cutD
  rw [HT.sIx_nat, List.length_map, Nat.min_eq_left hh]
  show ((xs.map f).drop 0).take (h - 0) = _
  rw [List.drop_zero, Nat.sub_zero, List.map_take]
theorem cut_r {α : Type} {f : α → D} {xs : List α} {h : Nat} (hh : h ≤ xs.length) : cutD (xs.map f) (some (h : Int)) none = (xs.drop h).map f := by
  unfold cutD
  rw [HT.sIx_nat, List.length_map, Nat.min_eq_left hh]
  show ((xs.map f).drop h).take (xs.length - h) = _
  rw [← List.map_drop, List.take_of_length_le (by rw [List.length_map, List.length_drop]; exact Nat.le_refl _)]
theorem VS.mono {a v w : Nat} {cs : Cs} {m : Rat} (z : VS a v cs m) (h : v ≤ w) : VS a w cs m := ⟨z.len, z.tm, fun t t0 zt => (z.va t t0 zt).mono h, z.m⟩
theorem nought_crv : Crv [(0, 0)] 0 := kept_crv (cs := [(0, 0)]) (m := 0) (Ord.one Rat.le_refl) Rat.le_refl
theorem nought_val {t : Rat} (t0 : 0 ≤ t) : val [(0, 0)] 0 t = 0 := by
  rw [val_end (by decide) (show tt [((0 : Rat), (0 : Rat))] 0 ≤ t from t0)]
  show (0 : Rat) + 0 * (t - 0) = 0
  grind
theorem ra_l {rs : Rl} {p : Int × Int × Int} {k : Nat} (h : k < rs.length) : ra (rs ++ [p]) k = ra rs k ∧ rv (rs ++ [p]) k = rv rs k ∧ rl (rs ++ [p]) k = rl rs k := by
  unfold ra rv rl
  rw [List.getD_eq_getElem?_getD, List.getElem?_append_left h, List.getD_eq_getElem?_getD]
  exact ⟨rfl, rfl, rfl⟩
theorem ra_r {rs : Rl} {p : Int × Int × Int} : ra (rs ++ [p]) rs.length = p.1 ∧ rv (rs ++ [p]) rs.length = p.2.1 ∧ rl (rs ++ [p]) rs.length = p.2.2 := by
  unfold ra rv rl
  rw [List.getD_eq_getElem?_getD, List.getElem?_append_right (Nat.le_refl _), Nat.sub_self]
  exact ⟨rfl, rfl, rfl⟩
theorem Rws.one {v s : Int} (h : 0 ≤ v) (z : v.natAbs < 2 ^ 145) (s0 : 0 ≤ s) (s1 : s.natAbs < 2 ^ 68) : Rws [(0, v, s)] := by
  refine ⟨Nat.one_pos, by show 1 ≤ 61; decide, rfl, h, fun k hk => ?_, fun k hk => ?_, fun k hk => ?_⟩
  · have : k + 1 < 1 := hk
    omega
  · have : k = 0 := by have : k < 1 := hk; omega
    subst this
    exact ⟨s0, s1⟩
  · have : k = 0 := by have : k < 1 := hk; omega
    subst this
    exact ⟨Nat.two_pow_pos 75, z⟩
theorem Rws.snoc {rs : Rl} {a v s : Int} (r : Rws rs) (hl : rs.length < 61) (h1 : ra rs (rs.length - 1) < a) (h2 : v = rv rs (rs.length - 1) + (a - ra rs (rs.length - 1)) * rl rs (rs.length - 1)) (z1 : a.natAbs < 2 ^ 75) (z2 : v.natAbs < 2 ^ 145) (s0 : 0 ≤ s) (s1 : s.natAbs < 2 ^ 68) : Rws (rs ++ [(a, v, s)]) := by
  have n := r.ne
  have ll : (rs ++ [(a, v, s)]).length = rs.length + 1 := by simp
  refine ⟨by omega, by omega, by rw [(ra_l n).1]; exact r.a0, by rw [(ra_l n).2.1]; exact r.v0, fun k hk => ?_, fun k hk => ?_, fun k hk => ?_⟩
  · by_cases e : k + 1 < rs.length
    · have k0 : k < rs.length := by omega
      rw [(ra_l e).1, (ra_l e).2.1, (ra_l k0).1, (ra_l k0).2.1, (ra_l k0).2.2]
      exact r.up k e
    · have k0 : k < rs.length := by omega
      rw [show k + 1 = rs.length by omega, ra_r.1, ra_r.2.1, (ra_l k0).1, (ra_l k0).2.1, (ra_l k0).2.2, show k = rs.length - 1 by omega]
      exact ⟨h1, h2⟩
  · by_cases e : k < rs.length
    · rw [(ra_l e).2.2]; exact r.sl k e
    · rw [show k = rs.length by omega, ra_r.2.2]; exact ⟨s0, s1⟩
  · by_cases e : k < rs.length
    · rw [(ra_l e).1, (ra_l e).2.1]; exact r.sz k e
    · rw [show k = rs.length by omega, ra_r.1, ra_r.2.1]; exact ⟨z1, z2⟩
theorem Rws.nn {rs : Rl} (r : Rws rs) {j : Nat} : j < rs.length → 0 ≤ ra rs j := by
  induction j with
  | zero => intro _; rw [r.a0]; exact Int.le_refl _
  | succ j ih => intro hj; have := ih (by omega); have := (r.up j hj).1; omega
theorem sm_snoc (fs : List (Cs × Rat)) (f : Cs × Rat) (t : Rat) : sm (fs ++ [f]) t = sm fs t + val f.1 f.2 t := by rw [sm_append, sm_cons, sm_nil]; grind
end CH
namespace CH
open PySem L2 L3
/-! ### the least and the most: pieces on which neither curve comes to the other side -/
def mn (a b : Rat) : Rat := if b < a then b else a
structure LS (a b c : Nat) (cs : Cs) (m : Rat) : Prop where
  tm : ∀ i, i < cs.length → Sz a (tt cs i)
  sl : ∀ t, 0 ≤ t → Sz b (sat cs m t)
  ic : ∀ t, 0 ≤ t → Sz c (val cs m t - sat cs m t * t)
theorem LS.va {a b c n : Nat} {cs : Cs} {m t : Rat} (z : LS a b c cs m) (t0 : 0 ≤ t) (ht : Sz n t) : Sz (b + n + c + 1) (val cs m t) := by
  have h := (z.ic t t0).add ((z.sl t t0).mul ht)
  rw [show val cs m t - sat cs m t * t + sat cs m t * t = val cs m t by grind] at h
  exact h.mono (by omega)
theorem LS.m {a b c : Nat} {cs : Cs} {m : Rat} (z : LS a b c cs m) (o : Ord cs) : Sz b m := by
  have n := o.ne
  have t0 := tt_mono o.up (i := 0) (j := cs.length - 1) (by omega) (by omega)
  rw [o.t0] at t0
  have := z.sl _ t0
  rw [sat_end n Rat.le_refl] at this
  exact this
theorem LS.szk {a b c n : Nat} {cs : Cs} {m : Rat} (z : LS a b c cs m) (o : Ord cs) (hl : cs.length ≤ 100000) (h : a + b + c + 1 ≤ n) : SzK n cs m := by
  refine ⟨hl, fun i hi => ?_, (z.m o).mono (by omega)⟩
  have t0 := tt_mono o.up (i := 0) (j := i) (by omega) hi
  rw [o.t0] at t0
  have := z.va t0 (z.tm i hi)
  rw [val_at o hi] at this
  exact ⟨(z.tm i hi).mono (by omega), this.mono (by omega)⟩
theorem LS.mono {a b c a' b' c' : Nat} {cs : Cs} {m : Rat} (z : LS a b c cs m) (h1 : a ≤ a') (h2 : b ≤ b') (h3 : c ≤ c') : LS a' b' c' cs m :=
  ⟨fun i hi => (z.tm i hi).mono h1, fun t t0 => (z.sl t t0).mono h2, fun t t0 => (z.ic t t0).mono h3⟩
theorem LS.kept {a b c : Nat} {cs : Cs} {m : Rat} (z : LS a b c cs m) (o : Ord cs) : LS a b c (kp cs m (cs.length - 1)) m := by
  have n := o.ne
  refine ⟨fun i hi => ?_, fun t t0 => by rw [(val_kp o t).2]; exact z.sl t t0, fun t t0 => by rw [(val_kp o t).1, (val_kp o t).2]; exact z.ic t t0⟩
  obtain ⟨j, hj, e⟩ := kp_at (cs := cs) (m := m) _ (by omega) i hi
  rw [e]; exact z.tm j hj
def Til (nx : Option Rat) (x : Rat) : Prop := ∀ u, nx = some u → x ≤ u
structure Pc (cs : Cs) (m : Rat) (ds : Cs) (k : Rat) (a : Rat) (nx : Option Rat) : Prop where
  f : ∀ x, a ≤ x → Til nx x → val cs m x = val cs m a + sat cs m a * (x - a)
  g : ∀ x, a ≤ x → Til nx x → val ds k x = val ds k a + sat ds k a * (x - a)
  s : (∀ x, a ≤ x → Til nx x → val cs m x ≤ val ds k x) ∨ (∀ x, a ≤ x → Til nx x → val ds k x ≤ val cs m x)
  e : nx = none → sat cs m a = m ∧ sat ds k a = k
def nxU (us : List Rat) (nx : Option Rat) (i : Nat) : Option Rat := if i + 1 < us.length then some (T us (i + 1)) else nx
structure Cx (cs : Cs) (m : Rat) (ds : Cs) (k : Rat) (us : List Rat) (nx : Option Rat) : Prop where
  ne : 0 < us.length
  t0 : T us 0 = 0
  up : ∀ i, i + 1 < us.length → T us i < T us (i + 1)
  pc : ∀ i, i < us.length → Pc cs m ds k (T us i) (nxU us nx i)
theorem T_l {us : List Rat} {a : Rat} {i : Nat} (h : i < us.length) : T (us ++ [a]) i = T us i := by
  unfold T
  rw [List.getD_eq_getElem?_getD, List.getElem?_append_left h, List.getD_eq_getElem?_getD]
theorem T_r {us : List Rat} {a : Rat} : T (us ++ [a]) us.length = a := by
  unfold T
  rw [List.getD_eq_getElem?_getD, List.getElem?_append_right (Nat.le_refl _), Nat.sub_self]
  rfl
theorem Cx.one {cs ds : Cs} {m k : Rat} {nx : Option Rat} (h : Pc cs m ds k 0 nx) : Cx cs m ds k [0] nx := by
  refine ⟨Nat.one_pos, rfl, fun i hi => ?_, fun i hi => ?_⟩
  · have : i + 1 < 1 := hi
    omega
  · have : i = 0 := by have : i < 1 := hi; omega
    subst this
    exact h
theorem Cx.snoc {cs ds : Cs} {m k a : Rat} {us : List Rat} {nx : Option Rat} (x : Cx cs m ds k us (some a)) (hl : T us (us.length - 1) < a) (h : Pc cs m ds k a nx) : Cx cs m ds k (us ++ [a]) nx := by
  have n := x.ne
  have ll : (us ++ [a]).length = us.length + 1 := by simp
  refine ⟨by omega, by rw [T_l n]; exact x.t0, fun i hi => ?_, fun i hi => ?_⟩
  · by_cases c : i + 1 < us.length
    · rw [T_l c, T_l (by omega)]; exact x.up i c
    · rw [show i + 1 = us.length by omega, T_r, T_l (by omega), show i = us.length - 1 by omega]
      exact hl
  · by_cases c : i < us.length
    · have p := x.pc i c
      rw [T_l c]
      have e : nxU (us ++ [a]) nx i = nxU us (some a) i := by
        unfold nxU
        rw [if_pos (by omega)]
        by_cases c2 : i + 1 < us.length
        · rw [if_pos c2, T_l c2]
        · rw [if_neg c2, show i + 1 = us.length by omega, T_r]
      rw [e]
      exact p
    · have e : i = us.length := by omega
      subst e
      rw [T_r]
      unfold nxU
      rw [if_neg (by omega)]
      exact h
def Opp (p q : Rat) : Prop := (p < 0 ∧ 0 < q) ∨ (0 < p ∧ q < 0)
instance (p q : Rat) : Decidable (Opp p q) := inferInstanceAs (Decidable ((p < 0 ∧ 0 < q) ∨ (0 < p ∧ q < 0)))
def nxT (ts : List Rat) (i : Nat) : Option Rat := if i + 1 < ts.length then some (T ts (i + 1)) else none
structure Pick (op : Rat → Rat → Rat) : Prop where
  w : ((∀ x y, x ≤ y → op x y = x) ∧ (∀ x y, y ≤ x → op x y = y)) ∨ ((∀ x y, x ≤ y → op x y = y) ∧ (∀ x y, y ≤ x → op x y = x))
theorem Pick.or {op : Rat → Rat → Rat} (P : Pick op) (x y : Rat) : op x y = x ∨ op x y = y := by
  rcases P.w with ⟨a, b⟩ | ⟨a, b⟩
  · by_cases c : x ≤ y
    · exact .inl (a x y c)
    · exact .inr (b x y (by grind))
  · by_cases c : x ≤ y
    · exact .inr (a x y c)
    · exact .inl (b x y (by grind))
theorem Pick.mono {op : Rat → Rat → Rat} (P : Pick op) {x y x' y' : Rat} (h1 : x ≤ x') (h2 : y ≤ y') : op x y ≤ op x' y' := by
  rcases P.w with ⟨a, b⟩ | ⟨a, b⟩
  · by_cases c : x ≤ y
    · by_cases d : x' ≤ y'
      · rw [a x y c, a x' y' d]; exact h1
      · rw [a x y c, b x' y' (by grind)]; grind
    · by_cases d : x' ≤ y'
      · rw [b x y (by grind), a x' y' d]; grind
      · rw [b x y (by grind), b x' y' (by grind)]; exact h2
  · by_cases c : x ≤ y
    · by_cases d : x' ≤ y'
      · rw [a x y c, a x' y' d]; exact h2
      · rw [a x y c, b x' y' (by grind)]; grind
    · by_cases d : x' ≤ y'
      · rw [b x y (by grind), a x' y' d]; grind
      · rw [b x y (by grind), b x' y' (by grind)]; exact h1
section
variable {op : Rat → Rat → Rat} {cs ds : Cs} {m k : Rat} {us : List Rat}
theorem Cx.nn {nx : Option Rat} (x : Cx cs m ds k us nx) {i : Nat} (h : i < us.length) : 0 ≤ T us i := by
  have := T_mono x.up (i := 0) (j := i) (by omega) h
  rw [x.t0] at this
  exact this
end
theorem Cx.turn {cs ds : Cs} {m k : Rat} {ts us : List Rat} {i : Nat} {nx : Option Rat} (t : Tms cs ds ts) (hi : i < ts.length) (h0 : i = 0 → us = []) (hp : 0 < i → Cx cs m ds k us (nxT ts (i - 1)) ∧ ∀ u, nxT ts (i - 1) = some u → T us (us.length - 1) < u) (p : Pc cs m ds k (T ts i) nx) : Cx cs m ds k (us ++ [T ts i]) nx := by
  by_cases z : i = 0
  · rw [h0 z]
    subst z
    rw [t.t0] at p ⊢
    exact Cx.one p
  · obtain ⟨x, hl⟩ := hp (by omega)
    have e : nxT ts (i - 1) = some (T ts i) := by unfold nxT; rw [show i - 1 + 1 = i by omega, if_pos hi]
    rw [e] at x
    exact x.snoc (hl _ e) p
end CH
namespace CH
open PySem L2 L3
/-! ### what is left, by the sizes of lines; sums by the sizes of lines -/
def Ln (p g : Nat) (C : Cs) (M : Rat) : Prop := ∀ i, i < C.length → Sz p (slp C M i) ∧ Sz g (vv C i - slp C M i * tt C i)
theorem Ln.one {p g : Nat} {c : Rat × Rat} {M : Rat} (h1 : Sz p M) (h2 : Sz g (c.2 - M * c.1)) : Ln p g [c] M := fun i hi => by
  have : i = 0 := by have : i < 1 := hi; omega
  subst this
  rw [slp_out (by show ¬ 0 + 1 < 1; decide)]
  exact ⟨h1, h2⟩
theorem Ln.snoc {p g : Nat} {C : Cs} {c : Rat × Rat} {M M' : Rat} (a : Ln p g C M) (h : (c.2 - vv C (C.length - 1)) / (c.1 - tt C (C.length - 1)) = M) (h1 : Sz p M') (h2 : Sz g (c.2 - M' * c.1)) : Ln p g (C ++ [c]) M' := fun i hi => by
  rw [len_snoc] at hi
  by_cases e : i < C.length
  · rw [slp_snoc e h, tt_l e, vv_l e]
    exact a i e
  · have : i = C.length := by omega
    subst this
    rw [slp_last, tt_r, vv_r]
    exact ⟨h1, h2⟩
theorem Lft.slope {h : Rat → Rat} {C : Cs} {T B M u B' : Rat} (a : Lft h C T B M (some u)) (hB : IsL h u B') : (B' - vv C (C.length - 1)) / (u - tt C (C.length - 1)) = M := by
  have n := a.o.ne
  have lt := a.hi u rfl
  have t0 : 0 ≤ tt C (C.length - 1) := by
    have := tt_mono a.o.up (i := 0) (j := C.length - 1) (by omega) (by omega)
    rw [a.o.t0] at this
    exact this
  have eB : B' = val C M u := hB.uniq (a.v u (by grind) (fun w hw => by cases hw; exact Rat.le_refl))
  have ev : val C M u = vv C (C.length - 1) + M * (u - tt C (C.length - 1)) := val_end n (Rat.le_of_lt lt)
  rw [eB, ev]
  have ne : u - tt C (C.length - 1) ≠ 0 := by grind
  generalize tt C (C.length - 1) = X at ne
  generalize vv C (C.length - 1) = Y
  grind
theorem Ln.ls {a p g : Nat} {C : Cs} {M : Rat} (n : Ln p g C M) (o : Ord C) (ht : ∀ i, i < C.length → Sz a (tt C i)) : LS a p g C M := by
  refine ⟨ht, fun t t0 => ?_, fun t t0 => ?_⟩
  · exact (n _ (plc_on o t0).lt).1
  · have on := plc_on o t0
    have ev : val C M t = vv C (plc C t C.length) + slp C M (plc C t C.length) * (t - tt C (plc C t C.length)) := rfl
    have es : sat C M t = slp C M (plc C t C.length) := rfl
    generalize plc C t C.length = j at on ev es
    have z := (n j on.lt).2
    rw [ev, es]
    rw [show vv C j + slp C M j * (t - tt C j) - slp C M j * t = vv C j - slp C M j * tt C j by grind]
    exact z
section
variable {a b c a2 b2 c2 : Nat} {cs ds : Cs} {m k : Rat}
theorem gap_ic (z1 : LS a b c cs m) (z2 : LS a2 b2 c2 ds k) {t : Rat} (t0 : 0 ≤ t) : Sz (c + c2 + 1) (gap cs m ds k t - (sat cs m t - sat ds k t) * t) := by
  have q := (z1.ic t t0).sub (z2.ic t t0)
  have e : (val cs m t - sat cs m t * t) - (val ds k t - sat ds k t * t) = gap cs m ds k t - (sat cs m t - sat ds k t) * t := by unfold gap; grind
  rw [e] at q
  exact q
theorem gap_ls (z1 : LS a b c cs m) (z2 : LS a2 b2 c2 ds k) {t : Rat} {n : Nat} (t0 : 0 ≤ t) (ht : Sz n t) : Sz (b + b2 + c + c2 + n + 3) (gap cs m ds k t) := by
  have q := (gap_ic z1 z2 t0).add (((z1.sl t t0).sub (z2.sl t t0)).mul ht)
  rw [show gap cs m ds k t - (sat cs m t - sat ds k t) * t + (sat cs m t - sat ds k t) * t = gap cs m ds k t by grind] at q
  exact q.mono (by omega)
theorem cross_ls (z1 : LS a b c cs m) (z2 : LS a2 b2 c2 ds k) {t B : Rat} {n : Nat} (t0 : 0 ≤ t) (hB : Sz n B) (s0 : sat cs m t - sat ds k t ≠ 0) : Sz (n + (b + b2 + c + c2 + 3)) (t + (B - gap cs m ds k t) / (sat cs m t - sat ds k t)) := by
  have q := (hB.sub (gap_ic z1 z2 t0)).div ((z1.sl t t0).sub (z2.sl t t0)) s0
  have e : t + (B - gap cs m ds k t) / (sat cs m t - sat ds k t) = (B - (gap cs m ds k t - (sat cs m t - sat ds k t) * t)) / (sat cs m t - sat ds k t) := by
    generalize sat cs m t - sat ds k t = s at *
    generalize gap cs m ds k t = G at *
    grind
  rw [e]
  exact q.mono (by omega)
theorem scs_slp {ts : List Rat} (r : Rise cs m) (s : Rise ds k) (t : Tms cs ds ts) {i : Nat} (hi : i < ts.length) : slp (scs cs m ds k ts) (m + k) i = sat cs m (T ts i) + sat ds k (T ts i) := by
  by_cases c : i + 1 < ts.length
  · rw [slp_in (by rw [scs_len]; exact c), (scs_at hi).1, (scs_at hi).2, (scs_at c).1, (scs_at c).2]
    have u := t.up i c
    have a1 := straight (m := m) r.o t hi (Rat.le_of_lt u) (fun _ => Rat.le_refl)
    have a2 := straight (m := k) s.o t.swap hi (Rat.le_of_lt u) (fun _ => Rat.le_refl)
    show _ = slp cs m (plc cs (T ts i) cs.length) + slp ds k (plc ds (T ts i) ds.length)
    exact div_of (by grind) (by grind)
  · rw [slp_out (by rw [scs_len]; exact c)]
    have e : i = ts.length - 1 := by omega
    subst e
    show _ = slp cs m (plc cs (T ts (ts.length - 1)) cs.length) + slp ds k (plc ds (T ts (ts.length - 1)) ds.length)
    rw [last_slp r.o t, last_slp s.o t.swap]
theorem scs_ls {ts : List Rat} (r : Rise cs m) (s : Rise ds k) (t : Tms cs ds ts) (z1 : LS a b c cs m) (z2 : LS a2 b2 c2 ds k) {n : Nat} (h1 : a ≤ n) (h2 : a2 ≤ n) : LS n (b + b2 + 1) (c + c2 + 1) (scs cs m ds k ts) (m + k) := by
  refine Ln.ls (fun i hi => ?_) (scs_ord r s t) (fun i hi => ?_)
  · rw [scs_len] at hi
    have t0 := T_nn t hi
    rw [scs_slp r s t hi, (scs_at hi).1, (scs_at hi).2]
    have q := (z1.ic _ t0).add (z2.ic _ t0)
    rw [show val cs m (T ts i) - sat cs m (T ts i) * T ts i + (val ds k (T ts i) - sat ds k (T ts i) * T ts i) = val cs m (T ts i) + val ds k (T ts i) - (sat cs m (T ts i) + sat ds k (T ts i)) * T ts i by grind] at q
    exact ⟨(z1.sl _ t0).add (z2.sl _ t0), q⟩
  · rw [scs_len] at hi
    rw [(scs_at hi).1]
    rcases t.of i hi with ⟨j, hj, e⟩ | ⟨j, hj, e⟩
    · rw [e]; exact (z1.tm j hj).mono h1
    · rw [e]; exact (z2.tm j hj).mono h2
end
/-! what is left of what is left -/
theorem IsL.inc {h f : Rat → Rat} {t : Rat} (e : ∀ s, 0 ≤ s → s ≤ t → h s = f s) (inc : ∀ x y, 0 ≤ x → x ≤ y → f x ≤ f y) (f0 : 0 ≤ f 0) (t0 : 0 ≤ t) : IsL h t (f t) := by
  refine ⟨Rat.le_trans f0 (inc 0 t Rat.le_refl t0), .inr ⟨t, t0, Rat.le_refl, e t t0 Rat.le_refl⟩, fun s s0 s1 => by rw [e s s0 s1]; exact inc s t s0 s1⟩
theorem IsL.pos {h g : Rat → Rat} {t v : Rat} (e : ∀ s, 0 ≤ s → s ≤ t → g s = mx 0 (h s)) (t0 : 0 ≤ t) (a : IsL h t v) : IsL g t v := by
  refine ⟨a.1, ?_, fun s s0 s1 => ?_⟩
  · rcases a.2.1 with z | ⟨u, u0, u1, z⟩
    · exact .inl z
    · refine .inr ⟨u, u0, u1, ?_⟩
      rw [e u u0 u1]
      unfold mx
      have := a.1
      split
      · exact z
      · grind
  · rw [e s s0 s1]
    unfold mx
    split
    · exact a.2.2 s s0 s1
    · exact a.1
theorem IsL.twice {f g : Rat → Rat} {l : Rat → Rat} {h : Rat → Rat} {t v : Rat} (t0 : 0 ≤ t) (hl : ∀ s, 0 ≤ s → s ≤ t → IsL (fun x => f x - g x) s (l s)) (inc : ∀ x y, 0 ≤ x → x ≤ y → h x ≤ h y) (h0 : 0 ≤ h 0) (a : IsL (fun x => l x - h x) t v) : IsL (fun x => f x - (g x + h x)) t v := by
  refine ⟨a.1, ?_, fun s s0 s1 => ?_⟩
  · by_cases z : v = 0
    · exact .inl z
    · right
      rcases a.2.1 with e | ⟨u, u0, u1, e⟩
      · exact absurd e z
      have e : l u - h u = v := e
      have hu := Rat.le_trans h0 (inc 0 u Rat.le_refl u0)
      have v0 := a.1
      rcases (hl u u0 u1).2.1 with e2 | ⟨w, w0, w1, e2⟩
      · exact absurd (show v = 0 by grind) z
      have e2 : f w - g w = l u := e2
      have hw := inc w u w0 w1
      have lw := (hl w w0 (Rat.le_trans w1 u1)).2.2 w w0 Rat.le_refl
      have lw : f w - g w ≤ l w := lw
      have aw := a.2.2 w w0 (Rat.le_trans w1 u1)
      have aw : l w - h w ≤ v := aw
      exact ⟨w, w0, Rat.le_trans w1 u1, by show f w - (g w + h w) = v; grind⟩
  · have ls := (hl s s0 s1).2.2 s s0 Rat.le_refl
    have ls : f s - g s ≤ l s := ls
    have as := a.2.2 s s0 s1
    have as : l s - h s ≤ v := as
    show f s - (g s + h s) ≤ v
    grind
theorem snoc_all {C : Cs} {x y : Rat} {p g : Nat} (h : ∀ j, j < C.length → Sz p (tt C j) ∧ Sz g (vv C j)) (hx : Sz p x) (hy : Sz g y) : ∀ j, j < (C ++ [(x, y)]).length → Sz p (tt (C ++ [(x, y)]) j) ∧ Sz g (vv (C ++ [(x, y)]) j) := fun j hj => by
  rw [len_snoc] at hj
  by_cases e : j < C.length
  · rw [tt_l e, vv_l e]; exact h j e
  · have : j = C.length := by omega
    subst this
    rw [tt_r, vv_r]
    exact ⟨hx, hy⟩
theorem nought_ls : LS 1 1 1 [(0, 0)] 0 := by
  refine Ln.ls (Ln.one Sz.zero (by rw [show (0 : Rat) - 0 * 0 = 0 by grind]; exact Sz.zero)) (Ord.one Rat.le_refl) (fun i hi => ?_)
  have : i = 0 := by have : i < 1 := hi; omega
  subst this
  exact Sz.zero
end CH
namespace L3
open PySem PySem.Spec PyProof.Rows L2
section
variable {X : L2.Cx} {e1 e2 : Expr} {ti te : TE3} {pos : Pos}
theorem Iss.ins {K : PySem.W.Frag} {H : Hp} {vs : List V} {xs : List D} {v : V} {x : D} (h : Iss K H vs xs) (j : Nat) (hx : Is K H v x) : Iss K H (vs.take j ++ v :: vs.drop j) (xs.take j ++ x :: xs.drop j) := by
  have ht : Iss K H (vs.take j) (xs.take j) := by
    refine ⟨by simp [h.1], fun i w y h1 h2 => ?_⟩
    rw [List.getElem?_take] at h1 h2
    by_cases c : i < j
    · rw [if_pos c] at h1 h2
      exact h.2 i w y h1 h2
    · rw [if_neg c] at h1
      cases h1
  have hd : Iss K H (v :: vs.drop j) (x :: xs.drop j) := by
    refine ⟨by simp [h.1], fun i w y h1 h2 => ?_⟩
    cases i with
    | zero =>
      simp only [List.getElem?_cons_zero, Option.some.injEq] at h1 h2
      subst h1 h2
      exact hx
    | succ i =>
      simp only [List.getElem?_cons_succ, List.getElem?_drop] at h1 h2
      exact h.2 _ w y h1 h2
  exact ht.append hd
end
end L3
namespace CH
open PySem L2 L3
/-! ### a difference that is a curve; what is served -/
section
variable {a b c a2 b2 c2 : Nat} {cs ds : Cs} {m k : Rat} {ts : List Rat}
theorem gcs_ord (o : Ord cs) (p : Ord ds) (t : Tms cs ds ts) (inc : ∀ x y, 0 ≤ x → x ≤ y → gap cs m ds k x ≤ gap cs m ds k y) (g0 : 0 ≤ gap cs m ds k 0) : Ord (gcs cs m ds k ts) := by
  have n := t.ne
  refine ⟨by rw [gcs_len]; exact n, by rw [(gcs_at n).1]; exact t.t0, by rw [(gcs_at n).2, t.t0]; exact g0, fun i hi => ?_, fun i hi => ?_⟩
  · rw [gcs_len] at hi
    rw [(gcs_at (show i < ts.length by omega)).1, (gcs_at hi).1]; exact t.up i hi
  · rw [gcs_len] at hi
    have i0 : i < ts.length := by omega
    rw [(gcs_at i0).2, (gcs_at hi).2]
    exact inc _ _ (T_nn t i0) (Rat.le_of_lt (t.up i hi))
theorem gcs_last (o : Ord cs) (p : Ord ds) (t : Tms cs ds ts) (inc : ∀ x y, 0 ≤ x → x ≤ y → gap cs m ds k x ≤ gap cs m ds k y) : 0 ≤ m - k := by
  have n := t.ne
  have hi : ts.length - 1 < ts.length := by omega
  obtain ⟨l1, l2⟩ := gap_lin (m := m) (k := k) o p t hi
  rw [slp_out (by rw [gcs_len]; omega)] at l1
  have t0 := T_nn t hi
  have e := l1 (T ts (ts.length - 1) + 1) (by grind) (fun z => absurd z (by omega))
  have := inc (T ts (ts.length - 1)) (T ts (ts.length - 1) + 1) t0 (by grind)
  grind
theorem gcs_val (o : Ord cs) (p : Ord ds) (t : Tms cs ds ts) (O : Ord (gcs cs m ds k ts)) {x : Rat} (x0 : 0 ≤ x) : val (gcs cs m ds k ts) (m - k) x = gap cs m ds k x := by
  obtain ⟨i, hi, h1, h2⟩ := piece_of t.ne t.t0 x0
  have on : On (gcs cs m ds k ts) i x := ⟨by rw [gcs_len]; exact hi, by rw [(gcs_at hi).1]; exact h1, fun z => by rw [gcs_len] at z; rw [(gcs_at z).1]; exact h2 z⟩
  rw [val_on O.up on, (gcs_at hi).1, (gcs_at hi).2, (gap_lin (m := m) (k := k) o p t hi).1 x h1 h2]
theorem gcs_ls (o : Ord cs) (p : Ord ds) (t : Tms cs ds ts) (O : Ord (gcs cs m ds k ts)) (z1 : LS a b c cs m) (z2 : LS a2 b2 c2 ds k) {n : Nat} (h1 : a ≤ n) (h2 : a2 ≤ n) : LS n (b + b2 + 1) (c + c2 + 1) (gcs cs m ds k ts) (m - k) := by
  refine Ln.ls (fun i hi => ?_) O (fun i hi => ?_)
  · rw [gcs_len] at hi
    have t0 := T_nn t hi
    have es : slp (gcs cs m ds k ts) (m - k) i = sat cs m (T ts i) - sat ds k (T ts i) := (gap_lin (m := m) (k := k) o p t hi).2
    rw [es, (gcs_at hi).1, (gcs_at hi).2]
    exact ⟨(z1.sl _ t0).sub (z2.sl _ t0), gap_ic z1 z2 t0⟩
  · rw [gcs_len] at hi
    rw [(gcs_at hi).1]
    rcases t.of i hi with ⟨j, hj, e⟩ | ⟨j, hj, e⟩
    · rw [e]; exact (z1.tm j hj).mono h1
    · rw [e]; exact (z2.tm j hj).mono h2
end
theorem left_inc {C A L : Rat → Rat} (cm : ∀ x y, 0 ≤ x → x ≤ y → C x ≤ C y) (am : ∀ x y, 0 ≤ x → x ≤ y → A x ≤ A y) (hl : ∀ t, 0 ≤ t → IsL (fun x => C x - A x) t (L t)) {x y : Rat} (x0 : 0 ≤ x) (xy : x ≤ y) : C x - L x ≤ C y - L y := by
  have y0 := Rat.le_trans x0 xy
  have hx := hl x x0
  have hy := hl y y0
  have c1 := cm x y x0 xy
  rcases hy.2.1 with e | ⟨s, s0, s1, e⟩
  · have := hx.1
    grind
  · have e : C s - A s = L y := e
    by_cases c : s ≤ x
    · have h := hx.2.2 s s0 c
      have h : C s - A s ≤ L x := h
      grind
    · have h := hx.2.2 x x0 Rat.le_refl
      have h : C x - A x ≤ L x := h
      have a1 := am x s x0 (by grind)
      have c2 := cm s y s0 s1
      grind
theorem left_zero {C A L : Rat → Rat} (c0 : 0 ≤ C 0) (a0 : 0 ≤ A 0) (hl : IsL (fun x => C x - A x) 0 (L 0)) : 0 ≤ C 0 - L 0 := by
  rcases hl.2.1 with e | ⟨s, s0, s1, e⟩
  · grind
  · have e : C s - A s = L 0 := e
    have : s = 0 := by grind
    subst this
    grind
/-! ### times of several curves -/
structure Tm1 (cs : Cs) (ts : List Rat) : Prop where
  ne : 0 < ts.length
  t0 : T ts 0 = 0
  up : ∀ i, i + 1 < ts.length → T ts i < T ts (i + 1)
  a : ∀ k, k < cs.length → ∃ i, i < ts.length ∧ T ts i = tt cs k
theorem Tm1.nn {cs : Cs} {ts : List Rat} (t : Tm1 cs ts) {i : Nat} (h : i < ts.length) : 0 ≤ T ts i := by
  have := T_mono t.up (i := 0) (j := i) (by omega) h
  rw [t.t0] at this
  exact this
theorem Tm1.on {cs : Cs} {ts : List Rat} (o : Ord cs) (t : Tm1 cs ts) {i : Nat} (hi : i < ts.length) {x : Rat} (h1 : T ts i ≤ x) (h2 : i + 1 < ts.length → x ≤ T ts (i + 1)) : On cs (plc cs (T ts i) cs.length) x := by
  have on := plc_on o (t.nn hi)
  obtain ⟨_, p2, p3⟩ := plc_spec (cs := cs) (t := T ts i) (by rw [o.t0]; exact t.nn hi) cs.length o.ne
  refine ⟨on.lt, by have := on.lo; grind, fun c => ?_⟩
  have lt := p3 _ (Nat.lt_succ_self _) c
  obtain ⟨j, hj, ej⟩ := t.a _ c
  have ij : i < j := by
    by_cases z : i < j
    · exact z
    · have := T_mono t.up (i := j) (j := i) (by omega) hi
      rw [ej] at this
      grind
  have := h2 (by omega)
  have h3 := T_mono t.up (i := i + 1) (j := j) (by omega) hj
  rw [ej] at h3
  grind
theorem Tm1.line {cs : Cs} {ts : List Rat} {m : Rat} (o : Ord cs) (t : Tm1 cs ts) {i : Nat} (hi : i < ts.length) {x : Rat} (h1 : T ts i ≤ x) (h2 : i + 1 < ts.length → x ≤ T ts (i + 1)) :
    val cs m x = val cs m (T ts i) + sat cs m (T ts i) * (x - T ts i) := by
  rw [val_on o.up (t.on o hi h1 h2), val_on o.up (t.on o hi Rat.le_refl (fun c => Rat.le_of_lt (t.up i c)))]
  show _ = vv cs _ + _ + slp cs m (plc cs (T ts i) cs.length) * (x - T ts i)
  grind
def Asc (ts : List Rat) : Prop := ts.Pairwise (· < ·)
theorem Asc.T {ts : List Rat} (a : Asc ts) : ∀ i, i + 1 < ts.length → T ts i < T ts (i + 1) := fun i hi => by
  rw [T_get (show i < ts.length by omega), T_get hi]
  exact List.pairwise_iff_getElem.mp a i (i + 1) (by omega) hi (by omega)
theorem Asc.ins {ts : List Rat} {x : Rat} {k : Nat} (a : Asc ts) (h1 : ∀ i (hi : i < ts.length), i < k → ts[i] < x) (h2 : ∀ i (hi : i < ts.length), k ≤ i → x < ts[i]) : Asc (ts.take k ++ x :: ts.drop k) := by
  refine List.pairwise_append.mpr ⟨List.Pairwise.sublist (List.take_sublist k ts) a, List.pairwise_cons.mpr ⟨fun y hy => ?_, List.Pairwise.sublist (List.drop_sublist k ts) a⟩, fun y hy z hz => ?_⟩
  · obtain ⟨i, hi, rfl⟩ := List.getElem_of_mem hy
    rw [List.getElem_drop]
    exact h2 _ _ (by omega)
  · obtain ⟨i, hi, rfl⟩ := List.getElem_of_mem hy
    rw [List.getElem_take]
    have hk : i < k := by rw [List.length_take] at hi; omega
    have hl : i < ts.length := by rw [List.length_take] at hi; omega
    have l1 := h1 i hl hk
    rcases List.mem_cons.mp hz with rfl | hz
    · exact l1
    · obtain ⟨j, hj, rfl⟩ := List.getElem_of_mem hz
      rw [List.getElem_drop]
      have l2 := h2 (k + j) (by rw [List.length_drop] at hj; omega) (by omega)
      grind
/-- the times of all corners of the curves, in their order, each once -/
structure TmA (fs : List (Cs × Rat)) (ts : List Rat) : Prop where
  asc : Asc ts
  of : ∀ t ∈ ts, ∃ f ∈ fs, ∃ k, k < f.1.length ∧ t = tt f.1 k
  all : ∀ f ∈ fs, ∀ k, k < f.1.length → tt f.1 k ∈ ts
theorem TmA.one {fs : List (Cs × Rat)} {ts : List Rat} (h : TmA fs ts) (ho : ∀ f ∈ fs, Ord f.1) {f : Cs × Rat} (hf : f ∈ fs) : Tm1 f.1 ts := by
  have o := ho f hf
  have m0 := h.all f hf 0 o.ne
  rw [o.t0] at m0
  obtain ⟨j, hj, ej⟩ := List.getElem_of_mem m0
  have ne : 0 < ts.length := by omega
  have nn : 0 ≤ T ts 0 := by
    obtain ⟨g, hg, k, hk, e⟩ := h.of (T ts 0) (by rw [T_get ne]; exact List.getElem_mem ne)
    rw [e]
    have := tt_mono (ho g hg).up (i := 0) (j := k) (by omega) hk
    rw [(ho g hg).t0] at this
    exact this
  have le := T_mono h.asc.T (i := 0) (j := j) (by omega) hj
  rw [T_get hj, ej] at le
  refine ⟨ne, by grind, h.asc.T, fun k hk => ?_⟩
  obtain ⟨i, hi, e⟩ := List.getElem_of_mem (h.all f hf k hk)
  exact ⟨i, hi, by rw [T_get hi]; exact e⟩
end CH
namespace CH
open PySem L2 L3
/-! ### the leaving walked -/
/-- of sizes by corners -/
theorem LS.ln {a b c : Nat} {cs : Cs} {m : Rat} (z : LS a b c cs m) (o : Ord cs) : Ln b c cs m := fun i hi => by
  have t0 : 0 ≤ tt cs i := by
    have := tt_mono o.up (i := 0) (j := i) (by omega) hi
    rw [o.t0] at this
    exact this
  have e : sat cs m (tt cs i) = slp cs m i := by
    unfold sat
    rw [plc_eq o.up (k := i) Rat.le_refl (fun h => o.up i h) _ hi (Nat.le_refl _)]
  have z1 := z.sl _ t0
  have z2 := z.ic _ t0
  rw [e] at z1 z2
  rw [val_at o hi] at z2
  exact ⟨z1, z2⟩
/-- the moments: the times, and one more a length of 1 behind the last -/
theorem Tm1.more {cs : Cs} {ts : List Rat} (t : Tm1 cs ts) : Tm1 cs (ts ++ [T ts (ts.length - 1) + 1]) := by
  have n := t.ne
  have ll : (ts ++ [T ts (ts.length - 1) + 1]).length = ts.length + 1 := by simp
  refine ⟨by omega, by rw [T_l n]; exact t.t0, fun i hi => ?_, fun k hk => ?_⟩
  · by_cases c : i + 1 < ts.length
    · rw [T_l c, T_l (by omega)]; exact t.up i c
    · rw [show i + 1 = ts.length by omega, T_r, T_l (by omega), show i = ts.length - 1 by omega]
      grind
  · obtain ⟨i, hi, e⟩ := t.a k hk
    exact ⟨i, by omega, by rw [T_l hi]; exact e⟩
end CH
namespace CH
open PySem L2 L3
/-! ### what several leave one behind the other: how long its numbers are -/
def nxO (ts : List Rat) (i : Nat) : Option Rat := if i < ts.length then some (T ts i) else none
structure LM (h : Rat → Rat) (ts : List Rat) (b g X : Nat) (N : Nat) (C : Cs) (B M : Rat) : Prop where
  l : Lft h C (T ts (N - 1)) B M (nxO ts N)
  n : Ln b g C M
  z : ∀ j, j < C.length → Sz X (tt C j) ∧ Sz g (vv C j)
  zB : Sz g B
  k : C.length ≤ 2 * N
section
variable {h : Rat → Rat} {ts : List Rat} {S : Nat → Rat} {a b c g X : Nat}
theorem lm_turn (up : ∀ i, i + 1 < ts.length → T ts i < T ts (i + 1)) {i : Nat} (hi : i < ts.length)
    (lin : ∀ x, T ts i ≤ x → (i + 1 < ts.length → x ≤ T ts (i + 1)) → h x = h (T ts i) + S i * (x - T ts i))
    (zt : Sz a (T ts i)) (zs : Sz b (S i)) (zi : Sz c (h (T ts i) - S i * T ts i)) (hc : c ≤ g) (ha : a ≤ X) (hX : g + c + 1 + b ≤ X) (hb : 1 ≤ b) {C : Cs} {B : Rat}
    (L0 : Lf0 h (C ++ [(T ts i, B)]) (T ts i) B) (N0 : ∀ M', Sz b M' → Sz g (B - M' * T ts i) → Ln b g (C ++ [(T ts i, B)]) M') (zC : ∀ j, j < C.length → Sz X (tt C j) ∧ Sz g (vv C j)) (zB : Sz g B) (hk : C.length ≤ 2 * i) :
    ∃ (C' : Cs) (B' M' : Rat), LM h ts b g X (i + 1) C' B' M' := by
  have gB : h (T ts i) ≤ B := L0.l.2.2 _ L0.t0 Rat.le_refl
  have k1 : (C ++ [(T ts i, B)]).length + 1 ≤ 2 * (i + 1) := by rw [len_snoc]; omega
  have zC' : ∀ j, j < (C ++ [(T ts i, B)]).length → Sz X (tt (C ++ [(T ts i, B)]) j) ∧ Sz g (vv (C ++ [(T ts i, B)]) j) := snoc_all zC (zt.mono ha) zB
  have flat : Ln b g (C ++ [(T ts i, B)]) 0 := N0 0 (Sz.zero.mono hb) (by rw [show B - 0 * T ts i = B by grind]; exact zB)
  have hnx : ∀ u, nxO ts (i + 1) = some u → T ts i < u := fun u hu => by
    unfold nxO at hu
    split at hu
    · next z => cases hu; exact up i z
    · cases hu
  obtain ⟨t1, t2, t3⟩ := L0.turn (s := S i) rfl hnx (fun x x1 x2 => lin x x1 fun z => x2 _ (by unfold nxO; rw [if_pos z]))
  by_cases cB : h (T ts i) < B
  · by_cases ab : Ab h B (S i) (nxO ts (i + 1))
    · obtain ⟨s0, t3⟩ := t3 cB ab
      have sne : S i ≠ 0 := by grind
      have xz : Sz X (T ts i + (B - h (T ts i)) / S i) := by
        have q := (zB.sub zi).div zs sne
        rw [show T ts i + (B - h (T ts i)) / S i = (B - (h (T ts i) - S i * T ts i)) / S i by grind]
        exact q.mono hX
      refine ⟨_, B, S i, t3, flat.snoc ?_ zs ?_, snoc_all zC' xz zB, zB, by rw [len_snoc]; exact k1⟩
      · have ln : (C ++ [(T ts i, B)]).length - 1 = C.length := by rw [len_snoc]; omega
        rw [ln, vv_r]
        show (B - B) / _ = 0
        rw [show B - B = 0 by grind, Rat.div_def, Rat.zero_mul]
      · show Sz g (B - S i * (T ts i + (B - h (T ts i)) / S i))
        rw [show B - S i * (T ts i + (B - h (T ts i)) / S i) = h (T ts i) - S i * T ts i by grind]
        exact zi.mono hc
    · exact ⟨_, B, 0, t2 cB ab, flat, zC', zB, by omega⟩
  · refine ⟨_, B, mx 0 (S i), t1 cB, ?_, zC', zB, by omega⟩
    rcases (mx_le 0 (S i)).2.2 with z | z
    · rw [z]; exact flat
    · rw [z]
      have eG : B = h (T ts i) := by grind
      exact N0 _ zs (by rw [eG]; exact zi.mono hc)
theorem left_made (ne : 0 < ts.length) (t0 : T ts 0 = 0) (up : ∀ i, i + 1 < ts.length → T ts i < T ts (i + 1))
    (lin : ∀ i, i < ts.length → ∀ x, T ts i ≤ x → (i + 1 < ts.length → x ≤ T ts (i + 1)) → h x = h (T ts i) + S i * (x - T ts i))
    (zt : ∀ i, i < ts.length → Sz a (T ts i)) (zs : ∀ i, i < ts.length → Sz b (S i)) (zi : ∀ i, i < ts.length → Sz c (h (T ts i) - S i * T ts i)) (zh : ∀ i, i < ts.length → Sz g (h (T ts i)))
    (hc : c ≤ g) (ha : a ≤ X) (hX : g + c + 1 + b ≤ X) (hb : 1 ≤ b) (hg : 1 ≤ g) :
    ∃ (C : Cs) (M : Rat), Ord C ∧ 0 ≤ M ∧ (∀ t, 0 ≤ t → IsL h t (val C M t)) ∧ LS X b g C M ∧ C.length ≤ 2 * ts.length := by
  have all : ∀ n, n < ts.length → ∃ (C : Cs) (B M : Rat), LM h ts b g X (n + 1) C B M := by
    intro n
    induction n with
    | zero =>
      intro _
      have ml := mx_le 0 (h 0)
      have zB : Sz g (mx 0 (h (T ts 0))) := by
        rcases (mx_le 0 (h (T ts 0))).2.2 with z | z
        · rw [z]; exact Sz.zero.mono hg
        · rw [z]; exact zh 0 ne
      have l0 : IsL h 0 (mx 0 (h 0)) := by
        refine ⟨ml.1, ?_, fun s s0 s1 => ?_⟩
        · rcases ml.2.2 with z | z
          · exact .inl z
          · exact .inr ⟨0, Rat.le_refl, Rat.le_refl, z.symm⟩
        · have : s = 0 := by grind
          rw [this]
          exact ml.2.1
      refine lm_turn (C := []) up ne (lin 0 ne) (zt 0 ne) (zs 0 ne) (zi 0 ne) hc ha hX hb (B := mx 0 (h (T ts 0))) ?_ (fun M' h1 h2 => Ln.one h1 h2) (fun j hj => absurd hj (Nat.not_lt_zero j)) zB (Nat.zero_le _)
      rw [t0]
      refine ⟨Ord.one ml.1, rfl, rfl, l0, fun M t t0 t1 => ?_⟩
      have : t = 0 := by grind
      subst this
      show IsL _ 0 (val [(0, mx 0 (h 0))] M 0)
      rw [val_zero (Ord.one ml.1)]
      exact l0
    | succ n ih =>
      intro hn
      obtain ⟨C, B, M, lm⟩ := ih (by omega)
      have l := lm.l
      have e : nxO ts (n + 1) = some (T ts (n + 1)) := by unfold nxO; rw [if_pos hn]
      rw [e] at l
      have u := up n hn
      have T0 : 0 ≤ T ts n := by
        have := T_mono up (i := 0) (j := n) (by omega) (by omega)
        rw [t0] at this
        exact this
      have iB := l.l.nxt T0 rfl (Rat.le_of_lt u) (fun x x1 x2 => lin n (by omega) x x1 (fun _ => x2))
      have zB : Sz g (mx B (h (T ts (n + 1)))) := by
        rcases (mx_le B (h (T ts (n + 1)))).2.2 with z | z
        · rw [z]; exact lm.zB
        · rw [z]; exact zh _ hn
      exact lm_turn up hn (lin _ hn) (zt _ hn) (zs _ hn) (zi _ hn) hc ha hX hb (l.step iB) (fun M' h1 h2 => lm.n.snoc (l.slope iB) h1 h2) lm.z zB lm.k
  obtain ⟨C, B, M, lm⟩ := all (ts.length - 1) (by omega)
  have l := lm.l
  rw [show nxO ts (ts.length - 1 + 1) = none by unfold nxO; rw [if_neg (by omega)]] at l
  exact ⟨C, M, l.o, l.M0, fun t t0 => l.v t t0 (fun u hu => by cases hu), lm.n.ls l.o (fun j hj => (lm.z j hj).1), by have := lm.k; omega⟩
end
theorem asc_more {ts : List Rat} (a : Asc ts) (x : Rat) : ∃ us, Asc us ∧ (∀ y, y ∈ us ↔ y = x ∨ y ∈ ts) ∧ us.length ≤ ts.length + 1 := by
  refine ⟨ts.filter (fun y => decide (y < x)) ++ x :: ts.filter (fun y => decide (x < y)), ?_, fun y => ?_, ?_⟩
  · refine List.pairwise_append.mpr ⟨List.Pairwise.sublist List.filter_sublist a, List.pairwise_cons.mpr ⟨fun y hy => ?_, List.Pairwise.sublist List.filter_sublist a⟩, fun y hy z hz => ?_⟩
    · exact of_decide_eq_true (List.mem_filter.mp hy).2
    · have h1 : y < x := of_decide_eq_true (List.mem_filter.mp hy).2
      rcases List.mem_cons.mp hz with rfl | hz
      · exact h1
      · have h2 : x < z := of_decide_eq_true (List.mem_filter.mp hz).2
        grind
  · simp only [List.mem_append, List.mem_cons, List.mem_filter, decide_eq_true_eq]
    constructor
    · rintro (h | h | h)
      · exact .inr h.1
      · exact .inl h
      · exact .inr h.1
    · rintro (h | h)
      · exact .inr (.inl h)
      · by_cases c : y < x
        · exact .inl ⟨h, c⟩
        · by_cases d : x < y
          · exact .inr (.inr ⟨h, d⟩)
          · exact .inr (.inl (by grind))
  · rw [List.length_append, List.length_cons]
    have : (ts.filter (fun y => decide (y < x))).length + (ts.filter (fun y => decide (x < y))).length ≤ ts.length := by
      clear a
      induction ts with
      | nil => simp
      | cons z ts ih =>
        by_cases c : z < x
        · have d : ¬ x < z := by grind
          rw [List.filter_cons_of_pos (by simpa using c), List.filter_cons_of_neg (by simpa using d), List.length_cons, List.length_cons]
          omega
        · by_cases d : x < z
          · rw [List.filter_cons_of_neg (by simpa using c), List.filter_cons_of_pos (by simpa using d), List.length_cons, List.length_cons]
            omega
          · rw [List.filter_cons_of_neg (by simpa using c), List.filter_cons_of_neg (by simpa using d), List.length_cons]
            omega
    omega
theorem asc_of (xs : List Rat) : ∃ us, Asc us ∧ (∀ y, y ∈ us ↔ y ∈ xs) ∧ us.length ≤ xs.length := by
  induction xs with
  | nil => exact ⟨[], List.Pairwise.nil, fun y => Iff.rfl, Nat.le_refl _⟩
  | cons x xs ih =>
    obtain ⟨us, a, h, k⟩ := ih
    obtain ⟨vs, b, g, l⟩ := asc_more a x
    exact ⟨vs, b, fun y => by rw [g, h, List.mem_cons], by rw [List.length_cons]; omega⟩
def sumL (fs : List (Cs × Rat)) : Nat := (fs.map fun f => f.1.length).sum
theorem tmA_of' (fs : List (Cs × Rat)) : ∃ ts, TmA fs ts ∧ ts.length ≤ sumL fs := by
  obtain ⟨us, a, h, l⟩ := asc_of (fs.flatMap fun f => (List.range f.1.length).map (tt f.1))
  refine ⟨us, ⟨a, fun t ht => ?_, fun f hf k hk => ?_⟩, Nat.le_trans l (by unfold sumL; rw [List.length_flatMap]; simp)⟩
  · obtain ⟨f, hf, ht⟩ := List.mem_flatMap.mp ((h t).mp ht)
    obtain ⟨k, hk, e⟩ := List.mem_map.mp ht
    exact ⟨f, hf, k, List.mem_range.mp hk, e.symm⟩
  · exact (h _).mpr (List.mem_flatMap.mpr ⟨f, hf, List.mem_map.mpr ⟨k, List.mem_range.mpr hk, rfl⟩⟩)
def ssm (fs : List (Cs × Rat)) (t : Rat) : Rat := (fs.map fun f => sat f.1 f.2 t).foldr (· + ·) 0
theorem ssm_cons (f : Cs × Rat) (fs : List (Cs × Rat)) (t : Rat) : ssm (f :: fs) t = sat f.1 f.2 t + ssm fs t := rfl
theorem sm_sz {a b c : Nat} : ∀ (fs : List (Cs × Rat)), (∀ f ∈ fs, LS a b c f.1 f.2) → ∀ t, 0 ≤ t → Sz (fs.length * (b + 1) + 1) (ssm fs t) ∧ Sz (fs.length * (c + 1) + 1) (sm fs t - ssm fs t * t)
  | [], _, t, _ => ⟨Sz.zero.mono (by simp), by
      rw [show sm [] t - ssm [] t * t = 0 by rw [sm_nil]; show (0 : Rat) - 0 * t = 0; grind]
      exact Sz.zero.mono (by simp)⟩
  | f :: fs, h, t, t0 => by
    obtain ⟨h1, h2⟩ := sm_sz fs (fun f hf => h f (List.mem_cons.mpr (.inr hf))) t t0
    have z := h f (List.mem_cons.mpr (.inl rfl))
    have q := (z.ic t t0).add h2
    rw [show val f.1 f.2 t - sat f.1 f.2 t * t + (sm fs t - ssm fs t * t) = sm (f :: fs) t - ssm (f :: fs) t * t by rw [sm_cons, ssm_cons]; grind] at q
    rw [ssm_cons, List.length_cons, Nat.add_mul, Nat.add_mul]
    exact ⟨((z.sl t t0).add h1).mono (by omega), q.mono (by omega)⟩
theorem sm_line {ts : List Rat} : ∀ (fs : List (Cs × Rat)), (∀ f ∈ fs, Ord f.1 ∧ Tm1 f.1 ts) → ∀ {i : Nat}, i < ts.length → ∀ x, T ts i ≤ x → (i + 1 < ts.length → x ≤ T ts (i + 1)) → sm fs x = sm fs (T ts i) + ssm fs (T ts i) * (x - T ts i)
  | [], _, i, _, x, _, _ => by rw [sm_nil, sm_nil]; show (0 : Rat) = 0 + 0 * _; grind
  | f :: fs, h, i, hi, x, h1, h2 => by
    obtain ⟨o, t⟩ := h f (List.mem_cons.mpr (.inl rfl))
    have e := t.line (m := f.2) o hi h1 h2
    have e2 := sm_line fs (fun f hf => h f (List.mem_cons.mpr (.inr hf))) hi x h1 h2
    rw [sm_cons, sm_cons, ssm_cons, e, e2]
    grind
/-- what several curves leave of one: its canonical form has short numbers -/
theorem rest_ls2 {a b c bH cH : Nat} {H : Cs} {mH : Rat} {fs : List (Cs × Rat)} (oH : Ord H) (zH : LS a bH cH H mH) (hf : ∀ f ∈ fs, Ord f.1 ∧ LS a b c f.1 f.2) {C : Cs} {M : Rat} (hC : Crv C M) (v : ∀ t, 0 ≤ t → IsL (fun x => val H mH x - sm fs x) t (val C M t)) {b' c' g X : Nat}
    (h1 : bH + fs.length * (b + 1) + 2 ≤ b') (h2 : cH + fs.length * (c + 1) + 2 ≤ c') (h3 : b' + c' + a + 1 ≤ g) (h4 : g + c' + b' + 1 ≤ X) : LS X b' g C M ∧ C.length ≤ 2 * sumL ((H, mH) :: fs) := by
  obtain ⟨ts, ta, tlen⟩ := tmA_of' ((H, mH) :: fs)
  have ho : ∀ f ∈ (H, mH) :: fs, Ord f.1 := fun f h => by
    rcases List.mem_cons.mp h with rfl | h
    · exact oH
    · exact (hf f h).1
  have t1 : Tm1 H ts := ta.one (f := (H, mH)) ho (List.mem_cons.mpr (.inl rfl))
  have tf : ∀ f ∈ fs, Ord f.1 ∧ Tm1 f.1 ts := fun f h => ⟨(hf f h).1, ta.one ho (List.mem_cons.mpr (.inr h))⟩
  have nn : ∀ i, i < ts.length → 0 ≤ T ts i := fun i hi => t1.nn hi
  have zt : ∀ i, i < ts.length → Sz a (T ts i) := fun i hi => by
    obtain ⟨f, h, k, hk, e⟩ := ta.of (T ts i) (by rw [T_get hi]; exact List.getElem_mem hi)
    rw [e]
    rcases List.mem_cons.mp h with rfl | h
    · exact zH.tm k hk
    · exact (hf f h).2.tm k hk
  have ss := fun i hi => sm_sz fs (fun f h => (hf f h).2) (T ts i) (nn i hi)
  have zs : ∀ i, i < ts.length → Sz b' (sat H mH (T ts i) - ssm fs (T ts i)) := fun i hi => ((zH.sl _ (nn i hi)).sub (ss i hi).1).mono (by omega)
  have zi : ∀ i, i < ts.length → Sz c' (val H mH (T ts i) - sm fs (T ts i) - (sat H mH (T ts i) - ssm fs (T ts i)) * T ts i) := fun i hi => by
    have q := (zH.ic _ (nn i hi)).sub (ss i hi).2
    rw [show val H mH (T ts i) - sat H mH (T ts i) * T ts i - (sm fs (T ts i) - ssm fs (T ts i) * T ts i) = val H mH (T ts i) - sm fs (T ts i) - (sat H mH (T ts i) - ssm fs (T ts i)) * T ts i by grind] at q
    exact q.mono (by omega)
  obtain ⟨C2, M2, o2, m2, v2, z2, l2⟩ := left_made (h := fun x => val H mH x - sm fs x) (S := fun i => sat H mH (T ts i) - ssm fs (T ts i)) (a := a) (b := b') (c := c') (g := g) (X := X) t1.ne t1.t0 t1.up (fun i hi x x1 x2 => by
    show val H mH x - sm fs x = val H mH (T ts i) - sm fs (T ts i) + (sat H mH (T ts i) - ssm fs (T ts i)) * (x - T ts i)
    rw [t1.line (m := mH) oH hi x1 x2, sm_line fs tf hi x x1 x2]
    grind) zt zs zi (fun i hi => by
    have q := (zi i hi).add ((zs i hi).mul (zt i hi))
    rw [show val H mH (T ts i) - sm fs (T ts i) - (sat H mH (T ts i) - ssm fs (T ts i)) * T ts i + (sat H mH (T ts i) - ssm fs (T ts i)) * T ts i = val H mH (T ts i) - sm fs (T ts i) by grind] at q
    exact q.mono (by omega)) (by omega) (by omega) (by omega) (by omega) (by omega)
  have k2 := kept_crv o2 m2
  obtain ⟨rfl, rfl⟩ := crv_ext hC k2 (fun t t0 => by rw [(val_kp o2 t).1]; exact (v t t0).uniq (v2 t t0))
  have kl := kp_len C2 M ((C2.length) - 1)
  have n2 := o2.ne
  exact ⟨z2.kept o2, by omega⟩
end CH
namespace L3
open PySem PySem.Spec PyProof.Rows L2
/-- a comprehension whose items are not known ahead: what holds of the items made so far -/
def vCompJ (idx : List Nat) (ws : TX3) (tt : TT3) (te : TE3) : TE3 := fun τ R => ws τ fun xs => ∃ J : Nat → List D → Prop, J 0 [] ∧ (∀ n ds, J n ds → ds.length ≤ n) ∧
  (∀ (n : Nat) (x : D) (ds : List D), xs[n]? = some x → J n ds → tt (tauC τ idx x) fun b => if b = true then te (tauC τ idx x) (fun s => dd s.arg fun y => J (n + 1) (ds ++ [y])) else J (n + 1) ds) ∧ xs.length ≤ 100000 ∧ ∀ ds, J xs.length ds → R (.l ds)
section
variable {X : L2.Cx} {x : Str} {px pos : Pos} {scope : Scope} {N : List Str} {idx : List Nat} {elt iter : Expr} {ifs : List Expr} {wi : TI} {ws : TX3} {tt : TT3} {te : TE3}
theorem compJ_imp (hsrc : Src X wi ws) {σ : St} {H : Hp} {Q : VK} (h : FE X (vCompJ idx ws tt te) σ H Q) : tComp X.K idx wi (fun H₀ => FT (cxC X N scope H₀) tt) (fun H₀ => FE (cxC X N scope H₀) te) σ H Q := by
  obtain ⟨B, z, τ, R, r, ht, q⟩ := h
  refine hsrc B τ σ H z _ _ r ht fun J0 p1 xs e1 hP hJ => fun D' hD hK => ?_
  obtain ⟨J, j0, jl, hel, hsz, hR⟩ := hP
  have sz : (100000 : Nat) < sizeLine := by decide
  refine ⟨fun i m ys H' => m = xs.length - i ∧ i ≤ xs.length ∧ ∃ z', Ext p1 ⟨H', z'⟩ ∧ z' D' = none ∧ ∃ ds, Iss X.K z' ys ds ∧ J i ds, ⟨xs.length, rfl, Nat.zero_le _, p1.z, Ext.own e1.sub hD _, e1.sub.free hD, [], Iss.nil, j0⟩, ?_⟩
  rintro i m ys H' hD' ⟨rfl, hi, z', hs, hzD, ds, hiss, hj⟩
  by_cases hlt : i < xs.length
  · obtain ⟨go, yl⟩ := (hJ H' hs.hh).1 i hlt
    refine .inr ⟨go, fun v H'' hy => ?_⟩
    obtain ⟨rfl, d, hx, iv⟩ := yl v H'' hy
    have rr : Rep (cxC X N scope p1.h) p1 (tauC τ idx d) (some v :: caps σ idx) ⟨H'', z'⟩ := rep_comp r e1 hs (iv.mono hs.zz)
    have hys : ys.length ≤ i := by
      rw [hiss.1]
      exact jl i ds hj
    -- the list that is built is none of the data
    have keep : ∀ q : HZ, Ext ⟨H'', z'⟩ q → q.z D' = none := fun q e => by
      cases y : q.z D' with
      | none => rfl
      | some o =>
        rcases e.new D' o y with y | y
        · exact nomatch (hzD.symm.trans y)
        · exact nomatch (hD'.symm.trans y)
    refine ⟨_, _, _, _, rr, hel i d ds hx hj, fun b q3 e3 hb => ?_⟩
    cases b with
    | true =>
      rw [if_pos rfl] at hb ⊢
      refine ⟨_, _, _, _, rr.mono e3, hb, fun s v2 q4 e4 i4 f4 h4 => ?_⟩
      obtain ⟨y, hy', h4⟩ := dd_inv h4
      obtain ⟨z5, e5, i5⟩ := arg_ext e4 i4 f4
      rw [hy'] at i5
      have e35 := e3.trans e5
      have hD4 : q4.h D' = some (.lst ys) := e35.hh _ _ hD'
      have hz5 : z5 D' = none := keep _ e35
      refine ⟨hD4, by omega, xs.length - (i + 1), by omega, rfl, hlt, z5, ?_, hz5, ds ++ [y], ?_, h4⟩
      · have e15 := hs.trans e35
        refine ⟨fun b o hb' => ?_, e15.zz, fun b o hb' => ?_, e15.new⟩
        · have hne : b ≠ D' := by rintro rfl; rw [hD] at hb'; cases hb'
          show upd q4.h D' _ b = some o
          rw [upd_ne hne]
          exact e15.hh b o hb'
        · have hne : b ≠ D' := by
            rintro rfl
            have hb2 : z5 b = some o := hb'
            rw [hz5] at hb2; cases hb2
          show upd q4.h D' _ b = some o
          rw [upd_ne hne]
          exact e15.sub b o hb'
      · exact (hiss.mono e35.zz).snoc i5
    | false =>
      rw [if_neg Bool.false_ne_true] at hb ⊢
      exact ⟨e3.hh _ _ hD', xs.length - (i + 1), by omega, rfl, hlt, q3.z, hs.trans e3, keep _ e3, ds, hiss.mono e3.zz, hb⟩
  · have ei : i = xs.length := by omega
    subst ei
    refine .inl ⟨(hJ H' hs.hh).2 _ (Nat.le_refl _), q (.l ds) _ ⟨H', z'⟩ (e1.trans hs) ⟨D', ys, rfl, hD', hiss⟩ (fun xs a _ h2 => ?_) (hR ds hj)⟩
    · cases h2
      exact ⟨e1.hh.free hD, hK, hzD⟩
theorem s_setCJ {i : Nat} {y : Str} {py spos : Pos} (O : CompOk X x scope N idx) (hc : X.calm = true) (hi : PI X (.Name x px) iter wi) (hsrc : Src X wi ws) (hifs : ∀ cl C s₀ H₀ fp, PIfs3 (cxComp X N scope cl C s₀ H₀ fp) ifs tt) (helt : ∀ cl C s₀ H₀ fp, PE3 (cxComp X N scope cl C s₀ H₀ fp) elt te)
    (hN : X.N.Nodup) (hy : X.N[i]? = some y) (hly : Loc X.env.scope y)
    (hsw : swapsWith (.ListComp elt [⟨.Name x px, iter, ifs, 0⟩] scope pos) (some (.Name y py)) spos.line X.env = pure true := by rfl) (hs : ∀ x, foldedSetIterable iter X.env x = pure x := by intro _; rfl)
    (hfn : X.fn y = true ∨ X.env.scope.names.lookup y = some .local := by first | exact .inl rfl | exact .inr rfl | assumption) (hp : PinOk X i := by first | exact pin_no rfl | exact pin_ne rfl (by decide) | assumption) :
    PS3 X (.Assign [.Name y py] (.ListComp elt [⟨.Name x px, iter, ifs, 0⟩] scope pos) spos) (sSet i (vCompJ idx ws tt te)) :=
  ⟨ps_imp (ps_setComp O hc hi (pifs_cx hifs) (pelt_cx helt) hN hy hly hsw hs hfn) fun D2 σ H hh => by obtain ⟨B, z, τ, D3, r, ht, c⟩ := hh; exact compJ_imp hsrc ⟨B, z, τ, _, r, ht, fun s v H' e i f h => by
    cases s with
    | r _ => exact h.elim
    | d y => exact c.nx _ _ _ (r.set e i f rfl hp) h
    | l ys => exact c.nx _ _ _ (r.set e i f rfl hp) h⟩⟩
end
section
variable {X : L2.Cx} {pos : Pos}
/-- NAME.clear() by itself -/
def sClr (i : Nat) : TS3 := fun D3 τ => match τ[i]? with
  | some (some (.l _)) => D3.nx (τ.set i (some (.l [])))
  | _ => False
theorem s_clear {i : Nat} {o : Expr} {apos cpos : Pos} (h : PS X (.Expr (.Call (.Attribute o "clear" apos) [] [] cpos) pos) (tDrop (tBM0 X.K "list" rClear (tVar i)))) : PS3 X (.Expr (.Call (.Attribute o "clear" apos) [] [] cpos) pos) (sClr i) := ⟨ps_imp h fun D2 σ H hh => by
    obtain ⟨B, z, τ, D3, r, ht, c⟩ := hh
    unfold sClr at ht
    split at ht
    · rename_i xs hs
      obtain ⟨v, h1, a, vs, rfl, h2, h3⟩ := r.val i _ hs
      exact ⟨.ref a, h1, .inl ⟨rfl, vs, SqL.of h2⟩, a, vs, rfl, rfl, h2, c.nx _ _ _ (r.put hs h1 h2 Iss.nil) ht⟩
    · exact ht.elim⟩
end
end L3
namespace CL
open PySem L2 L3 CH
abbrev s_is_whole : Stmt := top 6
abbrev s_divisor : Stmt := top 7
abbrev s_ratio : Stmt := top 10
abbrev s_plus : Stmt := top 11
abbrev s_minus : Stmt := top 12
abbrev s_times : Stmt := top 13
abbrev s_over : Stmt := top 14
abbrev s_under : Stmt := top 15
abbrev s_greater : Stmt := top 16
abbrev s_curve : Stmt := top 18
abbrev s_check_begin : Stmt := top 19
abbrev s_check_rise : Stmt := top 20
abbrev s_heap : Stmt := top 21
abbrev s_value_at : Stmt := top 22
abbrev s_piece_at : Stmt := top 23
abbrev s_check_time : Stmt := top 24
abbrev s_slope_of_piece : Stmt := top 25
abbrev s_slope_between : Stmt := top 26
abbrev s_slopes_behind : Stmt := top 27
abbrev s_time_of : Stmt := top 28
abbrev s_count_while : Stmt := top 29
abbrev s_summed : Stmt := top 31
abbrev s_total : Stmt := top 32
abbrev s_less : Stmt := top 33
abbrev s_corner_rows : Stmt := top 34
abbrev s_corner_times : Stmt := top 35
abbrev s_gap_points : Stmt := top 36
abbrev s_left : Stmt := top 38
abbrev s_comes_above : Stmt := top 39
abbrev s_served : Stmt := top 41
abbrev s_unused : Stmt := top 42
abbrev s_shared : Stmt := top 44
abbrev s__law_cell_at : Stmt := top 46
abbrev s__law_low : Stmt := top 47
abbrev s__law_slopes_by : Stmt := top 48
abbrev s__law_drawn : Stmt := top 49
abbrev s__law_start_by : Stmt := top 50
abbrev s__law_curve_by : Stmt := top 51
abbrev s__law_lists : Stmt := top 52
abbrev s_law : Stmt := top 53
def cl (ns : List Int) (k : Int) : Int := if k < ns.length then cell ns k else 7 * k + 3
theorem line_step {va g x ti u p : Int} (u0 : 0 < u) (p0 : 0 < p) : Rat.divInt (va + g * x) (u * p) = Rat.divInt va (u * p) + Rat.divInt x p * (Rat.divInt (ti + g) u - Rat.divInt ti u) := by
  rw [Rat.divInt_eq_div, Rat.divInt_eq_div, Rat.divInt_eq_div, Rat.divInt_eq_div, Rat.divInt_eq_div, Rat.intCast_add, Rat.intCast_add, Rat.intCast_mul, Rat.intCast_mul]
  have n1 : (u : Rat) ≠ 0 := fun z => absurd (Rat.intCast_eq_zero_iff.mp z) (Int.ne_of_gt u0)
  have n2 : (p : Rat) ≠ 0 := fun z => absurd (Rat.intCast_eq_zero_iff.mp z) (Int.ne_of_gt p0)
  grind
theorem ic_step {v y t u p : Int} (u0 : 0 < u) (p0 : 0 < p) : Rat.divInt v (u * p) - Rat.divInt y p * Rat.divInt t u = Rat.divInt (v - y * t) (u * p) := by
  rw [Rat.divInt_eq_div, Rat.divInt_eq_div, Rat.divInt_eq_div, Rat.divInt_eq_div, Rat.intCast_sub, Rat.intCast_mul, Rat.intCast_mul]
  have n1 : (u : Rat) ≠ 0 := fun z => absurd (Rat.intCast_eq_zero_iff.mp z) (Int.ne_of_gt u0)
  have n2 : (p : Rat) ≠ 0 := fun z => absurd (Rat.intCast_eq_zero_iff.mp z) (Int.ne_of_gt p0)
  grind
theorem at_cell_last {ms : List Int} (h : 0 < ms.length) : atI (ms.map D.int) (-1) = some (.int (cell ms ((ms.length - 1 : Nat) : Int))) := by
  rw [← atI_cell (ms := ms) (i := ((ms.length - 1 : Nat) : Int)) (ms.length - 1) rfl (by omega)]
  unfold atI ixN
  rw [List.length_map, if_neg (by omega), if_pos (by omega), if_pos (by omega), if_pos (by omega)]
  congr 1
  congr 1
  omega
theorem _root_.CH.Wq.nn {k : Nat} {a b : Int} {q : Rat} (h : Wq k a b q) (hq : 0 ≤ q) : 0 ≤ a := by
  have e := h.eq
  have : (0 : Rat) ≤ (a : Rat) := by rw [e]; exact Rat.mul_nonneg hq (Rat.intCast_nonneg.mpr (Int.le_of_lt h.pos))
  exact Rat.intCast_nonneg.mp this
def K4 (cs : Cs) (m : Rat) : Prop := Rise cs m ∧ LS 23 21 44 cs m ∧ cs.length ≤ 4 ∧ Crv cs m ∧ m.den = 1
def Bd (cs : Cs) (M : Rat) : Prop := ∀ i, i + 1 < cs.length → slp cs M i ≠ slp cs M (i + 1)
theorem Bd.snoc {cs : Cs} {c : Rat × Rat} {M M' : Rat} (n : 0 < cs.length) (h : Bd cs M) (e : (c.2 - vv cs (cs.length - 1)) / (c.1 - tt cs (cs.length - 1)) = M) (d : M ≠ M') : Bd (cs ++ [c]) M' := fun i hi => by
  rw [len_snoc] at hi
  by_cases z : i + 1 < cs.length
  · rw [slp_snoc (by omega) e, slp_snoc z e]; exact h i z
  · rw [slp_snoc (by omega) e, show i + 1 = cs.length by omega, slp_last, slp_out z]
    exact d
theorem int_div (x : Int) : Rat.divInt x 1 = (x : Rat) := by rw [Rat.divInt_eq_div]; show (x : Rat) / 1 = x; grind
def F0 (fs : List (Cs × Rat)) (j : Nat) : Cs × Rat := fs.getD j ([], 0)
theorem F0_at {fs : List (Cs × Rat)} {j : Nat} {f : Cs × Rat} (h : fs[j]? = some f) : F0 fs j = f := by unfold F0; rw [List.getD_eq_getElem?_getD, h]; rfl
theorem F0_l {fs : List (Cs × Rat)} {j : Nat} {f : Cs × Rat} (h : j < fs.length) : F0 (fs ++ [f]) j = F0 fs j := by unfold F0; rw [List.getD_eq_getElem?_getD, List.getElem?_append_left h, List.getD_eq_getElem?_getD]
theorem F0_r {fs : List (Cs × Rat)} {f : Cs × Rat} : F0 (fs ++ [f]) fs.length = f := by unfold F0; rw [List.getD_eq_getElem?_getD, List.getElem?_append_right (Nat.le_refl _), Nat.sub_self]; rfl
theorem _root_.CH.IsL.cong {h g : Rat → Rat} {t v : Rat} (a : IsL h t v) (e : ∀ s, 0 ≤ s → s ≤ t → h s = g s) : IsL g t v := by
  refine ⟨a.1, ?_, fun s s0 s1 => by rw [← e s s0 s1]; exact a.2.2 s s0 s1⟩
  rcases a.2.1 with z | ⟨u, u0, u1, z⟩
  · exact .inl z
  · exact .inr ⟨u, u0, u1, by rw [← e u u0 u1]; exact z⟩
theorem dep_crv (cs : Cs) (m : Rat) : depOk 4 (crv cs m) = true := by
  have h : (cs.map cd).all (depOk 2) = true := by
    rw [List.all_eq_true]
    intro x hx
    obtain ⟨c, _, rfl⟩ := List.mem_map.mp hx
    rfl
  show ((cs.map cd).all (depOk 2) && (depOk 3 (qd m) && true)) = true
  rw [h]
  rfl
theorem at_cD {fs : List (Cs × Rat)} {i : Int} (j : Nat) (e : i = (j : Int)) (h : j < fs.length) : atI (fs.map cD) i = some (cD (F0 fs j)) := by
  subst e
  rw [CH.atI_nat (by rw [List.length_map]; exact h), List.getElem?_map, List.getElem?_eq_getElem h, F0_at (List.getElem?_eq_getElem h)]
  rfl
theorem _root_.CH.Tm1.last {cs : Cs} {ts : List Rat} {m : Rat} (o : Ord cs) (t : Tm1 cs ts) : sat cs m (T ts (ts.length - 1)) = m := by
  have n := o.ne
  obtain ⟨j, hj, ej⟩ := t.a (cs.length - 1) (by omega)
  have := T_mono t.up (i := j) (j := ts.length - 1) (by omega) (by have := t.ne; omega)
  rw [ej] at this
  exact sat_end n this
def nP (l : List (Int × Int × Rat)) (i : Nat) : Int := (l.getD i (0, 1, 0)).1
def dP (l : List (Int × Int × Rat)) (i : Nat) : Int := (l.getD i (0, 1, 0)).2.1
def vP (l : List (Int × Int × Rat)) (i : Nat) : Rat := (l.getD i (0, 1, 0)).2.2
def LP (N : Nat) (l : List (Int × Int × Rat)) (n : Nat) (v : Nat → Rat) : Prop := l.length = n ∧ ∀ i, i < n → Wq N (nP l i) (dP l i) (vP l i) ∧ vP l i = v i
theorem LP.nil {N : Nat} {v : Nat → Rat} : LP N [] 0 v := ⟨rfl, fun i hi => absurd hi (Nat.not_lt_zero i)⟩
theorem LP.snoc {N n : Nat} {l : List (Int × Int × Rat)} {v : Nat → Rat} {a b : Int} (h : LP N l n v) (w : Wq N a b (v n)) : LP N (l ++ [(a, b, v n)]) (n + 1) v := by
  obtain ⟨e, f⟩ := h
  refine ⟨by rw [List.length_append, e]; rfl, fun i hi => ?_⟩
  by_cases c : i < n
  · have q : (l ++ [(a, b, v n)]).getD i (0, 1, 0) = l.getD i (0, 1, 0) := by rw [List.getD_eq_getElem?_getD, List.getElem?_append_left (by omega), List.getD_eq_getElem?_getD]
    unfold nP dP vP
    rw [q]
    exact f i c
  · have : i = l.length := by omega
    have q : (l ++ [(a, b, v n)]).getD i (0, 1, 0) = (a, b, v n) := by rw [this, List.getD_eq_getElem?_getD, List.getElem?_append_right (Nat.le_refl _), Nat.sub_self]; rfl
    unfold nP dP vP
    rw [q]
    exact ⟨w, by rw [this, e]⟩
theorem LP.mono {N N' n : Nat} {l : List (Int × Int × Rat)} {v : Nat → Rat} (h : LP N l n v) (hN : N ≤ N') : LP N' l n v := ⟨h.1, fun i hi => ⟨(h.2 i hi).1.mono hN, (h.2 i hi).2⟩⟩
theorem crv_rise {C : Cs} {M : Rat} (c : Crv C M) : Rise C M := ⟨⟨c.ne, c.t0, c.v0, c.up, c.vu⟩, c.m0⟩
theorem crv_same {C E : Cs} {m k : Rat} (h : C = E ∧ m = k) : eqN 4 (crv C m) (crv E k) = true := by
  obtain ⟨rfl, rfl⟩ := h
  exact eqN_refl 4 _ (dep_crv _ _)
theorem tms_ex {cs ds : Cs} (o : Ord cs) (p : Ord ds) : ∃ ts, Tms cs ds ts ∧ ts.length ≤ cs.length + ds.length := by
  obtain ⟨ts, ta, tl⟩ := tmA_of' [(cs, 0), (ds, 0)]
  have ho : ∀ f ∈ [(cs, (0 : Rat)), (ds, 0)], Ord f.1 := fun f h => by
    simp only [List.mem_cons, List.not_mem_nil, or_false] at h
    rcases h with rfl | rfl
    · exact o
    · exact p
  have t1 : Tm1 cs ts := ta.one (f := (cs, 0)) ho (by simp)
  have t2 : Tm1 ds ts := ta.one (f := (ds, 0)) ho (by simp)
  refine ⟨ts, ⟨t1.ne, t1.t0, t1.up, t1.a, t2.a, fun i hi => ?_⟩, by simpa [sumL] using tl⟩
  obtain ⟨f, h, k, hk, e⟩ := ta.of (T ts i) (by rw [T_get hi]; exact List.getElem_mem hi)
  simp only [List.mem_cons, List.not_mem_nil, or_false] at h
  rcases h with rfl | rfl
  · exact .inl ⟨k, hk, e⟩
  · exact .inr ⟨k, hk, e⟩
theorem diff_ls {a b c b2 c2 : Nat} {cs ds : Cs} {m k : Rat} (o : Ord cs) (p : Ord ds) (z1 : LS a b c cs m) (z2 : LS a b2 c2 ds k) {C : Cs} {M : Rat} (hC : Crv C M) (v : ∀ t, 0 ≤ t → val C M t = val cs m t - val ds k t) : LS a (b + b2 + 1) (c + c2 + 1) C M ∧ C.length ≤ cs.length + ds.length := by
  obtain ⟨ts, ht, hl⟩ := tms_ex o p
  have r := crv_rise hC
  have inc : ∀ x y, 0 ≤ x → x ≤ y → gap cs m ds k x ≤ gap cs m ds k y := fun x y x0 xy => by
    show val cs m x - val ds k x ≤ val cs m y - val ds k y
    rw [← v x x0, ← v y (Rat.le_trans x0 xy)]
    exact val_mono r x0 xy
  have g0 : 0 ≤ gap cs m ds k 0 := by
    show 0 ≤ val cs m 0 - val ds k 0
    rw [← v 0 Rat.le_refl, val_zero r.o]
    exact r.o.v0
  have O := gcs_ord o p ht inc g0
  have m0 := gcs_last o p ht inc
  have LL := gcs_ls o p ht O z1 z2 (Nat.le_refl _) (Nat.le_refl _)
  obtain ⟨rfl, rfl⟩ := crv_ext hC (kept_crv O m0) (fun t t0 => by rw [(val_kp O t).1, gcs_val o p ht O t0, v t t0]; rfl)
  have kl := kp_len (gcs cs m ds k ts) (m - k) ((gcs cs m ds k ts).length - 1)
  have n0 := O.ne
  have gl := gcs_len (cs := cs) (m := m) (ds := ds) (k := k) (ts := ts)
  exact ⟨LL.kept O, by omega⟩
theorem sum2_ex {a b c b2 c2 : Nat} {cs ds : Cs} {m k : Rat} (r : Rise cs m) (s : Rise ds k) (z1 : LS a b c cs m) (z2 : LS a b2 c2 ds k) : ∃ (C : Cs) (M : Rat), Crv C M ∧ (∀ t, 0 ≤ t → val C M t = val cs m t + val ds k t) ∧ LS a (b + b2 + 1) (c + c2 + 1) C M ∧ C.length ≤ cs.length + ds.length := by
  obtain ⟨ts, ht, hl⟩ := tms_ex r.o s.o
  have O := scs_ord r s ht
  have m0 : 0 ≤ m + k := by have := r.m0; have := s.m0; grind
  have LL := scs_ls r s ht z1 z2 (Nat.le_refl _) (Nat.le_refl _)
  have kl := kp_len (scs cs m ds k ts) (m + k) ((scs cs m ds k ts).length - 1)
  have n0 := O.ne
  have sl := scs_len (cs := cs) (m := m) (ds := ds) (k := k) (ts := ts)
  exact ⟨_, _, kept_crv O m0, fun t t0 => by rw [(val_kp O t).1, scs_val r s ht t0], LL.kept O, by omega⟩
theorem sum2_ls {a b c b2 c2 : Nat} {cs ds : Cs} {m k : Rat} (r : Rise cs m) (s : Rise ds k) (z1 : LS a b c cs m) (z2 : LS a b2 c2 ds k) {C : Cs} {M : Rat} (hC : Crv C M) (v : ∀ t, 0 ≤ t → val C M t = val cs m t + val ds k t) : LS a (b + b2 + 1) (c + c2 + 1) C M ∧ C.length ≤ cs.length + ds.length := by
  obtain ⟨C2, M2, h1, h2, h3⟩ := sum2_ex r s z1 z2
  obtain ⟨rfl, rfl⟩ := crv_ext hC h1 (fun t t0 => by rw [v t t0, h2 t t0])
  exact h3
theorem sum_ex {a b c : Nat} (ha : 1 ≤ a) : ∀ l : List (Cs × Rat), (∀ f ∈ l, Rise f.1 f.2 ∧ LS a b c f.1 f.2) → ∃ (C : Cs) (M : Rat), Crv C M ∧ (∀ t, 0 ≤ t → val C M t = sm l t) ∧ LS a (l.length * (b + 1) + 1) (l.length * (c + 1) + 1) C M ∧ C.length ≤ sumL l + 1
  | [], _ => ⟨_, _, nought_crv, fun t t0 => nought_val t0, nought_ls.mono ha (by simp) (by simp), by simp⟩
  | f :: l, h => by
    obtain ⟨D, K, h1, h2, h3, h4⟩ := sum_ex ha l (fun g hg => h g (List.mem_cons.mpr (.inr hg)))
    obtain ⟨rf, zf⟩ := h f (List.mem_cons.mpr (.inl rfl))
    obtain ⟨C, M, k1, k2, k3, k4⟩ := sum2_ex rf (crv_rise h1) zf h3
    refine ⟨C, M, k1, fun t t0 => by rw [k2 t t0, h2 t t0, sm_cons], k3.mono (Nat.le_refl _) ?_ ?_, ?_⟩
    · rw [List.length_cons, Nat.add_mul]; omega
    · rw [List.length_cons, Nat.add_mul]; omega
    · show C.length ≤ f.1.length + sumL l + 1
      omega
theorem sum_ls {a b c : Nat} (ha : 1 ≤ a) {l : List (Cs × Rat)} (h : ∀ f ∈ l, Rise f.1 f.2 ∧ LS a b c f.1 f.2) {C : Cs} {M : Rat} (hC : Crv C M) (v : ∀ t, 0 ≤ t → val C M t = sm l t) : LS a (l.length * (b + 1) + 1) (l.length * (c + 1) + 1) C M ∧ C.length ≤ sumL l + 1 := by
  obtain ⟨C2, M2, h1, h2, h3⟩ := sum_ex ha l h
  obtain ⟨rfl, rfl⟩ := crv_ext hC h1 (fun t t0 => by rw [v t t0, h2 t t0])
  exact h3
theorem sumL_append (xs ys : List (Cs × Rat)) : sumL (xs ++ ys) = sumL xs + sumL ys := by unfold sumL; rw [List.map_append, List.sum_append]
theorem sumL_take (xs : List (Cs × Rat)) (p : Nat) : sumL (xs.take p) ≤ sumL xs := by
  have := sumL_append (xs.take p) (xs.drop p)
  rw [List.take_append_drop] at this
  omega
theorem sumL_infix {xs ys : List (Cs × Rat)} (h : xs <:+: ys) : sumL xs ≤ sumL ys := by
  obtain ⟨s, t, rfl⟩ := h
  rw [sumL_append, sumL_append]
  omega
/-- what is told of a list shared by rank: the rests rs and the leavings gs of the first n -/
structure SH (cs : Cs) (m : Rat) (fs : List (Cs × Rat)) (n : Nat) (gs : List (Cs × Rat)) (rs : Nat → Cs × Rat) : Prop where
  len : gs.length = n
  c : ∀ j, j ≤ n → Crv (rs j).1 (rs j).2
  z : ∀ j, j ≤ n → LS 715 115 369 (rs j).1 (rs j).2
  k : ∀ j, j ≤ n → (rs j).1.length ≤ 48
  v : ∀ j, j ≤ n → ∀ t, 0 ≤ t → IsL (fun x => val cs m x - sm (fs.take j) x) t (val (rs j).1 (rs j).2 t)
  gc : ∀ j, j < n → Crv (F0 gs j).1 (F0 gs j).2
  gv : ∀ j, j < n → ∀ t, 0 ≤ t → val (F0 gs j).1 (F0 gs j).2 t = val (rs j).1 (rs j).2 t - val (rs (j + 1)).1 (rs (j + 1)).2 t
section
variable {cs : Cs} {m : Rat} {fs fs' gs gs' : List (Cs × Rat)} {rs rs' : Nat → Cs × Rat} {n n' : Nat}
theorem SH.req (h : SH cs m fs n gs rs) (h' : SH cs m fs' n' gs' rs') {j j' : Nat} (hj : j ≤ n) (hj' : j' ≤ n') (e : ∀ t, 0 ≤ t → sm (fs.take j) t = sm (fs'.take j') t) : rs j = rs' j' := by
  obtain ⟨e1, e2⟩ := crv_ext (h.c j hj) (h'.c j' hj') (fun t t0 => ((h.v j hj t t0).cong (fun s s0 _ => by show _ - _ = val cs m s - sm (fs'.take j') s; rw [e s s0])).uniq (h'.v j' hj' t t0))
  exact Prod.ext e1 e2
theorem SH.z0 (h : SH cs m fs n gs rs) (r : Rise cs m) {t : Rat} (t0 : 0 ≤ t) : val (rs 0).1 (rs 0).2 t = val cs m t :=
  (h.v 0 (Nat.zero_le _) t t0).uniq (IsL.inc (f := val cs m) (fun s s0 s1 => by show val cs m s - sm [] s = _; rw [sm_nil]; grind) (fun x y x0 xy => val_mono r x0 xy) (by rw [val_zero r.o]; exact r.o.v0) t0)
theorem SH.seg (h : SH cs m fs n gs rs) {t : Rat} (t0 : 0 ≤ t) : ∀ (l : List (Cs × Rat)) (p : Nat), p + l.length ≤ n → (∀ i, i < l.length → F0 l i = F0 gs (p + i)) → sm l t = val (rs p).1 (rs p).2 t - val (rs (p + l.length)).1 (rs (p + l.length)).2 t
  | [], p, _, _ => by rw [sm_nil]; show 0 = val (rs p).1 (rs p).2 t - val (rs p).1 (rs p).2 t; grind
  | f :: l, p, hp, e => by
    rw [List.length_cons] at hp
    have i := h.seg t0 l (p + 1) (by omega) (fun i hi => by
      have := e (i + 1) (by rw [List.length_cons]; omega)
      rw [show p + 1 + i = p + (i + 1) by omega, ← this]
      rfl)
    have e0 : f = F0 gs p := e 0 (by rw [List.length_cons]; omega)
    have g := h.gv p (by omega) t t0
    rw [← e0] at g
    rw [sm_cons, i, g, List.length_cons, show p + 1 + l.length = p + (l.length + 1) by omega]
    grind
theorem F0_app {xs ys : List (Cs × Rat)} {j : Nat} (h : j < xs.length) : F0 (xs ++ ys) j = F0 xs j := by unfold F0; rw [List.getD_eq_getElem?_getD, List.getElem?_append_left h, List.getD_eq_getElem?_getD]
theorem F0_app2 {xs ys : List (Cs × Rat)} {j : Nat} : F0 (xs ++ ys) (xs.length + j) = F0 ys j := by unfold F0; rw [List.getD_eq_getElem?_getD, List.getElem?_append_right (Nat.le_add_right _ _), Nat.add_sub_cancel_left, List.getD_eq_getElem?_getD]
theorem F0_take {xs : List (Cs × Rat)} {j p : Nat} (h : j < p) : F0 (xs.take p) j = F0 xs j := by unfold F0; rw [List.getD_eq_getElem?_getD, List.getElem?_take_of_lt h, List.getD_eq_getElem?_getD]
theorem F0_drop {xs : List (Cs × Rat)} {j p : Nat} : F0 (xs.drop p) j = F0 xs (p + j) := by unfold F0; rw [List.getD_eq_getElem?_getD, List.getElem?_drop, List.getD_eq_getElem?_getD]
theorem ext_F0 {xs ys : List (Cs × Rat)} (e : xs.length = ys.length) (h : ∀ j, j < xs.length → F0 xs j = F0 ys j) : xs = ys := by
  refine List.ext_getElem e fun j h1 h2 => ?_
  have := h j h1
  rw [F0_at (List.getElem?_eq_getElem h1), F0_at (List.getElem?_eq_getElem h2)] at this
  exact this
theorem SH.inf (h : SH cs m fs n gs rs) {l : List (Cs × Rat)} (hl : l <:+: gs) {C : Cs} {M : Rat} (hC : Crv C M) (v : ∀ t, 0 ≤ t → val C M t = sm l t) : LS 715 231 739 C M ∧ C.length ≤ 96 := by
  obtain ⟨s, u, e⟩ := hl
  have hn := h.len
  rw [← e, List.length_append, List.length_append] at hn
  have sg : ∀ t, 0 ≤ t → val C M t = val (rs s.length).1 (rs s.length).2 t - val (rs (s.length + l.length)).1 (rs (s.length + l.length)).2 t := fun t t0 => by
    rw [v t t0]
    refine h.seg t0 l s.length (by omega) (fun i hi => ?_)
    rw [← e, List.append_assoc, F0_app2, F0_app hi]
  have c1 := h.c s.length (by omega)
  have c2 := h.c (s.length + l.length) (by omega)
  have d := diff_ls (crv_rise c1).o (crv_rise c2).o (h.z s.length (by omega)) (h.z (s.length + l.length) (by omega)) hC sg
  have k1 := h.k s.length (by omega)
  have k2 := h.k (s.length + l.length) (by omega)
  exact ⟨d.1, by omega⟩
theorem SH.pre (h : SH cs m fs n gs rs) {p : Nat} (hp : p ≤ n) (h' : SH cs m (fs.take p) p gs' rs') : gs' = gs.take p := by
  have hn := h.len
  have hn' := h'.len
  refine ext_F0 (by rw [List.length_take]; omega) fun j hj => ?_
  rw [hn'] at hj
  have r1 := h'.req h (j := j) (j' := j) (by omega) (by omega) (fun t _ => by rw [List.take_take, Nat.min_eq_left (by omega)])
  have r2 := h'.req h (j := j + 1) (j' := j + 1) (by omega) (by omega) (fun t _ => by rw [List.take_take, Nat.min_eq_left (by omega)])
  rw [F0_take hj]
  have q := crv_ext (h'.gc j hj) (h.gc j (by omega)) (fun t t0 => by rw [h'.gv j hj t t0, h.gv j (by omega) t t0, r1, r2])
  exact Prod.ext q.1 q.2
theorem SH.again (h : SH cs m fs n gs rs) (h' : SH cs m fs n gs' rs') : gs' = gs := by
  have hn := h.len
  have hn' := h'.len
  refine ext_F0 (by omega) fun j hj => ?_
  rw [hn'] at hj
  have r1 := h'.req h (j := j) (j' := j) (by omega) (by omega) (fun t _ => rfl)
  have r2 := h'.req h (j := j + 1) (j' := j + 1) (by omega) (by omega) (fun t _ => rfl)
  have q := crv_ext (h'.gc j hj) (h.gc j (by omega)) (fun t t0 => by rw [h'.gv j hj t t0, h.gv j (by omega) t t0, r1, r2])
  exact Prod.ext q.1 q.2
theorem SH.ins (h : SH cs m fs fs.length gs rs) {p q : Nat} (hpq : p ≤ q) (hq : q ≤ fs.length) {f g : Cs × Rat} (ef : ∀ t, 0 ≤ t → sm (fs.take p) t + val f.1 f.2 t = sm (fs.take q) t)
    (hg : Crv g.1 g.2) (eg : ∀ t, 0 ≤ t → val g.1 g.2 t = val (rs p).1 (rs p).2 t - val (rs q).1 (rs q).2 t) {N : Nat} (eN : N = p + 1 + (fs.length - q)) (h' : SH cs m (fs.take p ++ [f] ++ fs.drop q) N gs' rs') : gs' = gs.take p ++ [g] ++ gs.drop q := by
  have hn := h.len
  have hn' := h'.len
  have lp : (fs.take p).length = p := by rw [List.length_take]; omega
  have lg : (gs.take p).length = p := by rw [List.length_take]; omega
  have s1 : ∀ j, j ≤ p → ∀ t, 0 ≤ t → sm ((fs.take p ++ [f] ++ fs.drop q).take j) t = sm (fs.take j) t := fun j hj t _ => by
    rw [List.append_assoc, List.take_append_of_le_length (by omega), List.take_take, Nat.min_eq_left hj]
  have s2 : ∀ i, ∀ t, 0 ≤ t → sm ((fs.take p ++ [f] ++ fs.drop q).take (p + 1 + i)) t = sm (fs.take (q + i)) t := fun i t t0 => by
    have l1 : (fs.take p ++ [f]).length = p + 1 := by rw [List.length_append, lp]; rfl
    have e1 : (fs.take p ++ [f] ++ fs.drop q).take (p + 1 + i) = fs.take p ++ [f] ++ (fs.drop q).take i := by
      rw [List.take_append, List.take_of_length_le (by omega), l1, Nat.add_sub_cancel_left]
    rw [e1, sm_append, sm_snoc, ef t t0, List.take_add, sm_append]
  have r1 : ∀ j, j ≤ p → rs' j = rs j := fun j hj => h'.req h (by omega) (by omega) (s1 j hj)
  have r2 : ∀ i, q + i ≤ fs.length → rs' (p + 1 + i) = rs (q + i) := fun i hi => h'.req h (by omega) (by omega) (s2 i)
  refine ext_F0 (by rw [List.length_append, List.length_append, lg, List.length_drop, List.length_cons, List.length_nil]; omega) fun j hj => ?_
  rw [hn'] at hj
  have fin : ∀ {x : Cs × Rat}, Crv x.1 x.2 → (∀ t, 0 ≤ t → val x.1 x.2 t = val (rs' j).1 (rs' j).2 t - val (rs' (j + 1)).1 (rs' (j + 1)).2 t) → F0 gs' j = x := fun {x} hx ex => by
    have q := crv_ext (h'.gc j hj) hx (fun t t0 => by rw [h'.gv j hj t t0, ex t t0])
    exact Prod.ext q.1 q.2
  by_cases c : j < p
  · rw [List.append_assoc, F0_app (by omega), F0_take c]
    refine fin (h.gc j (by omega)) (fun t t0 => ?_)
    rw [r1 j (by omega), r1 (j + 1) (by omega)]
    exact h.gv j (by omega) t t0
  · by_cases c2 : j = p
    · subst c2
      rw [List.append_assoc, show F0 (gs.take j ++ ([g] ++ gs.drop q)) j = g by
        have := F0_app2 (xs := gs.take j) (ys := [g] ++ gs.drop q) (j := 0)
        rw [lg] at this
        exact this]
      refine fin hg (fun t t0 => ?_)
      have := r2 0 (by omega)
      rw [r1 j (Nat.le_refl _), show j + 1 = j + 1 + 0 from rfl, this]
      exact eg t t0
    · obtain ⟨i, rfl⟩ : ∃ i, j = p + 1 + i := ⟨j - (p + 1), by omega⟩
      have e : F0 (gs.take p ++ [g] ++ gs.drop q) (p + 1 + i) = F0 gs (q + i) := by
        have := F0_app2 (xs := gs.take p ++ [g]) (ys := gs.drop q) (j := i)
        rw [List.length_append, lg] at this
        rw [show p + 1 + i = p + [g].length + i from rfl, this, F0_drop]
      rw [e]
      refine fin (h.gc (q + i) (by omega)) (fun t t0 => ?_)
      rw [r2 i (by omega), show p + 1 + i + 1 = p + 1 + (i + 1) by omega, r2 (i + 1) (by omega)]
      exact h.gv (q + i) (by omega) t t0
end
/-- the comings of the law -/
structure CM (fs : List (Cs × Rat)) (b c : Nat) : Prop where
  f : ∀ f ∈ fs, Crv f.1 f.2 ∧ LS 23 b c f.1 f.2
  n : fs.length ≤ 12
  b0 : b ≤ 21
  c0 : c ≤ 44
  b1 : (fs.length + 1) * (b + 1) ≤ 92
  c1 : (fs.length + 1) * (c + 1) ≤ 184
  b2 : (fs.length - 1) * (b + b + 2) ≤ 92
  c2 : (fs.length - 1) * (c + c + 2) ≤ 184
  bt : fs.length * (b + 1) ≤ 66
  ct : fs.length * (c + 1) ≤ 135
  s : sumL fs ≤ 12
  b9 : 1 ≤ b
  c9 : 1 ≤ c
theorem sumL_le {k : Nat} : ∀ fs : List (Cs × Rat), (∀ f ∈ fs, f.1.length ≤ k) → sumL fs ≤ fs.length * k
  | [], _ => Nat.zero_le _
  | f :: fs, h => by
    have := sumL_le fs (fun g hg => h g (List.mem_cons.mpr (.inr hg)))
    have := h f (List.mem_cons.mpr (.inl rfl))
    show f.1.length + sumL fs ≤ _
    rw [List.length_cons, Nat.add_mul]
    omega
theorem cm_drawn {fs : List (Cs × Rat)} (n : fs.length ≤ 3) (h : ∀ f ∈ fs, K4 f.1 f.2) : CM fs 21 44 :=
  ⟨fun f hf => ⟨(h f hf).2.2.2.1, (h f hf).2.1⟩, by omega, by decide, by decide, by omega, by omega, by omega, by omega, by omega, by omega, by have := sumL_le (k := 4) fs (fun f hf => (h f hf).2.2.1); omega, by decide, by decide⟩
def hpC (x y : Int) : Cs × Rat := ([(0, (x : Rat))], (y : Rat))
theorem hpC_ok {x y : Int} (x0 : 0 ≤ x) (x1 : x < 41) (y0 : 0 ≤ y) (y1 : y < 4) : Crv (hpC x y).1 (hpC x y).2 ∧ LS 23 3 7 (hpC x y).1 (hpC x y).2 := by
  have xr : (0 : Rat) ≤ (x : Rat) := Rat.intCast_nonneg.mpr x0
  have yr : (0 : Rat) ≤ (y : Rat) := Rat.intCast_nonneg.mpr y0
  have o : Ord [((0 : Rat), (x : Rat))] := Ord.one xr
  refine ⟨kept_crv o yr, Ln.ls (Ln.one ?_ ?_) o (fun i hi => ?_)⟩
  · show Sz 3 (y : Rat)
    rw [← int_div]; exact sz_of (by decide) (by omega) (by decide)
  · show Sz 7 ((x : Rat) - (y : Rat) * 0)
    rw [show (x : Rat) - (y : Rat) * 0 = (x : Rat) by grind, ← int_div]
    exact sz_of (by decide) (by omega) (by decide)
  · have : i = 0 := by have : i < 1 := hi; omega
    subst this
    exact Sz.zero.mono (by decide)
theorem cm_heaps {fs : List (Cs × Rat)} (n : fs.length ≤ 12) (h : ∀ f ∈ fs, (Crv f.1 f.2 ∧ LS 23 3 7 f.1 f.2) ∧ f.1.length ≤ 1) : CM fs 3 7 :=
  ⟨fun f hf => (h f hf).1, n, by decide, by decide, by omega, by omega, by omega, by omega, by omega, by omega, by have := sumL_le (k := 1) fs (fun f hf => (h f hf).2); omega, by decide, by decide⟩
theorem SH.step {cs : Cs} {m : Rat} {fs gs : List (Cs × Rat)} {rs : Nat → Cs × Rat} {n : Nat} (h : SH cs m fs n gs rs) {f : Cs × Rat} (hf : fs[n]? = some f) {L C : Cs} {K M : Rat} (cL : Crv L K) (zL : LS 715 115 369 L K) (kL : L.length ≤ 48) (vL : ∀ t, 0 ≤ t → IsL (fun x => val cs m x - sm (fs.take (n + 1)) x) t (val L K t)) (cC : Crv C M) (vC : ∀ t, 0 ≤ t → val C M t = val (rs n).1 (rs n).2 t - val L K t) : SH cs m fs (n + 1) (gs ++ [(C, M)]) (fun j => if j ≤ n then rs j else (L, K)) := by
  have gl := h.len
  have two : ∀ {p : Nat → Cs × Rat → Prop}, (∀ j, j ≤ n → p j (rs j)) → p (n + 1) (L, K) → ∀ j, j ≤ n + 1 → p j (if j ≤ n then rs j else (L, K)) := fun {p} h1 h2 j hj => by
    by_cases c : j ≤ n
    · rw [if_pos c]; exact h1 j c
    · have : j = n + 1 := by omega
      subst this
      rw [if_neg c]; exact h2
  refine ⟨by rw [List.length_append, gl]; rfl, two (p := fun _ r => Crv r.1 r.2) h.c cL, two (p := fun _ r => LS 715 115 369 r.1 r.2) h.z zL, two (p := fun _ r => r.1.length ≤ 48) h.k kL, two (p := fun j r => ∀ t, 0 ≤ t → IsL (fun x => val cs m x - sm (fs.take j) x) t (val r.1 r.2 t)) h.v vL, fun j hj => ?_, fun j hj t t0 => ?_⟩
  · by_cases c : j < n
    · rw [F0_l (by omega)]; exact h.gc j c
    · have : j = n := by omega
      subst this
      rw [show F0 (gs ++ [(C, M)]) j = (C, M) by rw [← gl]; exact F0_r]
      exact cC
  · by_cases c : j < n
    · rw [F0_l (by omega), if_pos (show j ≤ n by omega), if_pos (show j + 1 ≤ n by omega)]; exact h.gv j c t t0
    · have : j = n := by omega
      subst this
      rw [show F0 (gs ++ [(C, M)]) j = (C, M) by rw [← gl]; exact F0_r, if_pos (Nat.le_refl _), if_neg (show ¬ j + 1 ≤ j by omega)]
      exact vC t t0
theorem sh_zero {cs : Cs} {m : Rat} (fs : List (Cs × Rat)) (h : K4 cs m) : SH cs m fs 0 [] (fun _ => (cs, m)) := by
  obtain ⟨r0, z0, l0, c0, _⟩ := h
  refine ⟨rfl, fun _ _ => c0, fun _ _ => z0.mono (by decide) (by decide) (by decide), fun _ _ => by show cs.length ≤ 48; omega, fun j hj t t0 => ?_, fun j hj => absurd hj (Nat.not_lt_zero j), fun j hj => absurd hj (Nat.not_lt_zero j)⟩
  have : j = 0 := by omega
  subst this
  exact IsL.inc (f := val cs m) (fun s s0 s1 => by show val cs m s - sm [] s = _; rw [sm_nil]; grind) (fun x y x0 xy => val_mono r0 x0 xy) (by rw [val_zero r0.o]; exact r0.o.v0) t0
theorem SH.one {cs : Cs} {m : Rat} {fs gs : List (Cs × Rat)} {rs : Nat → Cs × Rat} {n : Nat} (h : SH cs m fs n gs rs) {j : Nat} (hj : j < n) : LS 715 231 739 (F0 gs j).1 (F0 gs j).2 ∧ (F0 gs j).1.length ≤ 96 := by
  have d := diff_ls (crv_rise (h.c j (by omega))).o (crv_rise (h.c (j + 1) (by omega))).o (h.z j (by omega)) (h.z (j + 1) (by omega)) (h.gc j hj) (h.gv j hj)
  have k1 := h.k j (by omega)
  have k2 := h.k (j + 1) (by omega)
  exact ⟨d.1, by omega⟩
theorem SH.two {cs : Cs} {m : Rat} {fs gs : List (Cs × Rat)} {rs : Nat → Cs × Rat} {n : Nat} (h : SH cs m fs n gs rs) {j : Nat} (hj : j + 1 < n) {C : Cs} {M : Rat} (hC : Crv C M) (v : ∀ t, 0 ≤ t → val C M t = val (F0 gs j).1 (F0 gs j).2 t + val (F0 gs (j + 1)).1 (F0 gs (j + 1)).2 t) : LS 715 231 739 C M ∧ ∀ t, 0 ≤ t → val C M t = val (rs j).1 (rs j).2 t - val (rs (j + 2)).1 (rs (j + 2)).2 t := by
  have e : ∀ t, 0 ≤ t → val C M t = val (rs j).1 (rs j).2 t - val (rs (j + 2)).1 (rs (j + 2)).2 t := fun t t0 => by
    rw [v t t0, h.gv j (by omega) t t0, h.gv (j + 1) hj t t0]
    grind
  exact ⟨(diff_ls (crv_rise (h.c j (by omega))).o (crv_rise (h.c (j + 2) (by omega))).o (h.z j (by omega)) (h.z (j + 2) (by omega)) hC e).1, e⟩
def nC : Cs × Rat := ([(0, 0)], 0)
theorem cut_lc {fs : List (Cs × Rat)} {i : Int} {p : Nat} (e : i = (p : Int)) (h : p ≤ fs.length) : cutD (fs.map cD) none (some i) = (fs.take p).map cD := by rw [e]; exact cut_l h
theorem cut_rc {fs : List (Cs × Rat)} {i : Int} {p : Nat} (e : i = (p : Int)) (h : p ≤ fs.length) : cutD (fs.map cD) (some i) none = (fs.drop p).map cD := by rw [e]; exact cut_r h
theorem ins_map {fs : List (Cs × Rat)} {p q : Nat} {f : Cs × Rat} : (fs.take p).map cD ++ [cD f] ++ (fs.drop q).map cD = (fs.take p ++ [f] ++ fs.drop q).map cD := by rw [List.map_append, List.map_append]; rfl
theorem ins_len {fs : List (Cs × Rat)} {p q : Nat} {f : Cs × Rat} (hp : p ≤ fs.length) : (fs.take p ++ [f] ++ fs.drop q).length = p + 1 + (fs.length - q) := by
  rw [List.length_append, List.length_append, List.length_take, List.length_drop, Nat.min_eq_left hp]; rfl
theorem ins_mem {fs : List (Cs × Rat)} {p q : Nat} {f x : Cs × Rat} (h : x ∈ fs.take p ++ [f] ++ fs.drop q) : x ∈ fs ∨ x = f := by
  rcases List.mem_append.mp h with h | h
  · rcases List.mem_append.mp h with h | h
    · exact .inl (List.mem_of_mem_take h)
    · exact .inr (List.mem_singleton.mp h)
  · exact .inl (List.mem_of_mem_drop h)
theorem ins_sum {fs : List (Cs × Rat)} {p q : Nat} {f : Cs × Rat} (hpq : p ≤ q) : sumL (fs.take p ++ [f] ++ fs.drop q) + sumL ((fs.drop p).take (q - p)) = sumL fs + f.1.length := by
  have e1 : sumL [f] = f.1.length + 0 := rfl
  have e2 := sumL_append (fs.take p) (fs.drop p)
  have e3 := sumL_append ((fs.drop p).take (q - p)) ((fs.drop p).drop (q - p))
  rw [List.take_append_drop] at e2 e3
  rw [List.drop_drop, show p + (q - p) = q by omega] at e3
  rw [sumL_append, sumL_append]
  omega
theorem at_cD2 {fs : List (Cs × Rat)} {i : Int} (j : Nat) (e : i = (j : Int)) (h : j < fs.length) : atI (fs.map cD) i = some (cD (F0 fs j)) ∧ F0 fs j ∈ fs := by
  refine ⟨at_cD j e h, ?_⟩
  rw [F0_at (List.getElem?_eq_getElem h)]
  exact List.getElem_mem h
theorem two_sm {fs : List (Cs × Rat)} {p : Nat} (h : p + 1 < fs.length) (t : Rat) : sm (fs.take p) t + (val (F0 fs p).1 (F0 fs p).2 t + val (F0 fs (p + 1)).1 (F0 fs (p + 1)).2 t) = sm (fs.take (p + 2)) t := by
  have a := List.getElem?_eq_getElem h
  have b := List.getElem?_eq_getElem (show p < fs.length by omega)
  have e1 : fs.take (p + 2) = fs.take (p + 1) ++ [F0 fs (p + 1)] := by rw [List.take_add_one, a, F0_at a]; rfl
  have e2 : fs.take (p + 1) = fs.take p ++ [F0 fs p] := by rw [List.take_add_one, b, F0_at b]; rfl
  rw [e1, e2, sm_snoc, sm_snoc]
  grind
theorem two_len {fs : List (Cs × Rat)} {p : Nat} (h : p + 1 < fs.length) : sumL ((fs.drop p).take (p + 2 - p)) = (F0 fs p).1.length + (F0 fs (p + 1)).1.length := by
  have a := List.getElem?_eq_getElem h
  have b := List.getElem?_eq_getElem (show p < fs.length by omega)
  have e1 : (fs.drop p).take 2 = [F0 fs p, F0 fs (p + 1)] := by
    rw [show (2 : Nat) = 1 + 1 from rfl, List.take_add_one, show (1 : Nat) = 0 + 1 from rfl, List.take_add_one, List.getElem?_drop, List.getElem?_drop, Nat.add_zero, b, a, F0_at a, F0_at b]
    rfl
  rw [show p + 2 - p = 2 by omega, e1]
  show (F0 fs p).1.length + ((F0 fs (p + 1)).1.length + 0) = _
  omega
inductive Sp_is_whole (ss : List S) (R : S → Prop) (U_ : Str → Prop) : Prop
  | mk (a : Int) (h0_ : ss = [.d (.int a)]) (h1_ : R (.d (.bl true))) : Sp_is_whole ss R U_
def sp_is_whole : Sp3 := fun ss R U_ => Sp_is_whole ss R U_
inductive Sp_divisor (ss : List S) (R : S → Prop) (U_ : Str → Prop) : Prop
  | mk (a b : Int) (h0_ : ss = [.d (.int a), .d (.int b)]) (h1_ : R (.d (.int (g a b)))) : Sp_divisor ss R U_
def sp_divisor : Sp3 := fun ss R U_ => Sp_divisor ss R U_
inductive Sp_ratio (ss : List S) (R : S → Prop) (U_ : Str → Prop) : Prop
  | mk (a b : Int) (h0_ : ss = [.d (.int a), .d (.int b)]) (h1_ : b ≠ 0) (h2_ : a.natAbs < 2 ^ 13000) (h3_ : b.natAbs < 2 ^ 13000) (h4_ : R (.d (qd (Rat.divInt a b)))) : Sp_ratio ss R U_
def sp_ratio : Sp3 := fun ss R U_ => Sp_ratio ss R U_
inductive Sp_plus (ss : List S) (R : S → Prop) (U_ : Str → Prop) : Prop
  | mk (p q : Rat) (k l : Nat) (h0_ : ss = [.d (qd p), .d (qd q)]) (h1_ : Sz k p) (h2_ : Sz l q) (h3_ : k + l + 1 ≤ 13000) (h4_ : R (.d (qd (p + q)))) : Sp_plus ss R U_
def sp_plus : Sp3 := fun ss R U_ => Sp_plus ss R U_
inductive Sp_minus (ss : List S) (R : S → Prop) (U_ : Str → Prop) : Prop
  | mk (p q : Rat) (k l : Nat) (h0_ : ss = [.d (qd p), .d (qd q)]) (h1_ : Sz k p) (h2_ : Sz l q) (h3_ : k + l + 1 ≤ 13000) (h4_ : R (.d (qd (p - q)))) : Sp_minus ss R U_
def sp_minus : Sp3 := fun ss R U_ => Sp_minus ss R U_
inductive Sp_times (ss : List S) (R : S → Prop) (U_ : Str → Prop) : Prop
  | mk (p q : Rat) (k l : Nat) (h0_ : ss = [.d (qd p), .d (qd q)]) (h1_ : Sz k p) (h2_ : Sz l q) (h3_ : k + l ≤ 13000) (h4_ : R (.d (qd (p * q)))) : Sp_times ss R U_
def sp_times : Sp3 := fun ss R U_ => Sp_times ss R U_
inductive Sp_over (ss : List S) (R : S → Prop) (U_ : Str → Prop) : Prop
  | mk (p q : Rat) (k l : Nat) (h0_ : ss = [.d (qd p), .d (qd q)]) (h1_ : Sz k p) (h2_ : Sz l q) (h3_ : k + l ≤ 13000) (h4_ : q ≠ 0) (h5_ : R (.d (qd (p / q)))) : Sp_over ss R U_
def sp_over : Sp3 := fun ss R U_ => Sp_over ss R U_
inductive Sp_under (ss : List S) (R : S → Prop) (U_ : Str → Prop) : Prop
  | mk (p q : Rat) (k l : Nat) (h0_ : ss = [.d (qd p), .d (qd q)]) (h1_ : Sz k p) (h2_ : Sz l q) (h3_ : k + l ≤ 30000) (h4_ : R (.d (.bl (decide (p < q))))) : Sp_under ss R U_
def sp_under : Sp3 := fun ss R U_ => Sp_under ss R U_
inductive Sp_greater (ss : List S) (R : S → Prop) (U_ : Str → Prop) : Prop
  | mk (p q : Rat) (k l : Nat) (h0_ : ss = [.d (qd p), .d (qd q)]) (h1_ : Sz k p) (h2_ : Sz l q) (h3_ : k + l ≤ 30000) (h4_ : R (.d (qd (if p < q then q else p)))) : Sp_greater ss R U_
def sp_greater : Sp3 := fun ss R U_ => Sp_greater ss R U_
inductive Sp_curve (ss : List S) (R : S → Prop) (U : Str → Prop) : Prop
  | mk (x : S) (cs : Cs) (m : Rat) (h0_ : ss = [x, .d (qd m)]) (h1_ : (x = .r (cs.map cd) ∨ x = .d (.lst (cs.map cd)))) (h2_ : SzK 2000 cs m) (h3_ : (Ord cs ∧ 0 ≤ m → R (.d (crv (kp cs m (cs.length - 1)) m)))) (h4_ : (¬ (Ord cs ∧ 0 ≤ m) → U "NoCurve")) : Sp_curve ss R U
def sp_curve : Sp3 := fun ss R U => Sp_curve ss R U
inductive Sp_check_begin (ss : List S) (R : S → Prop) (U : Str → Prop) : Prop
  | mk (x : S) (cs : Cs) (h0_ : ss = [x]) (h1_ : (x = .r (cs.map cd) ∨ x = .d (.lst (cs.map cd)))) (h2_ : cs.length ≤ 100000) (h3_ : SzC 2000 cs) (h4_ : (Bgn cs → R (.d .non))) (h5_ : (¬ Bgn cs → U "NoCurve")) : Sp_check_begin ss R U
def sp_check_begin : Sp3 := fun ss R U => Sp_check_begin ss R U
inductive Sp_check_rise (ss : List S) (R : S → Prop) (U : Str → Prop) : Prop
  | mk (x : S) (cs : Cs) (h0_ : ss = [x]) (h1_ : (x = .r (cs.map cd) ∨ x = .d (.lst (cs.map cd)))) (h2_ : 0 < cs.length) (h3_ : cs.length ≤ 100000) (h4_ : SzC 2000 cs) (h5_ : (Ris cs cs.length → R (.d .non))) (h6_ : (¬ Ris cs cs.length → U "NoCurve")) : Sp_check_rise ss R U
def sp_check_rise : Sp3 := fun ss R U => Sp_check_rise ss R U
inductive Sp_heap (ss : List S) (R : S → Prop) (U : Str → Prop) : Prop
  | mk (v s : Rat) (h0_ : ss = [.d (qd v), .d (qd s)]) (h1_ : Sz 2000 v) (h2_ : Sz 2000 s) (h3_ : (0 ≤ v ∧ 0 ≤ s → R (.d (crv [(0, v)] s)))) (h4_ : (¬ (0 ≤ v ∧ 0 ≤ s) → U "NoCurve")) : Sp_heap ss R U
def sp_heap : Sp3 := fun ss R U => Sp_heap ss R U
inductive Sp_value_at (ss : List S) (R : S → Prop) (U : Str → Prop) : Prop
  | mk (cs : Cs) (m t : Rat) (n : Nat) (h0_ : ss = [.d (crv cs m), .d (qd t)]) (h1_ : 0 < cs.length) (h2_ : tt cs 0 = 0) (h3_ : Up cs) (h4_ : n ≤ 1800) (h5_ : SzK n cs m) (h6_ : Sz n t) (h7_ : (0 ≤ t → R (.d (qd (val cs m t))))) (h8_ : (¬ 0 ≤ t → U "NoTime")) : Sp_value_at ss R U
def sp_value_at : Sp3 := fun ss R U => Sp_value_at ss R U
inductive Sp_piece_at (ss : List S) (R : S → Prop) (U : Str → Prop) : Prop
  | mk (cs : Cs) (m t : Rat) (n : Nat) (h0_ : ss = [.d (crv cs m), .d (qd t)]) (h1_ : 0 < cs.length) (h2_ : cs.length ≤ 100000) (h3_ : tt cs 0 = 0) (h4_ : Up cs) (h5_ : n ≤ 6000) (h6_ : SzC n cs) (h7_ : Sz n t) (h8_ : (0 ≤ t → R (.d (.int (plc cs t cs.length))))) (h9_ : (¬ 0 ≤ t → U "NoTime")) : Sp_piece_at ss R U
def sp_piece_at : Sp3 := fun ss R U => Sp_piece_at ss R U
inductive Sp_check_time (ss : List S) (R : S → Prop) (U : Str → Prop) : Prop
  | mk (t : Rat) (n : Nat) (h0_ : ss = [.d (qd t)]) (h1_ : n ≤ 6000) (h2_ : Sz n t) (h3_ : (0 ≤ t → R (.d .non))) (h4_ : (¬ 0 ≤ t → U "NoTime")) : Sp_check_time ss R U
def sp_check_time : Sp3 := fun ss R U => Sp_check_time ss R U
inductive Sp_slope_of_piece (ss : List S) (R : S → Prop) (U_ : Str → Prop) : Prop
  | mk (cs : Cs) (m : Rat) (k n : Nat) (h0_ : ss = [.d (crv cs m), .d (.int k)]) (h1_ : k < cs.length) (h2_ : cs.length ≤ 100000) (h3_ : Up cs) (h4_ : n ≤ 3200) (h5_ : SzC n cs) (h6_ : R (.d (qd (slp cs m k)))) : Sp_slope_of_piece ss R U_
def sp_slope_of_piece : Sp3 := fun ss R U_ => Sp_slope_of_piece ss R U_
inductive Sp_slope_between (ss : List S) (R : S → Prop) (U_ : Str → Prop) : Prop
  | mk (a b c d : Rat) (n : Nat) (h0_ : ss = [.d (.tup [qd a, qd b]), .d (.tup [qd c, qd d])]) (h1_ : n ≤ 3200) (h2_ : Sz n a) (h3_ : Sz n b) (h4_ : Sz n c) (h5_ : Sz n d) (h6_ : c - a ≠ 0) (h7_ : R (.d (qd ((d - b) / (c - a))))) : Sp_slope_between ss R U_
def sp_slope_between : Sp3 := fun ss R U_ => Sp_slope_between ss R U_
inductive Sp_slopes_behind (ss : List S) (R : S → Prop) (U_ : Str → Prop) : Prop
  | mk (x : S) (cs : Cs) (m : Rat) (h0_ : ss = [x, .d (qd m)]) (h1_ : (x = .r (cs.map cd) ∨ x = .d (.lst (cs.map cd)))) (h2_ : 0 < cs.length) (h3_ : cs.length ≤ 100000) (h4_ : SzC 3200 cs) (h5_ : Up cs) (h6_ : R (.l ((slpL cs m).map qd))) : Sp_slopes_behind ss R U_
def sp_slopes_behind : Sp3 := fun ss R U_ => Sp_slopes_behind ss R U_
inductive Sp_time_of (ss : List S) (R : S → Prop) (U_ : Str → Prop) : Prop
  | mk (a b s h : Rat) (n k : Nat) (h0_ : ss = [.d (.tup [qd a, qd b]), .d (qd s), .d (qd h)]) (h1_ : Sz n a) (h2_ : Sz n b) (h3_ : Sz n h) (h4_ : Sz k s) (h5_ : s ≠ 0) (h6_ : 3 * n + k + 2 ≤ 13000) (h7_ : R (.d (qd (a + (h - b) / s)))) : Sp_time_of ss R U_
def sp_time_of : Sp3 := fun ss R U_ => Sp_time_of ss R U_
def sp_count_while : SpL := fun a dom p ss R _ => ∃ (xs : List D) (n : Nat), ss = [.d (.tup xs), .d (.ref a)] ∧ xs.length ≤ 100000 ∧ n ≤ xs.length ∧ (∀ i x, xs[i]? = some x → dom x ∧ p x = decide (i < n)) ∧ R (.d (.int n))
inductive Sp_summed (ss : List S) (R : S → Prop) (U_ : Str → Prop) : Prop
  | mk (cs : Cs) (m : Rat) (ds : Cs) (k : Rat) (a b c : Nat) (h0_ : ss = [.d (crv cs m), .d (crv ds k)]) (h1_ : Rise cs m) (h2_ : Rise ds k) (h3_ : LS a b c cs m) (h4_ : LS a b c ds k) (h5_ : cs.length + ds.length ≤ 240) (h6_ : a + b + c + 1 ≤ 1800) (h7_ : (∀ (C : Cs) (M : Rat), Crv C M → (∀ t, 0 ≤ t → val C M t = val cs m t + val ds k t) → LS a b c C M)) (h8_ : ∀ (C : Cs) (M : Rat), Crv C M → C.length ≤ cs.length + ds.length → (∀ t, 0 ≤ t → val C M t = val cs m t + val ds k t) → R (.d (crv C M))) : Sp_summed ss R U_
def sp_summed : Sp3 := fun ss R U_ => Sp_summed ss R U_
def sp_total__b : Sp3 := fun ss R _ => ss.length = 1 ∧ False
def sp_total__0 : Sp3 := fun ss R _ => ∃ (x : S) (fs : List (Cs × Rat)) (a b c : Nat), ss = [x] ∧ (x = .r (fs.map cD) ∨ x = .d (.lst (fs.map cD))) ∧ fs.length ≤ 1 ∧ a + b + c + 1 ≤ 1800 ∧ (∀ f ∈ fs, Crv f.1 f.2) ∧ (∀ l : List (Cs × Rat), l <:+: fs → ∀ (C : Cs) (M : Rat), Crv C M → (∀ t, 0 ≤ t → val C M t = sm l t) → LS a b c C M ∧ C.length ≤ 100) ∧ ∀ (C : Cs) (M : Rat), Crv C M → (∀ t, 0 ≤ t → val C M t = sm fs t) → R (.d (crv C M))
def sp_total__1 : Sp3 := fun ss R _ => ∃ (x : S) (fs : List (Cs × Rat)) (a b c : Nat), ss = [x] ∧ (x = .r (fs.map cD) ∨ x = .d (.lst (fs.map cD))) ∧ fs.length ≤ 2 ∧ a + b + c + 1 ≤ 1800 ∧ (∀ f ∈ fs, Crv f.1 f.2) ∧ (∀ l : List (Cs × Rat), l <:+: fs → ∀ (C : Cs) (M : Rat), Crv C M → (∀ t, 0 ≤ t → val C M t = sm l t) → LS a b c C M ∧ C.length ≤ 100) ∧ ∀ (C : Cs) (M : Rat), Crv C M → (∀ t, 0 ≤ t → val C M t = sm fs t) → R (.d (crv C M))
def sp_total__2 : Sp3 := fun ss R _ => ∃ (x : S) (fs : List (Cs × Rat)) (a b c : Nat), ss = [x] ∧ (x = .r (fs.map cD) ∨ x = .d (.lst (fs.map cD))) ∧ fs.length ≤ 4 ∧ a + b + c + 1 ≤ 1800 ∧ (∀ f ∈ fs, Crv f.1 f.2) ∧ (∀ l : List (Cs × Rat), l <:+: fs → ∀ (C : Cs) (M : Rat), Crv C M → (∀ t, 0 ≤ t → val C M t = sm l t) → LS a b c C M ∧ C.length ≤ 100) ∧ ∀ (C : Cs) (M : Rat), Crv C M → (∀ t, 0 ≤ t → val C M t = sm fs t) → R (.d (crv C M))
def sp_total__3 : Sp3 := fun ss R _ => ∃ (x : S) (fs : List (Cs × Rat)) (a b c : Nat), ss = [x] ∧ (x = .r (fs.map cD) ∨ x = .d (.lst (fs.map cD))) ∧ fs.length ≤ 8 ∧ a + b + c + 1 ≤ 1800 ∧ (∀ f ∈ fs, Crv f.1 f.2) ∧ (∀ l : List (Cs × Rat), l <:+: fs → ∀ (C : Cs) (M : Rat), Crv C M → (∀ t, 0 ≤ t → val C M t = sm l t) → LS a b c C M ∧ C.length ≤ 100) ∧ ∀ (C : Cs) (M : Rat), Crv C M → (∀ t, 0 ≤ t → val C M t = sm fs t) → R (.d (crv C M))
def sp_total__4 : Sp3 := fun ss R _ => ∃ (x : S) (fs : List (Cs × Rat)) (a b c : Nat), ss = [x] ∧ (x = .r (fs.map cD) ∨ x = .d (.lst (fs.map cD))) ∧ fs.length ≤ 16 ∧ a + b + c + 1 ≤ 1800 ∧ (∀ f ∈ fs, Crv f.1 f.2) ∧ (∀ l : List (Cs × Rat), l <:+: fs → ∀ (C : Cs) (M : Rat), Crv C M → (∀ t, 0 ≤ t → val C M t = sm l t) → LS a b c C M ∧ C.length ≤ 100) ∧ ∀ (C : Cs) (M : Rat), Crv C M → (∀ t, 0 ≤ t → val C M t = sm fs t) → R (.d (crv C M))
abbrev sp_total : Sp3 := sp_total__4
inductive Sp_less (ss : List S) (R : S → Prop) (U_ : Str → Prop) : Prop
  | mk (cs : Cs) (m : Rat) (ds : Cs) (k : Rat) (a b c a2 b2 c2 A : Nat) (h0_ : ss = [.d (crv cs m), .d (crv ds k)]) (h1_ : Rise cs m) (h2_ : Rise ds k) (h3_ : LS a b c cs m) (h4_ : LS a2 b2 c2 ds k) (h5_ : a ≤ A) (h6_ : a2 ≤ A) (h7_ : cs.length + ds.length ≤ 400) (h8_ : A + b + c + 1 ≤ 1800) (h9_ : A + b2 + c2 + 1 ≤ 1800) (h10_ : A + b + b2 + c + c2 + 3 ≤ 2000) (h11_ : (∀ x y, 0 ≤ x → x ≤ y → gap cs m ds k x ≤ gap cs m ds k y)) (h12_ : 0 ≤ gap cs m ds k 0) (h13_ : ∀ (C : Cs) (M : Rat), Crv C M → 0 ≤ M → (∀ t, 0 ≤ t → val C M t = gap cs m ds k t) → M = m - k → LS A (b + b2 + 1) (c + c2 + 1) C M → C.length ≤ cs.length + ds.length → R (.d (crv C M))) : Sp_less ss R U_
def sp_less : Sp3 := fun ss R U_ => Sp_less ss R U_
inductive Sp_corner_rows (ss : List S) (R : S → Prop) (U_ : Str → Prop) : Prop
  | mk (cs : Cs) (m : Rat) (ds : Cs) (k : Rat) (n : Nat) (h0_ : ss = [.d (crv cs m), .d (crv ds k)]) (h1_ : Ord cs) (h2_ : Ord ds) (h3_ : cs.length ≤ 1000) (h4_ : ds.length ≤ 1000) (h5_ : n ≤ 1800) (h6_ : SzK n cs m) (h7_ : SzK n ds k) (h8_ : ∀ ts : List Rat, Tms cs ds ts → ts.length ≤ cs.length + ds.length → R (.l (ts.map (rw3 cs m ds k)))) : Sp_corner_rows ss R U_
def sp_corner_rows : Sp3 := fun ss R U_ => Sp_corner_rows ss R U_
inductive Sp_corner_times (ss : List S) (R : S → Prop) (U_ : Str → Prop) : Prop
  | mk (cs : Cs) (m : Rat) (ds : Cs) (k : Rat) (n : Nat) (h0_ : ss = [.d (crv cs m), .d (crv ds k)]) (h1_ : Ord cs) (h2_ : Ord ds) (h3_ : cs.length ≤ 1000) (h4_ : ds.length ≤ 1000) (h5_ : n ≤ 6000) (h6_ : SzC n cs) (h7_ : SzC n ds) (h8_ : ∀ ts : List Rat, Tms cs ds ts → ts.length ≤ cs.length + ds.length → R (.d (.lst (ts.map qd)))) : Sp_corner_times ss R U_
def sp_corner_times : Sp3 := fun ss R U_ => Sp_corner_times ss R U_
inductive Sp_gap_points (ss : List S) (R : S → Prop) (U_ : Str → Prop) : Prop
  | mk (x : S) (cs : Cs) (m : Rat) (ds : Cs) (k : Rat) (ts : List Rat) (v : Nat) (h0_ : ss = [x]) (h1_ : (x = .r (ts.map (rw3 cs m ds k)) ∨ x = .d (.lst (ts.map (rw3 cs m ds k))))) (h2_ : ts.length ≤ 2000) (h3_ : v ≤ 6400) (h4_ : (∀ i, i < ts.length → Sz v (val cs m (T ts i)) ∧ Sz v (val ds k (T ts i)))) (h5_ : R (.l ((gcs cs m ds k ts).map cd))) : Sp_gap_points ss R U_
def sp_gap_points : Sp3 := fun ss R U_ => Sp_gap_points ss R U_
inductive Sp_left (ss : List S) (R : S → Prop) (U_ : Str → Prop) : Prop
  | mk (cs : Cs) (m : Rat) (ds : Cs) (k : Rat) (a b c a2 b2 c2 A : Nat) (h0_ : ss = [.d (crv cs m), .d (crv ds k)]) (h1_ : Rise cs m) (h2_ : Rise ds k) (h3_ : LS a b c cs m) (h4_ : LS a2 b2 c2 ds k) (h5_ : a ≤ A) (h6_ : a2 ≤ A) (h7_ : cs.length + ds.length ≤ 240) (h8_ : A + b + c + 1 ≤ 1800) (h9_ : A + b2 + c2 + 1 ≤ 1800) (h10_ : 2 * (b + b2 + c + c2) + A + 6 ≤ 2000) (h11_ : ∀ (C : Cs) (M : Rat), Crv C M → 0 ≤ M → (∀ t, 0 ≤ t → IsL (gap cs m ds k) t (val C M t)) → LS (2 * (b + b2 + c + c2) + A + 6) (b + b2 + 1) (b + b2 + c + c2 + A + 3) C M → C.length ≤ 2 * (cs.length + ds.length) → R (.d (crv C M))) : Sp_left ss R U_
def sp_left : Sp3 := fun ss R U_ => Sp_left ss R U_
inductive Sp_comes_above (ss : List S) (R : S → Prop) (U_ : Str → Prop) : Prop
  | mk (gs : Cs) (i : Nat) (l B : Rat) (h0_ : ss = [.r (gs.map cd), .d (.int i), .d (qd l), .d (qd B)]) (h1_ : i < gs.length) (h2_ : Sz 3000 l) (h3_ : Sz 3000 B) (h4_ : SzC 3000 gs) (h5_ : R (.d (.bl (if i + 1 < gs.length then decide (B < vv gs (i + 1)) else decide (0 < l))))) : Sp_comes_above ss R U_
def sp_comes_above : Sp3 := fun ss R U_ => Sp_comes_above ss R U_
inductive Sp_served (ss : List S) (R : S → Prop) (U_ : Str → Prop) : Prop
  | mk (cs : Cs) (m : Rat) (ds : Cs) (k : Rat) (a b c a2 b2 c2 A x y z : Nat) (h0_ : ss = [.d (crv ds k), .d (crv cs m)]) (h1_ : Rise cs m) (h2_ : Rise ds k) (h3_ : LS a b c cs m) (h4_ : LS a2 b2 c2 ds k) (h5_ : a ≤ A) (h6_ : a2 ≤ A) (h7_ : cs.length + ds.length ≤ 130) (h8_ : A + b + c + 1 ≤ 1800) (h9_ : A + b2 + c2 + 1 ≤ 1800) (h10_ : 2 * (b + b2 + c + c2) + A + 6 ≤ 2000) (h11_ : (∀ (L : Cs) (K : Rat), Crv L K → (∀ t, 0 ≤ t → IsL (gap cs m ds k) t (val L K t)) → LS x y z L K)) (h12_ : x ≤ A) (h13_ : A + y + z + 1 ≤ 1800) (h14_ : A + b + y + c + z + 3 ≤ 2000) (h15_ : ∀ (L : Cs) (K : Rat) (C : Cs) (M : Rat), Crv L K → 0 ≤ K → (∀ t, 0 ≤ t → IsL (gap cs m ds k) t (val L K t)) → Crv C M → 0 ≤ M → M = m - K → (∀ t, 0 ≤ t → val C M t = val cs m t - val L K t) → LS A (b + y + 1) (c + z + 1) C M → C.length ≤ 400 → R (.d (crv C M))) : Sp_served ss R U_
def sp_served : Sp3 := fun ss R U_ => Sp_served ss R U_
inductive Sp_unused (ss : List S) (R : S → Prop) (U_ : Str → Prop) : Prop
  | mk (cs : Cs) (m : Rat) (ds : Cs) (k : Rat) (a b c a2 b2 c2 A : Nat) (h0_ : ss = [.d (crv ds k), .d (crv cs m)]) (h1_ : Rise cs m) (h2_ : Rise ds k) (h3_ : LS a b c cs m) (h4_ : LS a2 b2 c2 ds k) (h5_ : a ≤ A) (h6_ : a2 ≤ A) (h7_ : cs.length + ds.length ≤ 240) (h8_ : A + b + c + 1 ≤ 1800) (h9_ : A + b2 + c2 + 1 ≤ 1800) (h10_ : 2 * (b + b2 + c + c2) + A + 6 ≤ 2000) (h11_ : ∀ (C : Cs) (M : Rat), Crv C M → 0 ≤ M → (∀ t, 0 ≤ t → IsL (gap cs m ds k) t (val C M t)) → LS (2 * (b + b2 + c + c2) + A + 6) (b + b2 + 1) (b + b2 + c + c2 + A + 3) C M → C.length ≤ 2 * (cs.length + ds.length) → R (.d (crv C M))) : Sp_unused ss R U_
def sp_unused : Sp3 := fun ss R U_ => Sp_unused ss R U_
inductive Sp_shared (ss : List S) (R : S → Prop) (U_ : Str → Prop) : Prop
  | mk (x : S) (fs : List (Cs × Rat)) (cs : Cs) (m : Rat) (b c : Nat) (h0_ : ss = [x, .d (crv cs m)]) (h1_ : (x = .r (fs.map cD) ∨ x = .d (.lst (fs.map cD)))) (h2_ : K4 cs m) (h3_ : (∀ f ∈ fs, Crv f.1 f.2 ∧ LS 23 b c f.1 f.2)) (h4_ : fs.length * (b + 1) ≤ 92) (h5_ : fs.length * (c + 1) ≤ 184) (h6_ : b ≤ 43) (h7_ : c ≤ 89) (h8_ : sumL fs ≤ 20) (h9_ : fs.length ≤ 13) (h10_ : ∀ (gs : List (Cs × Rat)) (rs : Nat → Cs × Rat), SH cs m fs fs.length gs rs → R (.l (gs.map cD))) : Sp_shared ss R U_
def sp_shared : Sp3 := fun ss R U_ => Sp_shared ss R U_
inductive Sp__law_cell_at (ss : List S) (R : S → Prop) (U_ : Str → Prop) : Prop
  | mk (ns : List Int) (k : Int) (h0_ : ss = [.r (ns.map D.int), .d (.int k)]) (h1_ : 0 ≤ k) (h2_ : k ≤ 1000) (h3_ : R (.d (.int (cl ns k)))) : Sp__law_cell_at ss R U_
def sp__law_cell_at : Sp3 := fun ss R U_ => Sp__law_cell_at ss R U_
inductive Sp__law_low (ss : List S) (R : S → Prop) (U_ : Str → Prop) : Prop
  | mk (a b : Int) (h0_ : ss = [.d (.int a), .d (.int b)]) (h1_ : 0 < b) (h2_ : a.natAbs < 2 ^ 13000) (h3_ : b.natAbs < 2 ^ 13000) (h4_ : R (.d (qd (Rat.divInt a b)))) : Sp__law_low ss R U_
def sp__law_low : Sp3 := fun ss R U_ => Sp__law_low ss R U_
inductive Sp__law_slopes_by (ss : List S) (R : S → Prop) (U_ : Str → Prop) : Prop
  | mk (ms : List Int) (sh : Int) (h0_ : ss = [.r (ms.map D.int), .d (.int sh)]) (h1_ : ms.length ≤ 4) (h2_ : ∀ sl : List Int, sl.length = ms.length → (∀ x ∈ sl, 0 ≤ x ∧ x ≤ 1000000) → R (.l (sl.map D.int))) : Sp__law_slopes_by ss R U_
def sp__law_slopes_by : Sp3 := fun ss R U_ => Sp__law_slopes_by ss R U_
inductive Sp__law_drawn (ss : List S) (R : S → Prop) (U_ : Str → Prop) : Prop
  | mk (ms sl : List Int) (st u : Int) (h0_ : ss = [.r (ms.map D.int), .r (sl.map D.int), .d (.int st), .d (.int u)]) (h1_ : 0 < ms.length) (h2_ : ms.length ≤ 4) (h3_ : sl.length = ms.length) (h4_ : (∀ x ∈ sl, 0 ≤ x ∧ x ≤ 1000000)) (h5_ : 0 ≤ st) (h6_ : st < 1000000000) (h7_ : 0 < u) (h8_ : u ≤ 5) (h9_ : ∀ (cs : Cs) (m : Rat), K4 cs m → R (.d (crv cs m))) : Sp__law_drawn ss R U_
def sp__law_drawn : Sp3 := fun ss R U_ => Sp__law_drawn ss R U_
inductive Sp__law_start_by (ss : List S) (R : S → Prop) (U_ : Str → Prop) : Prop
  | mk (c : Int) (h0_ : ss = [.d (.int c)]) (h1_ : ∀ v : Int, 0 ≤ v → v < 1000000000 → R (.d (.int v))) : Sp__law_start_by ss R U_
def sp__law_start_by : Sp3 := fun ss R U_ => Sp__law_start_by ss R U_
inductive Sp__law_curve_by (ss : List S) (R : S → Prop) (U_ : Str → Prop) : Prop
  | mk (ns : List Int) (b : Int) (h0_ : ss = [.r (ns.map D.int), .d (.int b)]) (h1_ : 0 ≤ b) (h2_ : b ≤ 100) (h3_ : ∀ (C : Cs) (M : Rat), K4 C M → R (.d (crv C M))) : Sp__law_curve_by ss R U_
def sp__law_curve_by : Sp3 := fun ss R U_ => Sp__law_curve_by ss R U_
inductive Sp__law_lists (ss : List S) (R : S → Prop) (U_ : Str → Prop) : Prop
  | mk (xs : List (Cs × Rat)) (y : S) (h0_ : ss = [.d (.lst (xs.map cD)), y]) (h1_ : (y = .r (xs.map cD) ∨ y = .d (.lst (xs.map cD)))) (h2_ : R (.d (.bl true))) : Sp__law_lists ss R U_
def sp__law_lists : Sp3 := fun ss R U_ => Sp__law_lists ss R U_
abbrev sp_law : Sp3 := spLaw3
section
variable {P : Program} {w : World} {K : PySem.W.Frag} {mg : Str → Option Value} {base : Heap} {f : Addr} {fd : FuncData}
variable {K_CurveError K_NoRatio K_NoCurve K_NoTime : Addr}
theorem sc_is_whole : FnScope ["thing"] ["thing"] (defScope s_is_whole) := ⟨rfl, rfl, rfl, by decide +kernel, rfl, by decide +kernel, by decide +kernel⟩
set_option maxHeartbeats 4000000 in
theorem ok_is_whole (F : Fun K "is_whole" "is_whole" s_is_whole f fd) (z_isinstance : mg "isinstance" = none) (z_int : mg "int" = none) (z_bool : mg "bool" = none) : FnOk P w K mg base CX0 1 f fd ["thing"] (liftSp K mg sp_is_whole) := by
  refine fn3 F sc_is_whole (fun ss R U h => ?_) (fun cdv A outer s H E ss R U hr h => ?_)
  · unfold sp_is_whole at h; obtain ⟨a, rfl, _⟩ := h; rfl
  obtain ⟨a, rfl, q⟩ := h
  refine ⟨_, (ss_one (s_ret (v_and (v_isi .int (v_var (pv 0)) rfl z_isinstance rfl z_int PyProof.Rows.boot_int) (v_one (v_not (v_isi .bool (v_var (pv 0)) rfl z_isinstance rfl z_bool PyProof.Rows.boot_bool)))))), ?_⟩
  refine ⟨trivial, ⟨trivial, ?_⟩⟩
  exact q
theorem sc_divisor : FnScope ["one", "other", "great", "small", "rest"] ["one", "other"] (defScope s_divisor) := ⟨rfl, rfl, rfl, by decide +kernel, rfl, by decide +kernel, by decide +kernel⟩
set_option maxHeartbeats 4000000 in
theorem ok_divisor (F : Fun K "divisor" "divisor" s_divisor f fd) (z_abs : mg "abs" = none) : FnOk P w K mg base CX0 1 f fd ["one", "other"] (liftSp K mg sp_divisor) := by
  refine fn3 F sc_divisor (fun ss R U h => ?_) (fun cdv A outer s H E ss R U hr h => ?_)
  · unfold sp_divisor at h; obtain ⟨a, b, rfl, _⟩ := h; rfl
  obtain ⟨a, b, rfl, q⟩ := h
  refine ⟨_, (ss_cons (s_set (i := 2) sc_divisor.nd rfl (Or.inl rfl) (v_callB b_abs rfl z_abs PyProof.Rows.boot_abs (a_cons (v_var (pv 0)) a_nil)))
      (ss_cons (s_set (i := 3) sc_divisor.nd rfl (Or.inl rfl) (v_callB b_abs rfl z_abs PyProof.Rows.boot_abs (a_cons (v_var (pv 1)) a_nil)))
      (ss_cons (s_while PassesOwn.never (w_cmp o_ne (v_var (pv 3)) v_int (nomark _)) (ss_cons (s_set (i := 4) sc_divisor.nd rfl (Or.inl rfl) (v_op o_mod (v_var (pv 2)) (v_var (pv 3))))
      (ss_cons (s_set (i := 2) sc_divisor.nd rfl (Or.inl rfl) (v_var (pv 3)))
      (ss_one (s_set (i := 3) sc_divisor.nd rfl (Or.inl rfl) (v_var (pv 4)))))))
      (ss_one (s_retV (pv 2)))))), ?_⟩
  refine ⟨fun m τ => ∃ x y z, τ = [I a, I b, I x, I y, z] ∧ 0 ≤ x ∧ 0 ≤ y ∧ g x y = g a b ∧ m = y.toNat, ⟨_, _, _, _, rfl, ?_, ?_, g_abs a b, rfl⟩, ?_⟩
  · exact abs_nn a
  · exact abs_nn b
  rintro m τ ⟨x, y, z, rfl, h1, h2, h3, rfl⟩
  refine iteN (fun c => ?_) (fun c => ?_)
  · refine ⟨c, (x.fmod y).toNat, ?_, _, _, _, rfl, h2, ?_, ?_, rfl⟩
    · have := Int.fmod_lt_of_pos x (show 0 < y by omega)
      omega
    · exact Int.fmod_nonneg_of_pos x (by omega)
    · rw [← h3, Int.fmod_eq_emod_of_nonneg x h2]
      exact g_turn (by omega)
  · subst c
    rw [g_end h1] at h3
    subst h3
    exact q
theorem sc_ratio : FnScope ["top", "bottom", "common"] ["top", "bottom"] (defScope s_ratio) := ⟨rfl, rfl, rfl, by decide +kernel, rfl, by decide +kernel, by decide +kernel⟩
set_option maxHeartbeats 4000000 in
theorem ok_ratio (F : Fun K "ratio" "ratio" s_ratio f fd) (C_divisor : Cal P w K mg base (CXU P w) 1 "divisor" ["one", "other"] sp_divisor) (C_is_whole : Cal P w K mg base (CXU P w) 1 "is_whole" ["thing"] sp_is_whole) : FnOk P w K mg base CX0 2 f fd ["top", "bottom"] (liftSp K mg sp_ratio) := by
  refine fn3 F sc_ratio (fun ss R U h => ?_) (fun cdv A outer s H E ss R U hr h => ?_)
  · unfold sp_ratio at h; obtain ⟨a, b, rfl, _⟩ := h; rfl
  obtain ⟨a, b, rfl, hb, h1, h2, q⟩ := h
  refine ⟨_, (ss_gd (s_if (PW3.pt (w_or (w_not (w_val (v_callU exok_no C_is_whole (hr.mono (by decide)) rfl (a_cons (v_var (pv 0)) a_nil)))) (w_or1 (w_not (w_val (v_callU exok_no C_is_whole (hr.mono (by decide)) rfl (a_cons (v_var (pv 1)) a_nil))))))) (ss_one s_never) ss_nil)
      (ss_cons (s_if (w_cmp o_eq (v_var (pv 1)) v_int (nomark _)) (ss_one s_never) ss_nil)
      (ss_cons (s_set (i := 2) sc_ratio.nd rfl (Or.inl rfl) (v_callU exok_no C_divisor (hr.mono (by decide)) rfl (a_cons (v_var (pv 0)) (a_cons (v_var (pv 1)) a_nil))))
      (ss_cut (s_if (w_cmp o_lt (v_var (pv 1)) v_int (nomark _)) (ss_one (s_set (i := 2) sc_ratio.nd rfl (Or.inl rfl) (v_neg (v_var (pv 2))))) ss_nil)
      (ss_one (s_ret (v_tup (a_cons (v_op o_fdiv (v_var (pv 0)) (v_var (pv 2))) (a_cons (v_op o_fdiv (v_var (pv 1)) (v_var (pv 2))) a_nil))))))))), ?_⟩
  have hp := rat_parts (a := a) hb
  have hc := cm_ne (a := a) hb
  refine ⟨⟨a, rfl, ⟨b, rfl, rfl⟩⟩, ?_⟩
  refine iteD (fun e => absurd e hb) (fun _ => ?_)
  refine ⟨a, b, rfl, ?_⟩
  refine ⟨fun τ => τ = [I a, I b, I (cm a b)], ?_, ?_⟩
  · refine iteD (fun e => ?_) (fun e => ?_)
    · have e' : cm a b = -(g a b) := if_pos e
      rw [e']
      rfl
    · have e' : cm a b = g a b := if_neg e
      rw [e']
      rfl
  rintro τ rfl
  refine ⟨⟨hc, noPy h1⟩, ⟨hc, noPy h2⟩, (by show 2 ≤ 1000; decide), ?_⟩
  show R (.d (.tup [.int (a.fdiv (cm a b)), .int (b.fdiv (cm a b))]))
  rw [hp.1, hp.2]
  exact q
theorem sc_plus : FnScope ["one", "other"] ["one", "other"] (defScope s_plus) := ⟨rfl, rfl, rfl, by decide +kernel, rfl, by decide +kernel, by decide +kernel⟩
set_option maxHeartbeats 4000000 in
theorem ok_plus (F : Fun K "plus" "plus" s_plus f fd) (C_ratio : Cal P w K mg base (CXU P w) 2 "ratio" ["top", "bottom"] sp_ratio) : FnOk P w K mg base CX0 3 f fd ["one", "other"] (liftSp K mg sp_plus) := by
  refine fn3 F sc_plus (fun ss R U h => ?_) (fun cdv A outer s H E ss R U hr h => ?_)
  · unfold sp_plus at h; obtain ⟨p, q, k, l, rfl, _⟩ := h; rfl
  obtain ⟨q1, q2, k, l, rfl, h1, h2, hk, q⟩ := h
  refine ⟨_, (ss_one (s_ret (v_callU exok_no C_ratio (hr.mono (by decide)) rfl (a_cons (v_op o_add (v_op o_mul (v_ix (v_var (pv 0)) v_int (fun _ _ => rfl)) (v_ix (v_var (pv 1)) v_int (fun _ _ => rfl))) (v_op o_mul (v_ix (v_var (pv 1)) v_int (fun _ _ => rfl)) (v_ix (v_var (pv 0)) v_int (fun _ _ => rfl)))) (a_cons (v_op o_mul (v_ix (v_var (pv 0)) v_int (fun _ _ => rfl)) (v_ix (v_var (pv 1)) v_int (fun _ _ => rfl))) a_nil))))), ?_⟩
  have m1 := mul_lt h1.1 (den_lt h2)
  have m2 := mul_lt h2.1 (den_lt h1)
  have m3 := mul_lt (den_lt h1) (den_lt h2)
  rw [Nat.add_comm l k] at m2
  refine ⟨mulOk h1.1 (den_lt h2) (by omega), mulOk h2.1 (den_lt h1) (by omega), mulOk (den_lt h1) (den_lt h2) (by omega), _, _, rfl, dd_ne q1 q2, up_lt (add_lt m1 m2) (by omega), up_lt m3 (by omega), ?_⟩
  rw [plus_eq q1 q2]
  exact q
theorem sc_minus : FnScope ["one", "other"] ["one", "other"] (defScope s_minus) := ⟨rfl, rfl, rfl, by decide +kernel, rfl, by decide +kernel, by decide +kernel⟩
set_option maxHeartbeats 4000000 in
theorem ok_minus (F : Fun K "minus" "minus" s_minus f fd) (C_ratio : Cal P w K mg base (CXU P w) 2 "ratio" ["top", "bottom"] sp_ratio) : FnOk P w K mg base CX0 3 f fd ["one", "other"] (liftSp K mg sp_minus) := by
  refine fn3 F sc_minus (fun ss R U h => ?_) (fun cdv A outer s H E ss R U hr h => ?_)
  · unfold sp_minus at h; obtain ⟨p, q, k, l, rfl, _⟩ := h; rfl
  obtain ⟨q1, q2, k, l, rfl, h1, h2, hk, q⟩ := h
  refine ⟨_, (ss_one (s_ret (v_callU exok_no C_ratio (hr.mono (by decide)) rfl (a_cons (v_op o_sub (v_op o_mul (v_ix (v_var (pv 0)) v_int (fun _ _ => rfl)) (v_ix (v_var (pv 1)) v_int (fun _ _ => rfl))) (v_op o_mul (v_ix (v_var (pv 1)) v_int (fun _ _ => rfl)) (v_ix (v_var (pv 0)) v_int (fun _ _ => rfl)))) (a_cons (v_op o_mul (v_ix (v_var (pv 0)) v_int (fun _ _ => rfl)) (v_ix (v_var (pv 1)) v_int (fun _ _ => rfl))) a_nil))))), ?_⟩
  have m1 := mul_lt h1.1 (den_lt h2)
  have m2 := mul_lt h2.1 (den_lt h1)
  have m3 := mul_lt (den_lt h1) (den_lt h2)
  rw [Nat.add_comm l k] at m2
  refine ⟨mulOk h1.1 (den_lt h2) (by omega), mulOk h2.1 (den_lt h1) (by omega), mulOk (den_lt h1) (den_lt h2) (by omega), _, _, rfl, dd_ne q1 q2, up_lt (sub_lt m1 m2) (by omega), up_lt m3 (by omega), ?_⟩
  rw [minus_eq q1 q2]
  exact q
theorem sc_times : FnScope ["one", "other"] ["one", "other"] (defScope s_times) := ⟨rfl, rfl, rfl, by decide +kernel, rfl, by decide +kernel, by decide +kernel⟩
set_option maxHeartbeats 4000000 in
theorem ok_times (F : Fun K "times" "times" s_times f fd) (C_ratio : Cal P w K mg base (CXU P w) 2 "ratio" ["top", "bottom"] sp_ratio) : FnOk P w K mg base CX0 3 f fd ["one", "other"] (liftSp K mg sp_times) := by
  refine fn3 F sc_times (fun ss R U h => ?_) (fun cdv A outer s H E ss R U hr h => ?_)
  · unfold sp_times at h; obtain ⟨p, q, k, l, rfl, _⟩ := h; rfl
  obtain ⟨q1, q2, k, l, rfl, h1, h2, hk, q⟩ := h
  refine ⟨_, (ss_one (s_ret (v_callU exok_no C_ratio (hr.mono (by decide)) rfl (a_cons (v_op o_mul (v_ix (v_var (pv 0)) v_int (fun _ _ => rfl)) (v_ix (v_var (pv 1)) v_int (fun _ _ => rfl))) (a_cons (v_op o_mul (v_ix (v_var (pv 0)) v_int (fun _ _ => rfl)) (v_ix (v_var (pv 1)) v_int (fun _ _ => rfl))) a_nil))))), ?_⟩
  refine ⟨mulOk h1.1 h2.1 (by omega), mulOk (den_lt h1) (den_lt h2) (by omega), _, _, rfl, dd_ne q1 q2, up_lt (mul_lt h1.1 h2.1) (by omega), up_lt (mul_lt (den_lt h1) (den_lt h2)) (by omega), ?_⟩
  rw [times_eq q1 q2]
  exact q
theorem sc_over : FnScope ["one", "other"] ["one", "other"] (defScope s_over) := ⟨rfl, rfl, rfl, by decide +kernel, rfl, by decide +kernel, by decide +kernel⟩
set_option maxHeartbeats 4000000 in
theorem ok_over (F : Fun K "over" "over" s_over f fd) (C_ratio : Cal P w K mg base (CXU P w) 2 "ratio" ["top", "bottom"] sp_ratio) : FnOk P w K mg base CX0 3 f fd ["one", "other"] (liftSp K mg sp_over) := by
  refine fn3 F sc_over (fun ss R U h => ?_) (fun cdv A outer s H E ss R U hr h => ?_)
  · unfold sp_over at h; obtain ⟨p, q, k, l, rfl, _⟩ := h; rfl
  obtain ⟨q1, q2, k, l, rfl, h1, h2, hk, h0, q⟩ := h
  refine ⟨_, (ss_one (s_ret (v_callU exok_no C_ratio (hr.mono (by decide)) rfl (a_cons (v_op o_mul (v_ix (v_var (pv 0)) v_int (fun _ _ => rfl)) (v_ix (v_var (pv 1)) v_int (fun _ _ => rfl))) (a_cons (v_op o_mul (v_ix (v_var (pv 0)) v_int (fun _ _ => rfl)) (v_ix (v_var (pv 1)) v_int (fun _ _ => rfl))) a_nil))))), ?_⟩
  refine ⟨mulOk h1.1 (den_lt h2) (by omega), mulOk (den_lt h1) h2.1 (by omega), _, _, rfl, Sz.den_ne (k := 0) h0, up_lt (mul_lt h1.1 (den_lt h2)) (by omega), up_lt (mul_lt (den_lt h1) h2.1) (by omega), ?_⟩
  rw [over_eq q1 q2 h0]
  exact q
theorem sc_under : FnScope ["one", "other"] ["one", "other"] (defScope s_under) := ⟨rfl, rfl, rfl, by decide +kernel, rfl, by decide +kernel, by decide +kernel⟩
set_option maxHeartbeats 4000000 in
theorem ok_under (F : Fun K "under" "under" s_under f fd) : FnOk P w K mg base CX0 1 f fd ["one", "other"] (liftSp K mg sp_under) := by
  refine fn3 F sc_under (fun ss R U h => ?_) (fun cdv A outer s H E ss R U hr h => ?_)
  · unfold sp_under at h; obtain ⟨p, q, k, l, rfl, _⟩ := h; rfl
  obtain ⟨q1, q2, k, l, rfl, h1, h2, hk, q⟩ := h
  refine ⟨_, (ss_one (s_ret (v_cmp o_lt (v_op o_mul (v_ix (v_var (pv 0)) v_int (fun _ _ => rfl)) (v_ix (v_var (pv 1)) v_int (fun _ _ => rfl))) (v_op o_mul (v_ix (v_var (pv 1)) v_int (fun _ _ => rfl)) (v_ix (v_var (pv 0)) v_int (fun _ _ => rfl))) (nomark _)))), ?_⟩
  refine ⟨mulOk h1.1 (den_lt h2) (by omega), mulOk h2.1 (den_lt h1) (by omega), ?_⟩
  have e : decide (q1.num * (q2.den : Int) < q2.num * (q1.den : Int)) = decide (q1 < q2) := decide_eq_decide.mpr (lt_iff q1 q2)
  show R (.d (.bl (decide (q1.num * (q2.den : Int) < q2.num * (q1.den : Int)))))
  rw [e]
  exact q
theorem sc_greater : FnScope ["one", "other"] ["one", "other"] (defScope s_greater) := ⟨rfl, rfl, rfl, by decide +kernel, rfl, by decide +kernel, by decide +kernel⟩
set_option maxHeartbeats 4000000 in
theorem ok_greater (F : Fun K "greater" "greater" s_greater f fd) (C_under : Cal P w K mg base (CXU P w) 1 "under" ["one", "other"] sp_under) : FnOk P w K mg base CX0 2 f fd ["one", "other"] (liftSp K mg sp_greater) := by
  refine fn3 F sc_greater (fun ss R U h => ?_) (fun cdv A outer s H E ss R U hr h => ?_)
  · unfold sp_greater at h; obtain ⟨p, q, k, l, rfl, _⟩ := h; rfl
  obtain ⟨q1, q2, k, l, rfl, h1, h2, hk, q⟩ := h
  refine ⟨_, (ss_cons (s_if (w_val (v_callU exok_no C_under (hr.mono (by decide)) rfl (a_cons (v_var (pv 0)) (a_cons (v_var (pv 1)) a_nil)))) (ss_one (s_retV (pv 1))) ss_nil)
      (ss_one (s_retV (pv 0)))), ?_⟩
  refine ⟨q1, q2, k, l, rfl, h1, h2, by omega, ?_⟩
  refine iteD (fun e => ?_) (fun e => ?_)
  · rw [if_pos e] at q
    exact q
  · rw [if_neg e] at q
    exact q
theorem sc_check_begin : FnScope ["corners"] ["corners"] (defScope s_check_begin) := ⟨rfl, rfl, rfl, by decide +kernel, rfl, by decide +kernel, by decide +kernel⟩
set_option maxHeartbeats 4000000 in
theorem ok_check_begin (F : Fun K "check_begin" "check_begin" s_check_begin f fd) (C_under : Cal P w K mg base (CXU P w) 1 "under" ["one", "other"] sp_under) (z_len : mg "len" = none) (gc_NOUGHT : GC K mg "NOUGHT" (.tup [(.int 0), (.int 1)])) (ec_NoCurve : ExC K "NoCurve" K_NoCurve) (m_NoCurve : mg "NoCurve" = some (.ref K_NoCurve)) : FnOk P w K mg base (CXU P w) 2 f fd ["corners"] (liftSp K mg sp_check_begin) := by
  refine fnU F sc_check_begin (fun ss R U h => ?_) (fun cdv A outer s H E ss R U hr h xo => ?_)
  · unfold sp_check_begin at h; obtain ⟨x, cs, rfl, _⟩ := h; rfl
  obtain ⟨x, cs, rfl, hx, hl, hz, q, qu⟩ := h
  refine ⟨_, (ss_cons (s_if (w_cmp o_eq (v_callB b_len rfl z_len PySem.boot_len (a_cons (v_var (pv 0)) a_nil)) v_int (nomark _)) (ss_one (s_raise xo rfl v_str rfl ec_NoCurve m_NoCurve)) ss_nil)
      (ss_cons (s_if (w_cmp (o_neT 1 (hu_ hr (by decide))) (v_ix (v_ix (v_var (pv 0)) v_int (fun _ _ => rfl)) v_int (fun _ _ => rfl)) (v_gc rfl gc_NOUGHT) (nomark _)) (ss_one (s_raise xo rfl v_str rfl ec_NoCurve m_NoCurve)) ss_nil)
      (ss_one (s_if (w_val (v_callU xo C_under (hr.mono (by decide)) rfl (a_cons (v_ix (v_ix (v_var (pv 0)) v_int (fun _ _ => rfl)) v_int (fun _ _ => rfl)) (a_cons (v_gc rfl gc_NOUGHT) a_nil)))) (ss_one (s_raise xo rfl v_str rfl ec_NoCurve m_NoCurve)) ss_nil)))), ?_⟩
  rcases hx with rfl | rfl
  · refine iteD (fun c => ?_) (fun c => ?_)
    · exact qu (fun z => by have := z.1; rw [List.length_map] at c; omega)
    have c0 : 0 < cs.length := by rw [List.length_map] at c; omega
    have a0 := at_cs' (cs := cs) (i := 0) 0 rfl c0
    have z0 := hz 0 c0
    refine atR a0 ?_
    refine ⟨rfl, rfl, neT (tt cs 0) 0 (fun c => qu (fun z => c z.2.1)) (fun e0 => ?_)⟩
    refine atR a0 ?_
    refine ⟨_, 0, _, _, rfl, z0.2, Sz.zero, by decide, ?_⟩
    refine iteD (fun c => qu (fun z => absurd c (Rat.not_lt.mpr z.2.2))) (fun c => ?_)
    exact q ⟨c0, e0, Rat.not_lt.mp c⟩
  · refine iteD (fun c => ?_) (fun c => ?_)
    · exact qu (fun z => by have := z.1; rw [List.length_map] at c; omega)
    have c0 : 0 < cs.length := by rw [List.length_map] at c; omega
    have a0 := at_cs' (cs := cs) (i := 0) 0 rfl c0
    have z0 := hz 0 c0
    refine atR a0 ?_
    refine ⟨rfl, rfl, neT (tt cs 0) 0 (fun c => qu (fun z => c z.2.1)) (fun e0 => ?_)⟩
    refine atR a0 ?_
    refine ⟨_, 0, _, _, rfl, z0.2, Sz.zero, by decide, ?_⟩
    refine iteD (fun c => qu (fun z => absurd c (Rat.not_lt.mpr z.2.2))) (fun c => ?_)
    exact q ⟨c0, e0, Rat.not_lt.mp c⟩
theorem sc_check_rise : FnScope ["corners", "number", "ahead", "corner"] ["corners"] (defScope s_check_rise) := ⟨rfl, rfl, rfl, by decide +kernel, rfl, by decide +kernel, by decide +kernel⟩
set_option maxHeartbeats 4000000 in
theorem ok_check_rise (F : Fun K "check_rise" "check_rise" s_check_rise f fd) (C_under : Cal P w K mg base (CXU P w) 1 "under" ["one", "other"] sp_under) (z_range : mg "range" = none) (z_len : mg "len" = none) (ec_NoCurve : ExC K "NoCurve" K_NoCurve) (m_NoCurve : mg "NoCurve" = some (.ref K_NoCurve)) : FnOk P w K mg base (CXU P w) 2 f fd ["corners"] (liftSp K mg sp_check_rise) := by
  refine fnU F sc_check_rise (fun ss R U h => ?_) (fun cdv A outer s H E ss R U hr h xo => ?_)
  · unfold sp_check_rise at h; obtain ⟨x, cs, rfl, _⟩ := h; rfl
  obtain ⟨x, cs, rfl, hx, c0, hl, hz, q, qu⟩ := h
  refine ⟨_, (ss_one (s_for2 (ps_for PassesOwn.leaving rfl (pi_range2 rfl z_range (PA3.out (a_cons v_int (a_cons (v_callB b_len rfl z_len PySem.boot_len (a_cons (v_var (pv 0)) a_nil)) a_nil)))) (pg_name (i := 1) sc_check_rise.nd rfl (Or.inl rfl)) (PSs3.out (ss_cons (s_set (i := 2) sc_check_rise.nd rfl (Or.inl rfl) (v_ix (v_var (pv 0)) (v_op o_sub (v_var (pv 1)) v_int) (fun _ _ => rfl)))
      (ss_cons (s_set (i := 3) sc_check_rise.nd rfl (Or.inl rfl) (v_ix (v_var (pv 0)) (v_var (pv 1)) (fun _ _ => rfl)))
      (ss_cons (s_if (w_not (w_val (v_callU xo C_under (hr.mono (by decide)) rfl (a_cons (v_ix (v_var (pv 2)) v_int (fun _ _ => rfl)) (a_cons (v_ix (v_var (pv 3)) v_int (fun _ _ => rfl)) a_nil))))) (ss_one (s_raise xo rfl v_str rfl ec_NoCurve m_NoCurve)) ss_nil)
      (ss_one (s_if (w_val (v_callU xo C_under (hr.mono (by decide)) rfl (a_cons (v_ix (v_var (pv 3)) v_int (fun _ _ => rfl)) (a_cons (v_ix (v_var (pv 2)) v_int (fun _ _ => rfl)) a_nil)))) (ss_one (s_raise xo rfl v_str rfl ec_NoCurve m_NoCurve)) ss_nil))))))))), ?_⟩
  rcases hx with rfl | rfl
  · refine ⟨⟨by decide, by decide, by rw [List.length_map]; omega, by rw [List.length_map]; omega⟩, ?_⟩
    refine ⟨fun n τ => ∃ y0 y1 y2, τ = [some (.r (cs.map cd)), y0, y1, y2] ∧ Ris cs n, ⟨_, _, _, rfl, fun k hk => absurd hk (Nat.not_lt_zero k)⟩, ?_, ?_⟩
    · rintro n τ hn ⟨y0, y1, y2, rfl, hr⟩
      rw [List.length_map] at hn
      have n1 : n + 1 < cs.length := by omega
      have z0 := hz n (by omega)
      have z1 := hz (n + 1) n1
      refine atR (at_cs' (cs := cs) n (by omega) (by omega)) ?_
      refine atR (at_cs' (cs := cs) (n + 1) (by omega) n1) ?_
      refine ⟨_, _, _, _, rfl, z0.1, z1.1, by decide, ?_⟩
      refine iteN (fun c => qu (fun z => c (z n (by omega) n1).1)) (fun lt => ?_)
      refine ⟨_, _, _, _, rfl, z1.2, z0.2, by decide, ?_⟩
      refine iteD (fun c => qu (fun z => absurd c (Rat.not_lt.mpr (z n (by omega) n1).2))) (fun c => ?_)
      refine ⟨_, _, _, rfl, fun k hk k1 => ?_⟩
      by_cases e : k < n
      · exact hr k e k1
      · have e' : k = n := by omega
        subst e'
        exact ⟨lt, Rat.not_lt.mp c⟩
    rintro τ ⟨y0, y1, y2, rfl, hr⟩
    rw [List.length_map, show ((cs.length : Int) - 1).toNat = cs.length - 1 by omega] at hr
    exact q (fun k hk k1 => hr k (by omega) k1)
  · refine ⟨⟨by decide, by decide, by rw [List.length_map]; omega, by rw [List.length_map]; omega⟩, ?_⟩
    refine ⟨fun n τ => ∃ y0 y1 y2, τ = [some (.d (.lst (cs.map cd))), y0, y1, y2] ∧ Ris cs n, ⟨_, _, _, rfl, fun k hk => absurd hk (Nat.not_lt_zero k)⟩, ?_, ?_⟩
    · rintro n τ hn ⟨y0, y1, y2, rfl, hr⟩
      rw [List.length_map] at hn
      have n1 : n + 1 < cs.length := by omega
      have z0 := hz n (by omega)
      have z1 := hz (n + 1) n1
      refine atR (at_cs' (cs := cs) n (by omega) (by omega)) ?_
      refine atR (at_cs' (cs := cs) (n + 1) (by omega) n1) ?_
      refine ⟨_, _, _, _, rfl, z0.1, z1.1, by decide, ?_⟩
      refine iteN (fun c => qu (fun z => c (z n (by omega) n1).1)) (fun lt => ?_)
      refine ⟨_, _, _, _, rfl, z1.2, z0.2, by decide, ?_⟩
      refine iteD (fun c => qu (fun z => absurd c (Rat.not_lt.mpr (z n (by omega) n1).2))) (fun c => ?_)
      refine ⟨_, _, _, rfl, fun k hk k1 => ?_⟩
      by_cases e : k < n
      · exact hr k e k1
      · have e' : k = n := by omega
        subst e'
        exact ⟨lt, Rat.not_lt.mp c⟩
    rintro τ ⟨y0, y1, y2, rfl, hr⟩
    rw [List.length_map, show ((cs.length : Int) - 1).toNat = cs.length - 1 by omega] at hr
    exact q (fun k hk k1 => hr k (by omega) k1)
theorem sc_slope_between : FnScope ["one", "other"] ["one", "other"] (defScope s_slope_between) := ⟨rfl, rfl, rfl, by decide +kernel, rfl, by decide +kernel, by decide +kernel⟩
set_option maxHeartbeats 4000000 in
theorem ok_slope_between (F : Fun K "slope_between" "slope_between" s_slope_between f fd) (C_over : Cal P w K mg base (CXU P w) 3 "over" ["one", "other"] sp_over) (C_minus : Cal P w K mg base (CXU P w) 3 "minus" ["one", "other"] sp_minus) : FnOk P w K mg base CX0 4 f fd ["one", "other"] (liftSp K mg sp_slope_between) := by
  refine fn3 F sc_slope_between (fun ss R U h => ?_) (fun cdv A outer s H E ss R U hr h => ?_)
  · unfold sp_slope_between at h; obtain ⟨a, b, c, d, n, rfl, _⟩ := h; rfl
  obtain ⟨a, b, c, d, n, rfl, hn, ha, hb, hc, hd, h0, q⟩ := h
  refine ⟨_, (ss_one (s_ret (v_callU exok_no C_over (hr.mono (by decide)) rfl (a_cons (v_callU exok_no C_minus (hr.mono (by decide)) rfl (a_cons (v_ix (v_var (pv 1)) v_int (fun _ _ => rfl)) (a_cons (v_ix (v_var (pv 0)) v_int (fun _ _ => rfl)) a_nil))) (a_cons (v_callU exok_no C_minus (hr.mono (by decide)) rfl (a_cons (v_ix (v_var (pv 1)) v_int (fun _ _ => rfl)) (a_cons (v_ix (v_var (pv 0)) v_int (fun _ _ => rfl)) a_nil))) a_nil))))), ?_⟩
  refine ⟨d, b, n, n, rfl, hd, hb, by omega, ?_⟩
  refine ⟨c, a, n, n, rfl, hc, ha, by omega, ?_⟩
  exact ⟨d - b, c - a, _, _, rfl, hd.sub hb, hc.sub ha, by omega, h0, q⟩
theorem sc_slopes_behind : FnScope ["points", "last", "slopes"] ["points", "last"] (defScope s_slopes_behind) := ⟨rfl, rfl, rfl, by decide +kernel, rfl, by decide +kernel, by decide +kernel⟩
set_option maxHeartbeats 4000000 in
theorem ok_slopes_behind (F : Fun K "slopes_behind" "slopes_behind" s_slopes_behind f fd) (C_slope_between : Cal P w K mg base (CXU P w) 4 "slope_between" ["one", "other"] sp_slope_between) (z_range : mg "range" = none) (z_len : mg "len" = none) : FnOk P w K mg base CX0 5 f fd ["points", "last"] (liftSp K mg sp_slopes_behind) := by
  refine fn3 F sc_slopes_behind (fun ss R U h => ?_) (fun cdv A outer s H E ss R U hr h => ?_)
  · unfold sp_slopes_behind at h; obtain ⟨x, cs, m, rfl, _⟩ := h; rfl
  obtain ⟨x, cs, m, rfl, hx, c0, hl, hz, up, q⟩ := h
  refine ⟨_, (ss_cons (s_setC (i := 2) (N := ["number", "points"]) (idx := [0]) (CompOk.mk' (defScope s_slopes_behind) ["points", "last", "slopes"] rfl rfl (by decide +kernel)) rfl (pi_range2 rfl z_range (PA3.out (a_cons v_int (a_cons (v_callB b_len rfl z_len PySem.boot_len (a_cons (v_var (pv 0)) a_nil)) a_nil)))) src_rng2 (fun cl C s₀ H₀ fp => ifs_nil) (fun cl C s₀ H₀ fp => (v_callU exok_no C_slope_between (hr.mono (by decide)) rfl (a_cons (v_ix (v_var (pv 1)) (v_op o_sub (v_var (pv 0)) v_int) (fun _ _ => rfl)) (a_cons (v_ix (v_var (pv 1)) (v_var (pv 0)) (fun _ _ => rfl)) a_nil)))) sc_slopes_behind.nd rfl (Or.inl rfl))
      (ss_cons (s_app (ps_expr (pe_bm PySem.F.plainAttrs_list PySem.F.slot_list_append PySem.F.type_list_append mt_append (pv 2) (pa_cons (PE3.out (v_var (pv 1))) pa_nil))))
      (ss_one (s_retV (pv 2))))), ?_⟩
  rcases hx with rfl | rfl
  · refine ⟨⟨by decide, by decide, by rw [List.length_map]; omega, by rw [List.length_map]; omega⟩, ?_⟩
    have eN : ((((cs.map cd).length : Nat) : Int) - 1).toNat = cs.length - 1 := by rw [List.length_map]; omega
    refine ⟨(List.range (cs.length - 1)).map fun i => some (qd (slp cs m i)), by rw [rngD_len, eN, List.length_map, List.length_range], ?_, ?_, ?_⟩
    · intro n x hx
      obtain ⟨hn, rfl⟩ := rngD_item hx
      rw [eN] at hn
      have n1 : n + 1 < cs.length := by omega
      have z0 := hz n (by omega)
      have z1 := hz (n + 1) n1
      refine atR (at_cs' (cs := cs) n (by omega) (by omega)) ?_
      refine atR (at_cs' (cs := cs) (n + 1) (by omega) n1) ?_
      refine ⟨tt cs n, vv cs n, tt cs (n + 1), vv cs (n + 1), 3200, rfl, by decide, z0.1, z0.2, z1.1, z1.2, sub_ne (up n n1), ?_⟩
      show ((List.range (cs.length - 1)).map _)[n]? = _
      rw [List.getElem?_map, List.getElem?_range (by omega)]
      show some (some (qd (slp cs m n))) = _
      rw [slp_in n1]
    · rw [rngD_len, eN]; omega
    refine ⟨?_, ?_⟩
    · have := List.length_filterMap_le id ((List.range (cs.length - 1)).map fun i => some (qd (slp cs m i)))
      rw [List.length_map, List.length_range] at this
      omega
    show R (.l (_ ++ [qd m]))
    rw [slp_fill cs m c0]
    exact q
  · refine ⟨⟨by decide, by decide, by rw [List.length_map]; omega, by rw [List.length_map]; omega⟩, ?_⟩
    have eN : ((((cs.map cd).length : Nat) : Int) - 1).toNat = cs.length - 1 := by rw [List.length_map]; omega
    refine ⟨(List.range (cs.length - 1)).map fun i => some (qd (slp cs m i)), by rw [rngD_len, eN, List.length_map, List.length_range], ?_, ?_, ?_⟩
    · intro n x hx
      obtain ⟨hn, rfl⟩ := rngD_item hx
      rw [eN] at hn
      have n1 : n + 1 < cs.length := by omega
      have z0 := hz n (by omega)
      have z1 := hz (n + 1) n1
      refine atR (at_cs' (cs := cs) n (by omega) (by omega)) ?_
      refine atR (at_cs' (cs := cs) (n + 1) (by omega) n1) ?_
      refine ⟨tt cs n, vv cs n, tt cs (n + 1), vv cs (n + 1), 3200, rfl, by decide, z0.1, z0.2, z1.1, z1.2, sub_ne (up n n1), ?_⟩
      show ((List.range (cs.length - 1)).map _)[n]? = _
      rw [List.getElem?_map, List.getElem?_range (by omega)]
      show some (some (qd (slp cs m n))) = _
      rw [slp_in n1]
    · rw [rngD_len, eN]; omega
    refine ⟨?_, ?_⟩
    · have := List.length_filterMap_le id ((List.range (cs.length - 1)).map fun i => some (qd (slp cs m i)))
      rw [List.length_map, List.length_range] at this
      omega
    show R (.l (_ ++ [qd m]))
    rw [slp_fill cs m c0]
    exact q
theorem sc_curve : FnScope ["corners", "last", "slopes", "kept", "number"] ["corners", "last"] (defScope s_curve) := ⟨rfl, rfl, rfl, by decide +kernel, rfl, by decide +kernel, by decide +kernel⟩
set_option maxHeartbeats 4000000 in
theorem ok_curve (F : Fun K "curve" "curve" s_curve f fd) (C_check_begin : Cal P w K mg base (CXU P w) 2 "check_begin" ["corners"] sp_check_begin) (C_check_rise : Cal P w K mg base (CXU P w) 2 "check_rise" ["corners"] sp_check_rise) (C_under : Cal P w K mg base (CXU P w) 1 "under" ["one", "other"] sp_under) (C_slopes_behind : Cal P w K mg base (CXU P w) 5 "slopes_behind" ["points", "last"] sp_slopes_behind) (z_range : mg "range" = none) (z_len : mg "len" = none) (z_tuple : mg "tuple" = none) (gc_NOUGHT : GC K mg "NOUGHT" (.tup [(.int 0), (.int 1)])) (ec_NoCurve : ExC K "NoCurve" K_NoCurve) (m_NoCurve : mg "NoCurve" = some (.ref K_NoCurve)) : FnOk P w K mg base (CXU P w) 6 f fd ["corners", "last"] (liftSp K mg sp_curve) := by
  refine fnU F sc_curve (fun ss R U h => ?_) (fun cdv A outer s H E ss R U hr h xo => ?_)
  · unfold sp_curve at h; obtain ⟨x, cs, m, rfl, _⟩ := h; rfl
  obtain ⟨x, cs, m, rfl, hx, hz, q, qu⟩ := h
  refine ⟨_, (ss_cons (s_expr (v_callU xo C_check_begin (hr.mono (by decide)) rfl (a_cons (v_var (pv 0)) a_nil)))
      (ss_cons (s_expr (v_callU xo C_check_rise (hr.mono (by decide)) rfl (a_cons (v_var (pv 0)) a_nil)))
      (ss_cons (s_if (w_val (v_callU xo C_under (hr.mono (by decide)) rfl (a_cons (v_var (pv 1)) (a_cons (v_gc rfl gc_NOUGHT) a_nil)))) (ss_one (s_raise xo rfl v_str rfl ec_NoCurve m_NoCurve)) ss_nil)
      (ss_cons (s_set (i := 2) sc_curve.nd rfl (Or.inl rfl) (v_callU xo C_slopes_behind (hr.mono (by decide)) rfl (a_cons (v_var (pv 0)) (a_cons (v_var (pv 1)) a_nil))))
      (ss_cons (s_set (i := 3) sc_curve.nd rfl (Or.inl rfl) (v_lst (a_cons (v_ix (v_var (pv 0)) v_int (fun _ _ => rfl)) a_nil)))
      (ss_cons (s_for2 (ps_for PassesOwn.leaving rfl (pi_range2 rfl z_range (PA3.out (a_cons v_int (a_cons (v_callB b_len rfl z_len PySem.boot_len (a_cons (v_var (pv 0)) a_nil)) a_nil)))) (pg_name (i := 4) sc_curve.nd rfl (Or.inl rfl)) (PSs3.out (ss_one (s_if (w_cmp (o_neT 1 (hu_ hr (by decide))) (v_ix (v_var (pv 2)) (v_var (pv 4)) (fun _ _ => rfl)) (v_ix (v_var (pv 2)) (v_op o_sub (v_var (pv 4)) v_int) (fun _ _ => rfl)) (nomark _)) (ss_one (s_app (ps_expr (pe_bm PySem.F.plainAttrs_list PySem.F.slot_list_append PySem.F.type_list_append mt_append (pv 3) (pa_cons (PE3.out (v_ix (v_var (pv 0)) (v_var (pv 4)) (fun _ _ => rfl))) pa_nil))))) ss_nil)))))
      (ss_one (s_ret (v_tup (a_cons (v_tupOf (v_var (pv 3)) rfl z_tuple) (a_cons (v_var (pv 1)) a_nil))))))))))), ?_⟩
  rcases hx with rfl | rfl
  · have hl := hz.len
    refine ⟨_, cs, rfl, Or.inl rfl, hl, hz.cs, fun hb => ?_, fun nb => qu (fun z => nb ⟨z.1.ne, z.1.t0, z.1.v0⟩)⟩
    refine ⟨_, cs, rfl, Or.inl rfl, hb.1, hl, hz.cs, fun hr => ?_, fun nr => qu (fun z => nr (fun k _ k1 => ⟨z.1.up k k1, z.1.vu k k1⟩))⟩
    refine ⟨m, 0, _, _, rfl, hz.m, Sz.zero, by decide, ?_⟩
    refine iteD (fun c => qu (fun z => absurd c (Rat.not_lt.mpr z.2))) (fun c => ?_)
    have hm : 0 ≤ m := Rat.not_lt.mp c
    have c0 := hb.1
    have ho : Ord cs := ⟨hb.1, hb.2.1, hb.2.2, fun k k1 => (hr k (by omega) k1).1, fun k k1 => (hr k (by omega) k1).2⟩
    refine ⟨_, cs, m, rfl, Or.inl rfl, c0, hl, hz.cs.mono (by decide), ho.up, ?_⟩
    refine atR (at_cs' (cs := cs) (i := 0) 0 rfl c0) ?_
    refine ⟨(by show 1 ≤ 1000; decide), ?_⟩
    refine ⟨⟨by decide, by decide, by rw [List.length_map]; omega, by rw [List.length_map]; omega⟩, ?_⟩
    refine ⟨fun n τ => ∃ y, τ = [some (.r (cs.map cd)), some (.d (qd m)), some (.l ((slpL cs m).map qd)), some (.l ((kp cs m n).map cd)), y], ⟨_, rfl⟩, ?_, ?_⟩
    · rintro n τ hn ⟨y, rfl⟩
      rw [List.length_map] at hn
      have n1 : n + 1 < cs.length := by omega
      refine atR (at_sl (n + 1) (by omega) n1) ?_
      refine atR (at_sl n (by omega) (by omega)) ?_
      refine ⟨rfl, rfl, neT (slp cs m (n + 1)) (slp cs m n) (fun c => ?_) (fun c => ?_)⟩
      · refine atR (at_cs' (cs := cs) (n + 1) (by omega) n1) ?_
        refine ⟨?_, some (.d (.int (1 + n * 1))), ?_⟩
        · rw [List.length_map]
          have := kp_len cs m n
          omega
        · rw [kp_go (fun z => c z.symm), List.map_append]
          rfl
      · refine ⟨some (.d (.int (1 + n * 1))), ?_⟩
        rw [kp_stay c.symm]
        rfl
    rintro τ ⟨y, rfl⟩
    rw [List.length_map, show ((cs.length : Int) - 1).toNat = cs.length - 1 by omega]
    exact ⟨(by show 2 ≤ 1000; decide), q ⟨ho, hm⟩⟩
  · have hl := hz.len
    refine ⟨_, cs, rfl, Or.inr rfl, hl, hz.cs, fun hb => ?_, fun nb => qu (fun z => nb ⟨z.1.ne, z.1.t0, z.1.v0⟩)⟩
    refine ⟨_, cs, rfl, Or.inr rfl, hb.1, hl, hz.cs, fun hr => ?_, fun nr => qu (fun z => nr (fun k _ k1 => ⟨z.1.up k k1, z.1.vu k k1⟩))⟩
    refine ⟨m, 0, _, _, rfl, hz.m, Sz.zero, by decide, ?_⟩
    refine iteD (fun c => qu (fun z => absurd c (Rat.not_lt.mpr z.2))) (fun c => ?_)
    have hm : 0 ≤ m := Rat.not_lt.mp c
    have c0 := hb.1
    have ho : Ord cs := ⟨hb.1, hb.2.1, hb.2.2, fun k k1 => (hr k (by omega) k1).1, fun k k1 => (hr k (by omega) k1).2⟩
    refine ⟨_, cs, m, rfl, Or.inr rfl, c0, hl, hz.cs.mono (by decide), ho.up, ?_⟩
    refine atR (at_cs' (cs := cs) (i := 0) 0 rfl c0) ?_
    refine ⟨(by show 1 ≤ 1000; decide), ?_⟩
    refine ⟨⟨by decide, by decide, by rw [List.length_map]; omega, by rw [List.length_map]; omega⟩, ?_⟩
    refine ⟨fun n τ => ∃ y, τ = [some (.d (.lst (cs.map cd))), some (.d (qd m)), some (.l ((slpL cs m).map qd)), some (.l ((kp cs m n).map cd)), y], ⟨_, rfl⟩, ?_, ?_⟩
    · rintro n τ hn ⟨y, rfl⟩
      rw [List.length_map] at hn
      have n1 : n + 1 < cs.length := by omega
      refine atR (at_sl (n + 1) (by omega) n1) ?_
      refine atR (at_sl n (by omega) (by omega)) ?_
      refine ⟨rfl, rfl, neT (slp cs m (n + 1)) (slp cs m n) (fun c => ?_) (fun c => ?_)⟩
      · refine atR (at_cs' (cs := cs) (n + 1) (by omega) n1) ?_
        refine ⟨?_, some (.d (.int (1 + n * 1))), ?_⟩
        · rw [List.length_map]
          have := kp_len cs m n
          omega
        · rw [kp_go (fun z => c z.symm), List.map_append]
          rfl
      · refine ⟨some (.d (.int (1 + n * 1))), ?_⟩
        rw [kp_stay c.symm]
        rfl
    rintro τ ⟨y, rfl⟩
    rw [List.length_map, show ((cs.length : Int) - 1).toNat = cs.length - 1 by omega]
    exact ⟨(by show 2 ≤ 1000; decide), q ⟨ho, hm⟩⟩
theorem sc_heap : FnScope ["value", "slope"] ["value", "slope"] (defScope s_heap) := ⟨rfl, rfl, rfl, by decide +kernel, rfl, by decide +kernel, by decide +kernel⟩
set_option maxHeartbeats 4000000 in
theorem ok_heap (F : Fun K "heap" "heap" s_heap f fd) (C_curve : Cal P w K mg base (CXU P w) 6 "curve" ["corners", "last"] sp_curve) (gc_NOUGHT : GC K mg "NOUGHT" (.tup [(.int 0), (.int 1)])) : FnOk P w K mg base (CXU P w) 7 f fd ["value", "slope"] (liftSp K mg sp_heap) := by
  refine fnU F sc_heap (fun ss R U h => ?_) (fun cdv A outer s H E ss R U hr h xo => ?_)
  · unfold sp_heap at h; obtain ⟨v, s, rfl, _⟩ := h; rfl
  obtain ⟨v, s, rfl, hv, hs, q, qu⟩ := h
  refine ⟨_, (ss_one (s_ret (v_callU xo C_curve (hr.mono (by decide)) rfl (a_cons (v_lst (a_cons (v_tup (a_cons (v_gc rfl gc_NOUGHT) (a_cons (v_var (pv 0)) a_nil))) a_nil)) (a_cons (v_var (pv 1)) a_nil))))), ?_⟩
  refine ⟨(by show 2 ≤ 1000; decide), (by show 1 ≤ 1000; decide), ?_⟩
  refine ⟨_, [(0, v)], s, rfl, Or.inr rfl, ⟨(by show 1 ≤ 100000; decide), SzC.one (by decide) hv, hs⟩, fun z => q ⟨z.1.v0, z.2⟩, fun z => qu (fun w => z ⟨Ord.one w.1, w.2⟩)⟩
theorem sc_check_time : FnScope ["t"] ["t"] (defScope s_check_time) := ⟨rfl, rfl, rfl, by decide +kernel, rfl, by decide +kernel, by decide +kernel⟩
set_option maxHeartbeats 4000000 in
theorem ok_check_time (F : Fun K "check_time" "check_time" s_check_time f fd) (C_under : Cal P w K mg base (CXU P w) 1 "under" ["one", "other"] sp_under) (gc_NOUGHT : GC K mg "NOUGHT" (.tup [(.int 0), (.int 1)])) (ec_NoTime : ExC K "NoTime" K_NoTime) (m_NoTime : mg "NoTime" = some (.ref K_NoTime)) : FnOk P w K mg base (CXU P w) 2 f fd ["t"] (liftSp K mg sp_check_time) := by
  refine fnU F sc_check_time (fun ss R U h => ?_) (fun cdv A outer s H E ss R U hr h xo => ?_)
  · unfold sp_check_time at h; obtain ⟨t, n, rfl, _⟩ := h; rfl
  obtain ⟨t, n, rfl, hn, ht, q, qu⟩ := h
  refine ⟨_, (ss_one (s_if (w_val (v_callU xo C_under (hr.mono (by decide)) rfl (a_cons (v_var (pv 0)) (a_cons (v_gc rfl gc_NOUGHT) a_nil)))) (ss_one (s_raise xo rfl v_str rfl ec_NoTime m_NoTime)) ss_nil)), ?_⟩
  refine ⟨t, 0, _, _, rfl, ht, Sz.zero, by omega, ?_⟩
  exact iteD (fun c => qu (Rat.not_le.mpr c)) (fun c => q (Rat.not_lt.mp c))
theorem sc_count_while : FnScope ["corners", "holds", "low", "high", "middle"] ["corners", "holds"] (defScope s_count_while) := ⟨rfl, rfl, rfl, by decide +kernel, rfl, by decide +kernel, by decide +kernel⟩
set_option maxHeartbeats 4000000 in
theorem ok_count_while (F : Fun K "count_while" "count_while" s_count_while f fd) (z_len : mg "len" = none) : FnOkL P w K mg base 5 4 f fd ["corners", "holds"] sp_count_while := by
  refine fnL F sc_count_while (fun a dom p ss R U h => ?_) (fun cdv A outer s H E a dom p ss R U hr hL h => ?_)
  · obtain ⟨xs, n, rfl, _⟩ := h; rfl
  obtain ⟨xs, n, rfl, hl, hn, hp, q⟩ := h
  refine ⟨_, (ss_cons (s_set (i := 2) sc_count_while.nd rfl (Or.inl rfl) v_int)
      (ss_cons (s_set (i := 3) sc_count_while.nd rfl (Or.inl rfl) (v_callB b_len rfl z_len PySem.boot_len (a_cons (v_var (pv 0)) a_nil)))
      (ss_cons (s_while PassesOwn.never (w_cmp o_lt (v_var (pv 2)) (v_var (pv 3)) (nomark _)) (ss_cons (s_set (i := 4) sc_count_while.nd rfl (Or.inl rfl) (v_op o_fdiv (v_op o_add (v_var (pv 2)) (v_var (pv 3))) v_int))
      (ss_one (s_if (w_val (v_callV hL (hr.mono (by decide)) (pv 1) (v_ix (v_var (pv 0)) (v_var (pv 4)) (fun _ _ => rfl)))) (ss_one (s_set (i := 2) sc_count_while.nd rfl (Or.inl rfl) (v_op o_add (v_var (pv 4)) v_int))) (ss_one (s_set (i := 3) sc_count_while.nd rfl (Or.inl rfl) (v_var (pv 4))))))))
      (ss_one (s_retV (pv 2)))))), ?_⟩
  refine ⟨fun m τ => ∃ (lo hi : Int) (y : Option S), τ = [some (.d (.tup xs)), some (.d (.ref a)), I lo, I hi, y] ∧ 0 ≤ lo ∧ lo ≤ n ∧ (n : Int) ≤ hi ∧ hi ≤ xs.length ∧ m = (hi - lo).toNat, ⟨_, _, _, _, rfl, by decide, by omega, by omega, by omega, rfl⟩, ?_⟩
  rintro m τ ⟨lo, hi, y, rfl, h1, h2, h3, h4, rfl⟩
  refine iteD (fun c => ?_) (fun c => ?_)
  · have d1 : lo ≤ (lo + hi).fdiv 2 ∧ (lo + hi).fdiv 2 < hi := by
      rw [Int.fdiv_eq_ediv_of_nonneg _ (by decide)]
      exact cw_mid c
    refine ⟨⟨nz2, noPy2 (by decide)⟩, ?_⟩
    generalize (lo + hi).fdiv 2 = mid at d1
    have m0 : 0 ≤ mid := Int.le_trans h1 d1.1
    have em : mid = ((mid.toNat : Nat) : Int) := (Int.toNat_of_nonneg m0).symm
    have ml : mid.toNat < xs.length := cw_m h1 d1.1 d1.2 h4
    have hx : xs[mid.toNat]? = some xs[mid.toNat] := List.getElem?_eq_getElem ml
    have b : atI xs mid = some xs[mid.toNat] := by
      have := atI_nat ml
      rw [← em] at this
      rw [this]
      exact hx
    obtain ⟨dm, ep⟩ := hp _ _ hx
    refine ⟨rfl, ?_⟩
    refine atR b ?_
    refine ⟨dm, ?_⟩
    rw [ep]
    refine iteD (fun e => ?_) (fun e => ?_)
    · exact ⟨(hi - (mid + 1)).toNat, by omega, _, _, _, rfl, Int.add_nonneg m0 (by decide), by omega, h3, h4, rfl⟩
    · exact ⟨(mid - lo).toNat, cw_r d1.2 d1.1, _, _, _, rfl, h1, h2, by omega, by omega, rfl⟩
  · have e : lo = n := by omega
    subst e
    exact q
theorem sc_piece_at : FnScope ["f", "t"] ["f", "t"] (defScope s_piece_at) := ⟨rfl, rfl, rfl, by decide +kernel, rfl, by decide +kernel, by decide +kernel⟩
set_option maxHeartbeats 4000000 in
theorem ok_piece_at (F : Fun K "piece_at" "piece_at" s_piece_at f fd) {cA cT : Addr} (ht_ : PySem.W.tabIn K "piece_at" = some (cA, cT)) (hn_ : PySem.W.nsIn K mainGlobals "piece_at" = some (some (.ref f))) (hp_ : (PyProof.Rows.recsOf P).any (fun d => d.name == "piece_at") = true) (C_check_time : Cal P w K mg base (CXU P w) 2 "check_time" ["t"] sp_check_time) (C_count_while : CalL P w K mg base 5 4 "count_while" ["corners", "holds"] sp_count_while) (C_under : Cal P w K mg base (CXU P w) 1 "under" ["one", "other"] sp_under) : FnOk P w K mg base (CXU P w) 6 f fd ["f", "t"] (liftSp K mg sp_piece_at) := by
  refine fnUT ht_ hn_ F sc_piece_at (fun ss R U h => ?_) (fun cdv A outer s H E ss R U ec hr h xo => ?_)
  · unfold sp_piece_at at h; obtain ⟨cs, m, t, n, rfl, _⟩ := h; rfl
  subst ec
  obtain ⟨cs, m, t, n, rfl, c0, hl, t0, up, hn, hz, ht, q, qu⟩ := h
  refine ⟨_, (ss_cons (s_expr (v_callU xo C_check_time (hr.mono (by decide)) rfl (a_cons (v_var (pv 1)) a_nil)))
      (ss_one (s_ret (v_op o_sub (v_callL (x := "corner") C_count_while (hr.mono (by decide)) rfl ht_ hp_ rfl (CompOk.mk' (defScope s_piece_at) ["f", "t"] rfl rfl (by decide +kernel) (N := ["corner", "t"]) (idx := [1])) (v_ix (v_var (pv 0)) v_int (fun _ _ => rfl)) (fun cl nm a cdv A outer s H hr => (v_not (v_callU exok_no C_under (hr.mono (by decide)) rfl (a_cons (v_var (pv 1)) (a_cons (v_ix (v_var (pv 0)) v_int (fun _ _ => rfl)) a_nil)))))) v_int)))), ?_⟩
  refine ⟨t, n, rfl, hn, ht, fun c' => ?_, fun c => qu c⟩
  have h0 : tt cs 0 ≤ t := by rw [t0]; exact c'
  refine ⟨fun x => ∃ k, k < cs.length ∧ x = .tup [qd (tt cs k), qd (vv cs k)], fun x => !decide (t < tOf x), ?_, ?_⟩
  · rintro x ⟨k, hk, rfl⟩
    refine ⟨t, tt cs k, _, _, rfl, ht, (hz k hk).1, by omega, ?_⟩
    show S.d (.bl (!decide (t < tt cs k))) = .d (.bl (!decide (t < tOf (.tup [qd (tt cs k), qd (vv cs k)]))))
    rw [tOf_eq]
  intro a
  refine ⟨_, plc cs t cs.length + 1, rfl, by rw [List.length_map]; exact hl, by rw [List.length_map]; exact plc_lt c0 _ (Nat.le_refl _), fun i x hx => ?_, ?_⟩
  · obtain ⟨hi, rfl⟩ := item_cs hx
    refine ⟨⟨i, hi, rfl⟩, ?_⟩
    show (!decide (t < tOf (.tup [qd (tt cs i), qd (vv cs i)]))) = _
    rw [tOf_eq]
    exact plc_iff up h0 hi
  show R (.d (.int (((plc cs t cs.length + 1 : Nat) : Int) - 1)))
  rw [show (((plc cs t cs.length + 1 : Nat) : Int) - 1) = ((plc cs t cs.length : Nat) : Int) by omega]
  exact q c'
theorem sc_slope_of_piece : FnScope ["f", "number", "corners"] ["f", "number"] (defScope s_slope_of_piece) := ⟨rfl, rfl, rfl, by decide +kernel, rfl, by decide +kernel, by decide +kernel⟩
set_option maxHeartbeats 4000000 in
theorem ok_slope_of_piece (F : Fun K "slope_of_piece" "slope_of_piece" s_slope_of_piece f fd) (C_slope_between : Cal P w K mg base (CXU P w) 4 "slope_between" ["one", "other"] sp_slope_between) (z_len : mg "len" = none) : FnOk P w K mg base CX0 5 f fd ["f", "number"] (liftSp K mg sp_slope_of_piece) := by
  refine fn3 F sc_slope_of_piece (fun ss R U h => ?_) (fun cdv A outer s H E ss R U hr h => ?_)
  · unfold sp_slope_of_piece at h; obtain ⟨cs, m, k, n, rfl, _⟩ := h; rfl
  obtain ⟨cs, m, k, n, rfl, hk, hl, up, hn, hz, q⟩ := h
  refine ⟨_, (ss_cons (s_set (i := 2) sc_slope_of_piece.nd rfl (Or.inl rfl) (v_ix (v_var (pv 0)) v_int (fun _ _ => rfl)))
      (ss_cons (s_if (w_cmp o_eq (v_var (pv 1)) (v_op o_sub (v_callB b_len rfl z_len PySem.boot_len (a_cons (v_var (pv 2)) a_nil)) v_int) (nomark _)) (ss_one (s_ret (v_ix (v_var (pv 0)) v_int (fun _ _ => rfl)))) ss_nil)
      (ss_one (s_ret (v_callU exok_no C_slope_between (hr.mono (by decide)) rfl (a_cons (v_ix (v_var (pv 2)) (v_var (pv 1)) (fun _ _ => rfl)) (a_cons (v_ix (v_var (pv 2)) (v_op o_add (v_var (pv 1)) v_int) (fun _ _ => rfl)) a_nil))))))), ?_⟩
  refine iteD (fun c => ?_) (fun c => ?_)
  · rw [List.length_map] at c
    rw [slp_out (by omega)] at q
    exact q
  rw [List.length_map] at c
  have k1 : k + 1 < cs.length := by omega
  refine atR (at_cs hk) ?_
  refine atR (at_cs' (cs := cs) (k + 1) (by omega) k1) ?_
  refine ⟨_, _, _, _, n, rfl, hn, (hz k hk).1, (hz k hk).2, (hz _ k1).1, (hz _ k1).2, sub_ne (up k k1), ?_⟩
  rw [slp_in k1] at q
  exact q
theorem sc_value_at : FnScope ["f", "t", "number", "corner"] ["f", "t"] (defScope s_value_at) := ⟨rfl, rfl, rfl, by decide +kernel, rfl, by decide +kernel, by decide +kernel⟩
set_option maxHeartbeats 4000000 in
theorem ok_value_at (F : Fun K "value_at" "value_at" s_value_at f fd) (C_piece_at : Cal P w K mg base (CXU P w) 6 "piece_at" ["f", "t"] sp_piece_at) (C_plus : Cal P w K mg base (CXU P w) 3 "plus" ["one", "other"] sp_plus) (C_times : Cal P w K mg base (CXU P w) 3 "times" ["one", "other"] sp_times) (C_slope_of_piece : Cal P w K mg base (CXU P w) 5 "slope_of_piece" ["f", "number"] sp_slope_of_piece) (C_minus : Cal P w K mg base (CXU P w) 3 "minus" ["one", "other"] sp_minus) : FnOk P w K mg base (CXU P w) 7 f fd ["f", "t"] (liftSp K mg sp_value_at) := by
  refine fnU F sc_value_at (fun ss R U h => ?_) (fun cdv A outer s H E ss R U hr h xo => ?_)
  · unfold sp_value_at at h; obtain ⟨cs, m, t, n, rfl, _⟩ := h; rfl
  obtain ⟨cs, m, t, n, rfl, c0, t0, up, hn, hz, ht, q, qu⟩ := h
  refine ⟨_, (ss_cons (s_set (i := 2) sc_value_at.nd rfl (Or.inl rfl) (v_callU xo C_piece_at (hr.mono (by decide)) rfl (a_cons (v_var (pv 0)) (a_cons (v_var (pv 1)) a_nil))))
      (ss_cons (s_set (i := 3) sc_value_at.nd rfl (Or.inl rfl) (v_ix (v_ix (v_var (pv 0)) v_int (fun _ _ => rfl)) (v_var (pv 2)) (fun _ _ => rfl)))
      (ss_cons (s_if (w_cmp (o_eqT 1 (hu_ hr (by decide))) (v_ix (v_var (pv 3)) v_int (fun _ _ => rfl)) (v_var (pv 1)) (nomark _)) (ss_one (s_ret (v_ix (v_var (pv 3)) v_int (fun _ _ => rfl)))) ss_nil)
      (ss_one (s_ret (v_callU xo C_plus (hr.mono (by decide)) rfl (a_cons (v_ix (v_var (pv 3)) v_int (fun _ _ => rfl)) (a_cons (v_callU xo C_times (hr.mono (by decide)) rfl (a_cons (v_callU xo C_slope_of_piece (hr.mono (by decide)) rfl (a_cons (v_var (pv 0)) (a_cons (v_var (pv 2)) a_nil))) (a_cons (v_callU xo C_minus (hr.mono (by decide)) rfl (a_cons (v_var (pv 1)) (a_cons (v_ix (v_var (pv 3)) v_int (fun _ _ => rfl)) a_nil))) a_nil))) a_nil)))))))), ?_⟩
  refine ⟨cs, m, t, n, rfl, c0, hz.len, t0, up, by omega, hz.cs, ht, fun h => ?_, fun h => qu h⟩
  have q' : R (.d (qd (vv cs (plc cs t cs.length) + slp cs m (plc cs t cs.length) * (t - tt cs (plc cs t cs.length))))) := q h
  have hk : plc cs t cs.length < cs.length := plc_lt c0 _ (Nat.le_refl _)
  generalize plc cs t cs.length = k at q' hk
  have zk := hz.cs k hk
  refine atR (at_cs hk) ?_
  refine ⟨rfl, rfl, eqT (tt cs k) t (fun e => ?_) (fun e => ?_)⟩
  · rw [show vv cs k + slp cs m k * (t - tt cs k) = vv cs k by rw [e]; grind] at q'
    exact q'
  refine ⟨cs, m, k, n, rfl, hk, hz.len, up, by omega, hz.cs, ?_⟩
  refine ⟨t, tt cs k, n, n, rfl, ht, zk.1, by omega, ?_⟩
  have zs : Sz (4 * n + 2) (slp cs m k) := slp_sz up hz hk
  refine ⟨_, _, _, _, rfl, zs, ht.sub zk.1, by omega, ?_⟩
  exact ⟨_, _, _, _, rfl, zk.2, zs.mul (ht.sub zk.1), by omega, q'⟩
theorem sc_time_of : FnScope ["point", "slope", "height"] ["point", "slope", "height"] (defScope s_time_of) := ⟨rfl, rfl, rfl, by decide +kernel, rfl, by decide +kernel, by decide +kernel⟩
set_option maxHeartbeats 4000000 in
theorem ok_time_of (F : Fun K "time_of" "time_of" s_time_of f fd) (C_plus : Cal P w K mg base (CXU P w) 3 "plus" ["one", "other"] sp_plus) (C_over : Cal P w K mg base (CXU P w) 3 "over" ["one", "other"] sp_over) (C_minus : Cal P w K mg base (CXU P w) 3 "minus" ["one", "other"] sp_minus) : FnOk P w K mg base CX0 4 f fd ["point", "slope", "height"] (liftSp K mg sp_time_of) := by
  refine fn3 F sc_time_of (fun ss R U h => ?_) (fun cdv A outer s H E ss R U hr h => ?_)
  · unfold sp_time_of at h; obtain ⟨a, b, s, h, n, k, rfl, _⟩ := h; rfl
  obtain ⟨a, b, s, h, n, k, rfl, ha, hb, hh, hs, s0, hl, q⟩ := h
  refine ⟨_, (ss_one (s_ret (v_callU exok_no C_plus (hr.mono (by decide)) rfl (a_cons (v_ix (v_var (pv 0)) v_int (fun _ _ => rfl)) (a_cons (v_callU exok_no C_over (hr.mono (by decide)) rfl (a_cons (v_callU exok_no C_minus (hr.mono (by decide)) rfl (a_cons (v_var (pv 2)) (a_cons (v_ix (v_var (pv 0)) v_int (fun _ _ => rfl)) a_nil))) (a_cons (v_var (pv 1)) a_nil))) a_nil))))), ?_⟩
  refine ⟨h, b, n, n, rfl, hh, hb, by omega, ?_⟩
  refine ⟨h - b, s, _, k, rfl, hh.sub hb, hs, by omega, s0, ?_⟩
  exact ⟨a, _, n, _, rfl, ha, (hh.sub hb).div hs s0, by omega, q⟩
theorem sc_corner_times : FnScope ["f", "g", "others", "told", "place", "corner"] ["f", "g"] (defScope s_corner_times) := ⟨rfl, rfl, rfl, by decide +kernel, rfl, by decide +kernel, by decide +kernel⟩
set_option maxHeartbeats 4000000 in
theorem ok_corner_times (F : Fun K "corner_times" "corner_times" s_corner_times f fd) (C_under : Cal P w K mg base (CXU P w) 1 "under" ["one", "other"] sp_under) (z_len : mg "len" = none) : FnOk P w K mg base CX0 2 f fd ["f", "g"] (liftSp K mg sp_corner_times) := by
  refine fn3 F sc_corner_times (fun ss R U h => ?_) (fun cdv A outer s H E ss R U hr h => ?_)
  · unfold sp_corner_times at h; obtain ⟨cs, m, ds, k, n, rfl, _⟩ := h; rfl
  obtain ⟨cs, m, ds, k, n, rfl, oc, od, lc, ld, hn, zc, zd, q⟩ := h
  refine ⟨_, (ss_cons (s_setC (i := 2) (N := ["corner"]) (idx := []) (CompOk.mk' (defScope s_corner_times) ["f", "g", "others", "told", "place", "corner"] rfl rfl (by decide +kernel)) rfl (pi_seq (PE3.out (v_ix (v_var (pv 1)) v_int (fun _ _ => rfl)))) src_seq (fun cl C s₀ H₀ fp => ifs_nil) (fun cl C s₀ H₀ fp => (v_ix (v_var (pv 0)) v_int (fun _ _ => rfl))) sc_corner_times.nd rfl (Or.inl rfl))
      (ss_cons (s_set (i := 3) sc_corner_times.nd rfl (Or.inl rfl) (v_lst a_nil))
      (ss_cons (s_set (i := 4) sc_corner_times.nd rfl (Or.inl rfl) v_int)
      (ss_cons (s_forE (ps_for PassesOwn.never rfl (pi_seq (PE3.out (v_ix (v_var (pv 0)) v_int (fun _ _ => rfl)))) (pg_name (i := 5) sc_corner_times.nd rfl (Or.inl rfl)) (PSs3.out (ss_cons (s_while PassesOwn.never (PW3.pt (w_and (w_cmp o_lt (v_var (pv 4)) (v_callB b_len rfl z_len PySem.boot_len (a_cons (v_var (pv 2)) a_nil)) (nomark _)) (w_and1 (w_val (v_callU exok_no C_under (hr.mono (by decide)) rfl (a_cons (v_ix (v_var (pv 2)) (v_var (pv 4)) (fun _ _ => rfl)) (a_cons (v_ix (v_var (pv 5)) v_int (fun _ _ => rfl)) a_nil))))))) (ss_cons (s_app (ps_expr (pe_bm PySem.F.plainAttrs_list PySem.F.slot_list_append PySem.F.type_list_append mt_append (pv 3) (pa_cons (PE3.out (v_ix (v_var (pv 2)) (v_var (pv 4)) (fun _ _ => rfl))) pa_nil))))
      (ss_one (s_augA (i := 4) sc_corner_times.nd rfl (Or.inl rfl) v_int))))
      (ss_cut (s_if (PW3.pt (w_and (w_cmp o_lt (v_var (pv 4)) (v_callB b_len rfl z_len PySem.boot_len (a_cons (v_var (pv 2)) a_nil)) (nomark _)) (w_and1 (w_cmp (o_eqT 1 (hu_ hr (by decide))) (v_ix (v_var (pv 2)) (v_var (pv 4)) (fun _ _ => rfl)) (v_ix (v_var (pv 5)) v_int (fun _ _ => rfl)) (nomark _))))) (ss_one (s_augA (i := 4) sc_corner_times.nd rfl (Or.inl rfl) v_int)) ss_nil)
      (ss_one (s_app (ps_expr (pe_bm PySem.F.plainAttrs_list PySem.F.slot_list_append PySem.F.type_list_append mt_append (pv 3) (pa_cons (PE3.out (v_ix (v_var (pv 5)) v_int (fun _ _ => rfl))) pa_nil))))))))))
      (ss_frz 3 (ss_one (s_ret (v_opA o_cat (v_var (pv 3)) (v_sl (v_var (pv 2)) (p_yes (v_var (pv 4))) p_no))))))))), ?_⟩
  refine ⟨ds.map fun c => some (qd c.1), by rw [List.length_map, List.length_map], ?_, ?_, ?_⟩
  · intro i x hx
    obtain ⟨c, hc, rfl⟩ := map_item hx
    show (ds.map _)[i]? = _
    rw [List.getElem?_map, hc]
    rfl
  · rw [List.length_map]; omega
  have e0 : (ds.map fun c => some (qd c.1)).filterMap id = (rst ds 0).map qd := by
    rw [fill_some ds (fun c => qd c.1)]
    unfold rst
    rw [List.drop_zero, List.map_map]
    rfl
  rw [e0]
  refine ⟨(by show 0 ≤ 1000; decide), ?_⟩
  refine ⟨fun n' τ => ∃ (p : Nat) (ts : List Rat) (y0 y1 y5 : Option S), τ = [some (.d (crv cs m)), some (.d (crv ds k)), some (.l ((rst ds 0).map qd)), some (.l (ts.map qd)), I p, y5] ∧ Mrg cs ds n' p ts ∧ p ≤ ds.length ∧ (n' < cs.length → ∀ x ∈ ts, x < tt cs n'), ⟨0, [], none, none, none, rfl, Mrg.nil cs ds, Nat.zero_le _, fun _ x hx => by cases hx⟩, ?_, ?_⟩
  · rintro n' τ x hx ⟨p, ts, y0, y1, y5, rfl, g, hp, hlt⟩
    obtain ⟨hi, rfl⟩ := item_cs hx
    have zi := (zc n' hi).1
    refine ⟨fun mm τ => ∃ (p : Nat) (ts : List Rat), τ = [some (.d (crv cs m)), some (.d (crv ds k)), some (.l ((rst ds 0).map qd)), some (.l (ts.map qd)), I p, some (.d (.tup [qd (tt cs n'), qd (vv cs n')]))] ∧ Mrg cs ds n' p ts ∧ p ≤ ds.length ∧ (n' < cs.length → ∀ x ∈ ts, x < tt cs n') ∧ mm = ds.length - p, ⟨_, p, ts, rfl, g, hp, hlt, rfl⟩, ?_⟩
    clear g hp hlt
    rintro mm τ ⟨p, ts, rfl, g, hp, hlt, rfl⟩
    refine iteD (fun c => ?_) (fun c => ?_)
    · have pl : p < ds.length := by rw [List.length_map, rest_len] at c; omega
      refine atR (at_rest p rfl pl) ?_
      refine ⟨_, _, _, _, rfl, (zd p pl).1, zi, by omega, ?_⟩
      refine iteD (fun c2 => ?_) (fun c2 => ?_)
      · refine atR (at_rest p rfl pl) ?_
        obtain ⟨g2, h2⟩ := g.other od.up pl (hlt hi) c2
        refine ⟨by rw [List.length_map]; have := g.len; omega, ds.length - (p + 1), by omega, p + 1, ts ++ [tt ds p], by rw [List.map_append]; rfl, g2, pl, fun _ => h2, rfl⟩
      · have NL : p < ds.length → tt cs n' ≤ tt ds p := fun _ => Rat.not_lt.mp c2
        refine ⟨fun τ => ∃ (q : Nat) (y0 y1 y5 : Option S), τ = [some (.d (crv cs m)), some (.d (crv ds k)), some (.l ((rst ds 0).map qd)), some (.l (ts.map qd)), I q, some (.d (.tup [qd (tt cs n'), qd (vv cs n')]))] ∧ (q = p ∨ (q = p + 1 ∧ p < ds.length ∧ tt ds p = tt cs n')) ∧ q ≤ ds.length ∧ ∀ j, q ≤ j → j < ds.length → tt cs n' < tt ds j, ?_, ?_⟩
        · refine iteD (fun c' => ?_) (fun c' => ?_)
          · have pl : p < ds.length := by rw [List.length_map, rest_len] at c'; omega
            refine atR (at_rest p rfl pl) ?_
            refine ⟨rfl, rfl, eqT (tt ds p) (tt cs n') (fun e => ?_) (fun e => ?_)⟩
            · exact ⟨p + 1, none, none, none, rfl, .inr ⟨rfl, pl, e⟩, pl, fun j j1 j2 => by rw [← e]; exact up_lt' od.up (by omega) j2⟩
            · refine ⟨p, none, none, none, rfl, .inl rfl, by omega, fun j j1 j2 => ?_⟩
              have lt : tt cs n' < tt ds p := Rat.lt_of_le_of_ne (NL pl) (fun z => e z.symm)
              by_cases z : j = p
              · rw [z]; exact lt
              · have := up_lt' od.up (i := p) (j := j) (by omega) j2
                grind
          · have pl : ¬ p < ds.length := by rw [List.length_map, rest_len] at c'; omega
            exact ⟨p, none, none, none, rfl, .inl rfl, hp, fun j j1 j2 => by omega⟩
        rintro τ ⟨q', y0, y1, y5, rfl, hq, hq2, hb⟩
        have g2 := g.one hq (hlt hi) hb
        refine ⟨by rw [List.length_map]; have := g.len; omega, q', ts ++ [tt cs n'], none, none, _, by rw [List.map_append]; rfl, g2, hq2, fun c' x hx => ?_⟩
        rcases List.mem_append.mp hx with hx | hx
        · have := hlt hi x hx
          have := oc.up n' c'
          grind
        · rw [List.mem_singleton.mp hx]; exact oc.up n' c'
    · have NL : p < ds.length → tt cs n' ≤ tt ds p := fun z => absurd z (by rw [List.length_map, rest_len] at c; omega)
      refine ⟨fun τ => ∃ (q : Nat) (y0 y1 y5 : Option S), τ = [some (.d (crv cs m)), some (.d (crv ds k)), some (.l ((rst ds 0).map qd)), some (.l (ts.map qd)), I q, some (.d (.tup [qd (tt cs n'), qd (vv cs n')]))] ∧ (q = p ∨ (q = p + 1 ∧ p < ds.length ∧ tt ds p = tt cs n')) ∧ q ≤ ds.length ∧ ∀ j, q ≤ j → j < ds.length → tt cs n' < tt ds j, ?_, ?_⟩
      · refine iteD (fun c' => ?_) (fun c' => ?_)
        · have pl : p < ds.length := by rw [List.length_map, rest_len] at c'; omega
          refine atR (at_rest p rfl pl) ?_
          refine ⟨rfl, rfl, eqT (tt ds p) (tt cs n') (fun e => ?_) (fun e => ?_)⟩
          · exact ⟨p + 1, none, none, none, rfl, .inr ⟨rfl, pl, e⟩, pl, fun j j1 j2 => by rw [← e]; exact up_lt' od.up (by omega) j2⟩
          · refine ⟨p, none, none, none, rfl, .inl rfl, by omega, fun j j1 j2 => ?_⟩
            have lt : tt cs n' < tt ds p := Rat.lt_of_le_of_ne (NL pl) (fun z => e z.symm)
            by_cases z : j = p
            · rw [z]; exact lt
            · have := up_lt' od.up (i := p) (j := j) (by omega) j2
              grind
        · have pl : ¬ p < ds.length := by rw [List.length_map, rest_len] at c'; omega
          exact ⟨p, none, none, none, rfl, .inl rfl, hp, fun j j1 j2 => by omega⟩
      rintro τ ⟨q', y0, y1, y5, rfl, hq, hq2, hb⟩
      have g2 := g.one hq (hlt hi) hb
      refine ⟨by rw [List.length_map]; have := g.len; omega, q', ts ++ [tt cs n'], none, none, _, by rw [List.map_append]; rfl, g2, hq2, fun c' x hx => ?_⟩
      rcases List.mem_append.mp hx with hx | hx
      · have := hlt hi x hx
        have := oc.up n' c'
        grind
      · rw [List.mem_singleton.mp hx]; exact oc.up n' c'
  rintro τ ⟨p, ts, y0, y1, y5, rfl, g, hp, hlt⟩
  rw [List.length_map] at g
  have gl := g.len
  have lr := rest_len ds p
  have rr : cutD ((rst ds 0).map qd) (some (p : Int)) none = (rst ds p).map qd := cut_rest hp
  show oCat (.lst (ts.map qd)) (.lst (cutD ((rst ds 0).map qd) (some (p : Int)) none)) (fun d => R (.d d))
  rw [rr]
  refine ⟨by rw [List.length_map, List.length_map]; omega, ?_⟩
  rw [← List.map_append]
  exact q _ (tms_of oc od g hp) (by rw [List.length_append]; omega)
theorem sc_corner_rows : FnScope ["f", "g"] ["f", "g"] (defScope s_corner_rows) := ⟨rfl, rfl, rfl, by decide +kernel, rfl, by decide +kernel, by decide +kernel⟩
set_option maxHeartbeats 4000000 in
theorem ok_corner_rows (F : Fun K "corner_rows" "corner_rows" s_corner_rows f fd) (C_value_at : Cal P w K mg base (CXU P w) 7 "value_at" ["f", "t"] sp_value_at) (C_corner_times : Cal P w K mg base (CXU P w) 2 "corner_times" ["f", "g"] sp_corner_times) : FnOk P w K mg base CX0 8 f fd ["f", "g"] (liftSp K mg sp_corner_rows) := by
  refine fn3 F sc_corner_rows (fun ss R U h => ?_) (fun cdv A outer s H E ss R U hr h => ?_)
  · unfold sp_corner_rows at h; obtain ⟨cs, m, ds, k, n, rfl, _⟩ := h; rfl
  obtain ⟨cs, m, ds, k, n, rfl, oc, od, lc, ld, hn, zc, zd, q⟩ := h
  refine ⟨_, (ss_one (s_ret (v_comp (N := ["t", "f", "g"]) (idx := [0, 1]) (CompOk.mk' (defScope s_corner_rows) ["f", "g"] rfl rfl (by decide +kernel)) rfl (pi_seq (PE3.out (v_callU exok_no C_corner_times (hr.mono (by decide)) rfl (a_cons (v_var (pv 0)) (a_cons (v_var (pv 1)) a_nil))))) src_seq (fun cl C s₀ H₀ fp => ifs_nil) (fun cl C s₀ H₀ fp => (v_tup (a_cons (v_var (pv 0)) (a_cons (v_callU exok_no C_value_at (hr.mono (by decide)) rfl (a_cons (v_var (pv 1)) (a_cons (v_var (pv 0)) a_nil))) (a_cons (v_callU exok_no C_value_at (hr.mono (by decide)) rfl (a_cons (v_var (pv 2)) (a_cons (v_var (pv 0)) a_nil))) a_nil)))))))), ?_⟩
  refine ⟨cs, m, ds, k, n, rfl, oc, od, lc, ld, by omega, zc.cs, zd.cs, fun ts ht hl => ?_⟩
  refine ⟨ts.map fun t => some (rw3 cs m ds k t), by rw [List.length_map, List.length_map], ?_, ?_, ?_⟩
  · intro i x hx
    obtain ⟨t, et, rfl⟩ := map_item hx
    obtain ⟨hi, eT⟩ := T_item et
    have zt := ht.sz zc.cs zd.cs hi
    have t0 := T_nn ht hi
    rw [eT] at zt t0
    refine ⟨cs, m, t, n, rfl, oc.ne, oc.t0, oc.up, hn, zc, zt, fun _ => ?_, fun z => absurd t0 z⟩
    refine ⟨ds, k, t, n, rfl, od.ne, od.t0, od.up, hn, zd, zt, fun _ => ?_, fun z => absurd t0 z⟩
    refine ⟨(by show 3 ≤ 1000; decide), ?_⟩
    show (ts.map _)[i]? = _
    rw [List.getElem?_map, et]
    rfl
  · rw [List.length_map]; omega
  rw [fill_some ts (rw3 cs m ds k)]
  exact q ts ht hl
theorem sc_summed : FnScope ["f", "g", "corners"] ["f", "g"] (defScope s_summed) := ⟨rfl, rfl, rfl, by decide +kernel, rfl, by decide +kernel, by decide +kernel⟩
set_option maxHeartbeats 4000000 in
theorem ok_summed (F : Fun K "summed" "summed" s_summed f fd) (C_curve : Cal P w K mg base (CXU P w) 6 "curve" ["corners", "last"] sp_curve) (C_plus : Cal P w K mg base (CXU P w) 3 "plus" ["one", "other"] sp_plus) (C_corner_rows : Cal P w K mg base (CXU P w) 8 "corner_rows" ["f", "g"] sp_corner_rows) : FnOk P w K mg base CX0 9 f fd ["f", "g"] (liftSp K mg sp_summed) := by
  refine fn3 F sc_summed (fun ss R U h => ?_) (fun cdv A outer s H E ss R U hr h => ?_)
  · unfold sp_summed at h; obtain ⟨cs, m, ds, k, a, b, c, rfl, _⟩ := h; rfl
  obtain ⟨cs, m, ds, k, a, b, c, rfl, r, s, z1, z2, hl, n1, hs, q⟩ := h
  refine ⟨_, (ss_cons (s_setC (i := 2) (N := ["row"]) (idx := []) (CompOk.mk' (defScope s_summed) ["f", "g", "corners"] rfl rfl (by decide +kernel)) rfl (pi_seq (PE3.out (v_callU exok_no C_corner_rows (hr.mono (by decide)) rfl (a_cons (v_var (pv 0)) (a_cons (v_var (pv 1)) a_nil))))) src_seq (fun cl C s₀ H₀ fp => ifs_nil) (fun cl C s₀ H₀ fp => (v_tup (a_cons (v_ix (v_var (pv 0)) v_int (fun _ _ => rfl)) (a_cons (v_callU exok_no C_plus (hr.mono (by decide)) rfl (a_cons (v_ix (v_var (pv 0)) v_int (fun _ _ => rfl)) (a_cons (v_ix (v_var (pv 0)) v_int (fun _ _ => rfl)) a_nil))) a_nil)))) sc_summed.nd rfl (Or.inl rfl))
      (ss_one (s_ret (v_callU exok_no C_curve (hr.mono (by decide)) rfl (a_cons (v_var (pv 2)) (a_cons (v_callU exok_no C_plus (hr.mono (by decide)) rfl (a_cons (v_ix (v_var (pv 0)) v_int (fun _ _ => rfl)) (a_cons (v_ix (v_var (pv 1)) v_int (fun _ _ => rfl)) a_nil))) a_nil)))))), ?_⟩
  have kc : SzK 1800 cs m := z1.szk r.o (by omega) (by omega)
  have kd : SzK 1800 ds k := z2.szk s.o (by omega) (by omega)
  refine ⟨cs, m, ds, k, 1800, rfl, r.o, s.o, by omega, by omega, by decide, kc, kd, fun ts ht hts => ?_⟩
  have tz : ∀ i, i < ts.length → Sz a (T ts i) := fun i hi => by
    rcases ht.of i hi with ⟨j, hj, e⟩ | ⟨j, hj, e⟩
    · rw [e]; exact z1.tm j hj
    · rw [e]; exact z2.tm j hj
  refine ⟨ts.map fun t => some (.tup [qd t, qd (val cs m t + val ds k t)]), by rw [List.length_map, List.length_map], ?_, ?_, ?_⟩
  · intro i x hx
    obtain ⟨t, et, rfl⟩ := map_item hx
    obtain ⟨hi, eT⟩ := T_item et
    have t0 := T_nn ht hi
    have z := tz i hi
    rw [eT] at t0 z
    refine ⟨val cs m t, val ds k t, _, _, rfl, z1.va t0 z, z2.va t0 z, by omega, (by show 2 ≤ 1000; decide), ?_⟩
    show (ts.map _)[i]? = _
    rw [List.getElem?_map, et]
    rfl
  · rw [List.length_map]; omega
  rw [fill_some ts (fun t => .tup [qd t, qd (val cs m t + val ds k t)])]
  have e : ts.map (fun t => (.tup [qd t, qd (val cs m t + val ds k t)] : D)) = (scs cs m ds k ts).map cd := by
    unfold scs
    rw [List.map_map]
    rfl
  rw [e]
  have O := scs_ord r s ht
  have m0 : 0 ≤ m + k := by have := r.m0; have := s.m0; grind
  have sl := scs_len (cs := cs) (m := m) (ds := ds) (k := k) (ts := ts)
  have hC := kept_crv O m0
  have vC : ∀ t, 0 ≤ t → val (kp (scs cs m ds k ts) (m + k) ((scs cs m ds k ts).length - 1)) (m + k) t = val cs m t + val ds k t := fun t t0 => by rw [(val_kp O t).1, scs_val r s ht t0]
  have zC := hs _ _ hC vC
  refine ⟨m, k, _, _, rfl, z1.m r.o, z2.m s.o, by omega, ?_⟩
  refine ⟨_, scs cs m ds k ts, m + k, rfl, Or.inl rfl, ⟨by omega, fun i hi => ?_, (zC.m (crv_rise hC).o).mono (by omega)⟩, fun _ => ?_, fun z => absurd ⟨O, m0⟩ z⟩
  · rw [sl] at hi
    rw [(scs_at hi).1, (scs_at hi).2, ← vC _ (T_nn ht hi)]
    exact ⟨(tz i hi).mono (by omega), (zC.va (T_nn ht hi) (tz i hi)).mono (by omega)⟩
  have kl := kp_len (scs cs m ds k ts) (m + k) ((scs cs m ds k ts).length - 1)
  have n0 := O.ne
  exact q _ _ hC (by omega) vC
theorem sc_total : FnScope ["curves", "half"] ["curves"] (defScope s_total) := ⟨rfl, rfl, rfl, by decide +kernel, rfl, by decide +kernel, by decide +kernel⟩
theorem ok_total__b (F : Fun K "total" "total" s_total f fd) : FnOk P w K mg base CX0 10 f fd ["curves"] (liftSp K mg sp_total__b) := by
  exact fn3 F sc_total (fun ss R U h => h.1) (fun cdv A outer s H E ss R U hr h => h.2.elim)
set_option maxHeartbeats 4000000 in
theorem ok_total__0 (F : Fun K "total" "total" s_total f fd) (C_summed : Cal P w K mg base (CXU P w) 9 "summed" ["f", "g"] sp_summed) (C_heap : Cal P w K mg base (CXU P w) 7 "heap" ["value", "slope"] sp_heap) (C_total : Cal P w K mg base (CXU P w) 10 "total" ["curves"] sp_total__b) (z_len : mg "len" = none) (gc_NOUGHT : GC K mg "NOUGHT" (.tup [(.int 0), (.int 1)])) : FnOk P w K mg base CX0 11 f fd ["curves"] (liftSp K mg sp_total__0) := by
  refine fn3 F sc_total (fun ss R U h => ?_) (fun cdv A outer s H E ss R U hr h => ?_)
  · unfold sp_total__0 at h; obtain ⟨x, fs, a, b, c, rfl, _⟩ := h; rfl
  obtain ⟨x, fs, a, b, c, rfl, hx, hl, nb, hf, hi, q⟩ := h
  refine ⟨_, (ss_cons (s_if (w_cmp o_eq (v_callB b_len rfl z_len PySem.boot_len (a_cons (v_var (pv 0)) a_nil)) v_int (nomark _)) (ss_one (s_ret (v_callU exok_no C_heap (hr.mono (by decide)) rfl (a_cons (v_gc rfl gc_NOUGHT) (a_cons (v_gc rfl gc_NOUGHT) a_nil))))) ss_nil)
      (ss_cons (s_if (w_cmp o_eq (v_callB b_len rfl z_len PySem.boot_len (a_cons (v_var (pv 0)) a_nil)) v_int (nomark _)) (ss_one (s_ret (v_ix (v_var (pv 0)) v_int (fun _ _ => rfl)))) ss_nil)
      (ss_cons (s_set (i := 1) sc_total.nd rfl (Or.inl rfl) (v_op o_fdiv (v_callB b_len rfl z_len PySem.boot_len (a_cons (v_var (pv 0)) a_nil)) v_int))
      (ss_one (s_ret (v_callU exok_no C_summed (hr.mono (by decide)) rfl (a_cons (v_callU exok_no C_total (hr.mono (by decide)) rfl (a_cons (v_sl (v_var (pv 0)) p_no (p_yes (v_var (pv 1)))) a_nil)) (a_cons (v_callU exok_no C_total (hr.mono (by decide)) rfl (a_cons (v_sl (v_var (pv 0)) (p_yes (v_var (pv 1))) p_no) a_nil)) a_nil)))))))), ?_⟩
  have n0 : fs.length = 0 → fs = [] := fun e => List.eq_nil_of_length_eq_zero e
  rcases hx with rfl | rfl
  all_goals
    refine iteD (fun c' => ?_) (fun c' => ?_)
    · rw [List.length_map] at c'
      have := n0 (by omega)
      subst this
      refine ⟨0, 0, rfl, Sz.zero.mono (by decide), Sz.zero.mono (by decide), fun _ => ?_, fun z => absurd ⟨Rat.le_refl, Rat.le_refl⟩ z⟩
      exact q _ _ nought_crv (fun t t0 => nought_val t0)
    rw [List.length_map] at c'
    refine iteD (fun c2 => ?_) (fun c2 => ?_)
    · rw [List.length_map] at c2
      obtain ⟨f, rfl⟩ : ∃ f, fs = [f] := by
        match fs, c2 with
        | [f], _ => exact ⟨f, rfl⟩
        | [], h => exact absurd h (by decide)
        | _ :: _ :: _, h => exact absurd h (by simp; omega)
      exact q f.1 f.2 (hf f (List.mem_singleton.mpr rfl)) (fun t t0 => by rw [sm_cons, sm_nil]; grind)
    rw [List.length_map] at c2
    exact absurd hl (by omega)
set_option maxHeartbeats 4000000 in
theorem ok_total__1 (F : Fun K "total" "total" s_total f fd) (C_summed : Cal P w K mg base (CXU P w) 9 "summed" ["f", "g"] sp_summed) (C_heap : Cal P w K mg base (CXU P w) 7 "heap" ["value", "slope"] sp_heap) (C_total : Cal P w K mg base (CXU P w) 11 "total" ["curves"] sp_total__0) (z_len : mg "len" = none) (gc_NOUGHT : GC K mg "NOUGHT" (.tup [(.int 0), (.int 1)])) : FnOk P w K mg base CX0 12 f fd ["curves"] (liftSp K mg sp_total__1) := by
  refine fn3 F sc_total (fun ss R U h => ?_) (fun cdv A outer s H E ss R U hr h => ?_)
  · unfold sp_total__1 at h; obtain ⟨x, fs, a, b, c, rfl, _⟩ := h; rfl
  obtain ⟨x, fs, a, b, c, rfl, hx, hl, nb, hf, hi, q⟩ := h
  refine ⟨_, (ss_cons (s_if (w_cmp o_eq (v_callB b_len rfl z_len PySem.boot_len (a_cons (v_var (pv 0)) a_nil)) v_int (nomark _)) (ss_one (s_ret (v_callU exok_no C_heap (hr.mono (by decide)) rfl (a_cons (v_gc rfl gc_NOUGHT) (a_cons (v_gc rfl gc_NOUGHT) a_nil))))) ss_nil)
      (ss_cons (s_if (w_cmp o_eq (v_callB b_len rfl z_len PySem.boot_len (a_cons (v_var (pv 0)) a_nil)) v_int (nomark _)) (ss_one (s_ret (v_ix (v_var (pv 0)) v_int (fun _ _ => rfl)))) ss_nil)
      (ss_cons (s_set (i := 1) sc_total.nd rfl (Or.inl rfl) (v_op o_fdiv (v_callB b_len rfl z_len PySem.boot_len (a_cons (v_var (pv 0)) a_nil)) v_int))
      (ss_one (s_ret (v_callU exok_no C_summed (hr.mono (by decide)) rfl (a_cons (v_callU exok_no C_total (hr.mono (by decide)) rfl (a_cons (v_sl (v_var (pv 0)) p_no (p_yes (v_var (pv 1)))) a_nil)) (a_cons (v_callU exok_no C_total (hr.mono (by decide)) rfl (a_cons (v_sl (v_var (pv 0)) (p_yes (v_var (pv 1))) p_no) a_nil)) a_nil)))))))), ?_⟩
  have n0 : fs.length = 0 → fs = [] := fun e => List.eq_nil_of_length_eq_zero e
  rcases hx with rfl | rfl
  all_goals
    refine iteD (fun c' => ?_) (fun c' => ?_)
    · rw [List.length_map] at c'
      have := n0 (by omega)
      subst this
      refine ⟨0, 0, rfl, Sz.zero.mono (by decide), Sz.zero.mono (by decide), fun _ => ?_, fun z => absurd ⟨Rat.le_refl, Rat.le_refl⟩ z⟩
      exact q _ _ nought_crv (fun t t0 => nought_val t0)
    rw [List.length_map] at c'
    refine iteD (fun c2 => ?_) (fun c2 => ?_)
    · rw [List.length_map] at c2
      obtain ⟨f, rfl⟩ : ∃ f, fs = [f] := by
        match fs, c2 with
        | [f], _ => exact ⟨f, rfl⟩
        | [], h => exact absurd h (by decide)
        | _ :: _ :: _, h => exact absurd h (by simp; omega)
      exact q f.1 f.2 (hf f (List.mem_singleton.mpr rfl)) (fun t t0 => by rw [sm_cons, sm_nil]; grind)
    rw [List.length_map] at c2
    have l2 : 2 ≤ fs.length := by omega
    generalize eh : fs.length / 2 = h
    have h1 : 1 ≤ h ∧ h + 1 ≤ fs.length ∧ h ≤ 1 ∧ fs.length - h ≤ 1 := by omega
    have ei : (((fs.map cD).length : Nat) : Int).fdiv 2 = (h : Int) := by rw [List.length_map, Int.fdiv_eq_ediv_of_nonneg _ (by decide)]; omega
    have e1 : cutD (fs.map cD) none (some ((((fs.map cD).length : Nat) : Int).fdiv 2)) = (fs.take h).map cD := by rw [ei]; exact cut_l (by omega)
    have e2 : cutD (fs.map cD) (some ((((fs.map cD).length : Nat) : Int).fdiv 2)) none = (fs.drop h).map cD := by rw [ei]; exact cut_r (by omega)
    have t1 : (fs.take h).length = h := by rw [List.length_take]; omega
    have t2 : (fs.drop h).length = fs.length - h := List.length_drop
    have i1 : fs.take h <:+: fs := (List.take_prefix h fs).isInfix
    have i2 : fs.drop h <:+: fs := (List.drop_suffix h fs).isInfix
    refine ⟨⟨by decide, noPy2 (by decide)⟩, ?_⟩
    refine ⟨_, fs.take h, a, b, c, congrArg (fun z => [S.d (.lst z)]) e1, Or.inr rfl, by omega, nb, fun f m => hf f (List.mem_of_mem_take m), fun l il => hi l (il.trans i1), fun C1 M1 k1 v1 => ?_⟩
    refine ⟨_, fs.drop h, a, b, c, congrArg (fun z => [S.d (.lst z)]) e2, Or.inr rfl, by omega, nb, fun f m => hf f (List.mem_of_mem_drop m), fun l il => hi l (il.trans i2), fun C2 M2 k2 v2 => ?_⟩
    obtain ⟨z1, n1⟩ := hi _ i1 C1 M1 k1 v1
    obtain ⟨z2, n2⟩ := hi _ i2 C2 M2 k2 v2
    have vv : ∀ t, 0 ≤ t → val C1 M1 t + val C2 M2 t = sm fs t := fun t t0 => by rw [v1 t t0, v2 t t0, ← sm_append, List.take_append_drop]
    refine ⟨C1, M1, C2, M2, a, b, c, rfl, crv_rise k1, crv_rise k2, z1, z2, by omega, nb, fun C M hC hv => (hi fs (List.infix_refl fs) C M hC (fun t t0 => by rw [hv t t0, vv t t0])).1, fun C M hC hlen hv => ?_⟩
    exact q C M hC (fun t t0 => by rw [hv t t0, vv t t0])
set_option maxHeartbeats 4000000 in
theorem ok_total__2 (F : Fun K "total" "total" s_total f fd) (C_summed : Cal P w K mg base (CXU P w) 9 "summed" ["f", "g"] sp_summed) (C_heap : Cal P w K mg base (CXU P w) 7 "heap" ["value", "slope"] sp_heap) (C_total : Cal P w K mg base (CXU P w) 12 "total" ["curves"] sp_total__1) (z_len : mg "len" = none) (gc_NOUGHT : GC K mg "NOUGHT" (.tup [(.int 0), (.int 1)])) : FnOk P w K mg base CX0 13 f fd ["curves"] (liftSp K mg sp_total__2) := by
  refine fn3 F sc_total (fun ss R U h => ?_) (fun cdv A outer s H E ss R U hr h => ?_)
  · unfold sp_total__2 at h; obtain ⟨x, fs, a, b, c, rfl, _⟩ := h; rfl
  obtain ⟨x, fs, a, b, c, rfl, hx, hl, nb, hf, hi, q⟩ := h
  refine ⟨_, (ss_cons (s_if (w_cmp o_eq (v_callB b_len rfl z_len PySem.boot_len (a_cons (v_var (pv 0)) a_nil)) v_int (nomark _)) (ss_one (s_ret (v_callU exok_no C_heap (hr.mono (by decide)) rfl (a_cons (v_gc rfl gc_NOUGHT) (a_cons (v_gc rfl gc_NOUGHT) a_nil))))) ss_nil)
      (ss_cons (s_if (w_cmp o_eq (v_callB b_len rfl z_len PySem.boot_len (a_cons (v_var (pv 0)) a_nil)) v_int (nomark _)) (ss_one (s_ret (v_ix (v_var (pv 0)) v_int (fun _ _ => rfl)))) ss_nil)
      (ss_cons (s_set (i := 1) sc_total.nd rfl (Or.inl rfl) (v_op o_fdiv (v_callB b_len rfl z_len PySem.boot_len (a_cons (v_var (pv 0)) a_nil)) v_int))
      (ss_one (s_ret (v_callU exok_no C_summed (hr.mono (by decide)) rfl (a_cons (v_callU exok_no C_total (hr.mono (by decide)) rfl (a_cons (v_sl (v_var (pv 0)) p_no (p_yes (v_var (pv 1)))) a_nil)) (a_cons (v_callU exok_no C_total (hr.mono (by decide)) rfl (a_cons (v_sl (v_var (pv 0)) (p_yes (v_var (pv 1))) p_no) a_nil)) a_nil)))))))), ?_⟩
  have n0 : fs.length = 0 → fs = [] := fun e => List.eq_nil_of_length_eq_zero e
  rcases hx with rfl | rfl
  all_goals
    refine iteD (fun c' => ?_) (fun c' => ?_)
    · rw [List.length_map] at c'
      have := n0 (by omega)
      subst this
      refine ⟨0, 0, rfl, Sz.zero.mono (by decide), Sz.zero.mono (by decide), fun _ => ?_, fun z => absurd ⟨Rat.le_refl, Rat.le_refl⟩ z⟩
      exact q _ _ nought_crv (fun t t0 => nought_val t0)
    rw [List.length_map] at c'
    refine iteD (fun c2 => ?_) (fun c2 => ?_)
    · rw [List.length_map] at c2
      obtain ⟨f, rfl⟩ : ∃ f, fs = [f] := by
        match fs, c2 with
        | [f], _ => exact ⟨f, rfl⟩
        | [], h => exact absurd h (by decide)
        | _ :: _ :: _, h => exact absurd h (by simp; omega)
      exact q f.1 f.2 (hf f (List.mem_singleton.mpr rfl)) (fun t t0 => by rw [sm_cons, sm_nil]; grind)
    rw [List.length_map] at c2
    have l2 : 2 ≤ fs.length := by omega
    generalize eh : fs.length / 2 = h
    have h1 : 1 ≤ h ∧ h + 1 ≤ fs.length ∧ h ≤ 2 ∧ fs.length - h ≤ 2 := by omega
    have ei : (((fs.map cD).length : Nat) : Int).fdiv 2 = (h : Int) := by rw [List.length_map, Int.fdiv_eq_ediv_of_nonneg _ (by decide)]; omega
    have e1 : cutD (fs.map cD) none (some ((((fs.map cD).length : Nat) : Int).fdiv 2)) = (fs.take h).map cD := by rw [ei]; exact cut_l (by omega)
    have e2 : cutD (fs.map cD) (some ((((fs.map cD).length : Nat) : Int).fdiv 2)) none = (fs.drop h).map cD := by rw [ei]; exact cut_r (by omega)
    have t1 : (fs.take h).length = h := by rw [List.length_take]; omega
    have t2 : (fs.drop h).length = fs.length - h := List.length_drop
    have i1 : fs.take h <:+: fs := (List.take_prefix h fs).isInfix
    have i2 : fs.drop h <:+: fs := (List.drop_suffix h fs).isInfix
    refine ⟨⟨by decide, noPy2 (by decide)⟩, ?_⟩
    refine ⟨_, fs.take h, a, b, c, congrArg (fun z => [S.d (.lst z)]) e1, Or.inr rfl, by omega, nb, fun f m => hf f (List.mem_of_mem_take m), fun l il => hi l (il.trans i1), fun C1 M1 k1 v1 => ?_⟩
    refine ⟨_, fs.drop h, a, b, c, congrArg (fun z => [S.d (.lst z)]) e2, Or.inr rfl, by omega, nb, fun f m => hf f (List.mem_of_mem_drop m), fun l il => hi l (il.trans i2), fun C2 M2 k2 v2 => ?_⟩
    obtain ⟨z1, n1⟩ := hi _ i1 C1 M1 k1 v1
    obtain ⟨z2, n2⟩ := hi _ i2 C2 M2 k2 v2
    have vv : ∀ t, 0 ≤ t → val C1 M1 t + val C2 M2 t = sm fs t := fun t t0 => by rw [v1 t t0, v2 t t0, ← sm_append, List.take_append_drop]
    refine ⟨C1, M1, C2, M2, a, b, c, rfl, crv_rise k1, crv_rise k2, z1, z2, by omega, nb, fun C M hC hv => (hi fs (List.infix_refl fs) C M hC (fun t t0 => by rw [hv t t0, vv t t0])).1, fun C M hC hlen hv => ?_⟩
    exact q C M hC (fun t t0 => by rw [hv t t0, vv t t0])
set_option maxHeartbeats 4000000 in
theorem ok_total__3 (F : Fun K "total" "total" s_total f fd) (C_summed : Cal P w K mg base (CXU P w) 9 "summed" ["f", "g"] sp_summed) (C_heap : Cal P w K mg base (CXU P w) 7 "heap" ["value", "slope"] sp_heap) (C_total : Cal P w K mg base (CXU P w) 13 "total" ["curves"] sp_total__2) (z_len : mg "len" = none) (gc_NOUGHT : GC K mg "NOUGHT" (.tup [(.int 0), (.int 1)])) : FnOk P w K mg base CX0 14 f fd ["curves"] (liftSp K mg sp_total__3) := by
  refine fn3 F sc_total (fun ss R U h => ?_) (fun cdv A outer s H E ss R U hr h => ?_)
  · unfold sp_total__3 at h; obtain ⟨x, fs, a, b, c, rfl, _⟩ := h; rfl
  obtain ⟨x, fs, a, b, c, rfl, hx, hl, nb, hf, hi, q⟩ := h
  refine ⟨_, (ss_cons (s_if (w_cmp o_eq (v_callB b_len rfl z_len PySem.boot_len (a_cons (v_var (pv 0)) a_nil)) v_int (nomark _)) (ss_one (s_ret (v_callU exok_no C_heap (hr.mono (by decide)) rfl (a_cons (v_gc rfl gc_NOUGHT) (a_cons (v_gc rfl gc_NOUGHT) a_nil))))) ss_nil)
      (ss_cons (s_if (w_cmp o_eq (v_callB b_len rfl z_len PySem.boot_len (a_cons (v_var (pv 0)) a_nil)) v_int (nomark _)) (ss_one (s_ret (v_ix (v_var (pv 0)) v_int (fun _ _ => rfl)))) ss_nil)
      (ss_cons (s_set (i := 1) sc_total.nd rfl (Or.inl rfl) (v_op o_fdiv (v_callB b_len rfl z_len PySem.boot_len (a_cons (v_var (pv 0)) a_nil)) v_int))
      (ss_one (s_ret (v_callU exok_no C_summed (hr.mono (by decide)) rfl (a_cons (v_callU exok_no C_total (hr.mono (by decide)) rfl (a_cons (v_sl (v_var (pv 0)) p_no (p_yes (v_var (pv 1)))) a_nil)) (a_cons (v_callU exok_no C_total (hr.mono (by decide)) rfl (a_cons (v_sl (v_var (pv 0)) (p_yes (v_var (pv 1))) p_no) a_nil)) a_nil)))))))), ?_⟩
  have n0 : fs.length = 0 → fs = [] := fun e => List.eq_nil_of_length_eq_zero e
  rcases hx with rfl | rfl
  all_goals
    refine iteD (fun c' => ?_) (fun c' => ?_)
    · rw [List.length_map] at c'
      have := n0 (by omega)
      subst this
      refine ⟨0, 0, rfl, Sz.zero.mono (by decide), Sz.zero.mono (by decide), fun _ => ?_, fun z => absurd ⟨Rat.le_refl, Rat.le_refl⟩ z⟩
      exact q _ _ nought_crv (fun t t0 => nought_val t0)
    rw [List.length_map] at c'
    refine iteD (fun c2 => ?_) (fun c2 => ?_)
    · rw [List.length_map] at c2
      obtain ⟨f, rfl⟩ : ∃ f, fs = [f] := by
        match fs, c2 with
        | [f], _ => exact ⟨f, rfl⟩
        | [], h => exact absurd h (by decide)
        | _ :: _ :: _, h => exact absurd h (by simp; omega)
      exact q f.1 f.2 (hf f (List.mem_singleton.mpr rfl)) (fun t t0 => by rw [sm_cons, sm_nil]; grind)
    rw [List.length_map] at c2
    have l2 : 2 ≤ fs.length := by omega
    generalize eh : fs.length / 2 = h
    have h1 : 1 ≤ h ∧ h + 1 ≤ fs.length ∧ h ≤ 4 ∧ fs.length - h ≤ 4 := by omega
    have ei : (((fs.map cD).length : Nat) : Int).fdiv 2 = (h : Int) := by rw [List.length_map, Int.fdiv_eq_ediv_of_nonneg _ (by decide)]; omega
    have e1 : cutD (fs.map cD) none (some ((((fs.map cD).length : Nat) : Int).fdiv 2)) = (fs.take h).map cD := by rw [ei]; exact cut_l (by omega)
    have e2 : cutD (fs.map cD) (some ((((fs.map cD).length : Nat) : Int).fdiv 2)) none = (fs.drop h).map cD := by rw [ei]; exact cut_r (by omega)
    have t1 : (fs.take h).length = h := by rw [List.length_take]; omega
    have t2 : (fs.drop h).length = fs.length - h := List.length_drop
    have i1 : fs.take h <:+: fs := (List.take_prefix h fs).isInfix
    have i2 : fs.drop h <:+: fs := (List.drop_suffix h fs).isInfix
    refine ⟨⟨by decide, noPy2 (by decide)⟩, ?_⟩
    refine ⟨_, fs.take h, a, b, c, congrArg (fun z => [S.d (.lst z)]) e1, Or.inr rfl, by omega, nb, fun f m => hf f (List.mem_of_mem_take m), fun l il => hi l (il.trans i1), fun C1 M1 k1 v1 => ?_⟩
    refine ⟨_, fs.drop h, a, b, c, congrArg (fun z => [S.d (.lst z)]) e2, Or.inr rfl, by omega, nb, fun f m => hf f (List.mem_of_mem_drop m), fun l il => hi l (il.trans i2), fun C2 M2 k2 v2 => ?_⟩
    obtain ⟨z1, n1⟩ := hi _ i1 C1 M1 k1 v1
    obtain ⟨z2, n2⟩ := hi _ i2 C2 M2 k2 v2
    have vv : ∀ t, 0 ≤ t → val C1 M1 t + val C2 M2 t = sm fs t := fun t t0 => by rw [v1 t t0, v2 t t0, ← sm_append, List.take_append_drop]
    refine ⟨C1, M1, C2, M2, a, b, c, rfl, crv_rise k1, crv_rise k2, z1, z2, by omega, nb, fun C M hC hv => (hi fs (List.infix_refl fs) C M hC (fun t t0 => by rw [hv t t0, vv t t0])).1, fun C M hC hlen hv => ?_⟩
    exact q C M hC (fun t t0 => by rw [hv t t0, vv t t0])
set_option maxHeartbeats 4000000 in
theorem ok_total__4 (F : Fun K "total" "total" s_total f fd) (C_summed : Cal P w K mg base (CXU P w) 9 "summed" ["f", "g"] sp_summed) (C_heap : Cal P w K mg base (CXU P w) 7 "heap" ["value", "slope"] sp_heap) (C_total : Cal P w K mg base (CXU P w) 14 "total" ["curves"] sp_total__3) (z_len : mg "len" = none) (gc_NOUGHT : GC K mg "NOUGHT" (.tup [(.int 0), (.int 1)])) : FnOk P w K mg base CX0 15 f fd ["curves"] (liftSp K mg sp_total__4) := by
  refine fn3 F sc_total (fun ss R U h => ?_) (fun cdv A outer s H E ss R U hr h => ?_)
  · unfold sp_total__4 at h; obtain ⟨x, fs, a, b, c, rfl, _⟩ := h; rfl
  obtain ⟨x, fs, a, b, c, rfl, hx, hl, nb, hf, hi, q⟩ := h
  refine ⟨_, (ss_cons (s_if (w_cmp o_eq (v_callB b_len rfl z_len PySem.boot_len (a_cons (v_var (pv 0)) a_nil)) v_int (nomark _)) (ss_one (s_ret (v_callU exok_no C_heap (hr.mono (by decide)) rfl (a_cons (v_gc rfl gc_NOUGHT) (a_cons (v_gc rfl gc_NOUGHT) a_nil))))) ss_nil)
      (ss_cons (s_if (w_cmp o_eq (v_callB b_len rfl z_len PySem.boot_len (a_cons (v_var (pv 0)) a_nil)) v_int (nomark _)) (ss_one (s_ret (v_ix (v_var (pv 0)) v_int (fun _ _ => rfl)))) ss_nil)
      (ss_cons (s_set (i := 1) sc_total.nd rfl (Or.inl rfl) (v_op o_fdiv (v_callB b_len rfl z_len PySem.boot_len (a_cons (v_var (pv 0)) a_nil)) v_int))
      (ss_one (s_ret (v_callU exok_no C_summed (hr.mono (by decide)) rfl (a_cons (v_callU exok_no C_total (hr.mono (by decide)) rfl (a_cons (v_sl (v_var (pv 0)) p_no (p_yes (v_var (pv 1)))) a_nil)) (a_cons (v_callU exok_no C_total (hr.mono (by decide)) rfl (a_cons (v_sl (v_var (pv 0)) (p_yes (v_var (pv 1))) p_no) a_nil)) a_nil)))))))), ?_⟩
  have n0 : fs.length = 0 → fs = [] := fun e => List.eq_nil_of_length_eq_zero e
  rcases hx with rfl | rfl
  all_goals
    refine iteD (fun c' => ?_) (fun c' => ?_)
    · rw [List.length_map] at c'
      have := n0 (by omega)
      subst this
      refine ⟨0, 0, rfl, Sz.zero.mono (by decide), Sz.zero.mono (by decide), fun _ => ?_, fun z => absurd ⟨Rat.le_refl, Rat.le_refl⟩ z⟩
      exact q _ _ nought_crv (fun t t0 => nought_val t0)
    rw [List.length_map] at c'
    refine iteD (fun c2 => ?_) (fun c2 => ?_)
    · rw [List.length_map] at c2
      obtain ⟨f, rfl⟩ : ∃ f, fs = [f] := by
        match fs, c2 with
        | [f], _ => exact ⟨f, rfl⟩
        | [], h => exact absurd h (by decide)
        | _ :: _ :: _, h => exact absurd h (by simp; omega)
      exact q f.1 f.2 (hf f (List.mem_singleton.mpr rfl)) (fun t t0 => by rw [sm_cons, sm_nil]; grind)
    rw [List.length_map] at c2
    have l2 : 2 ≤ fs.length := by omega
    generalize eh : fs.length / 2 = h
    have h1 : 1 ≤ h ∧ h + 1 ≤ fs.length ∧ h ≤ 8 ∧ fs.length - h ≤ 8 := by omega
    have ei : (((fs.map cD).length : Nat) : Int).fdiv 2 = (h : Int) := by rw [List.length_map, Int.fdiv_eq_ediv_of_nonneg _ (by decide)]; omega
    have e1 : cutD (fs.map cD) none (some ((((fs.map cD).length : Nat) : Int).fdiv 2)) = (fs.take h).map cD := by rw [ei]; exact cut_l (by omega)
    have e2 : cutD (fs.map cD) (some ((((fs.map cD).length : Nat) : Int).fdiv 2)) none = (fs.drop h).map cD := by rw [ei]; exact cut_r (by omega)
    have t1 : (fs.take h).length = h := by rw [List.length_take]; omega
    have t2 : (fs.drop h).length = fs.length - h := List.length_drop
    have i1 : fs.take h <:+: fs := (List.take_prefix h fs).isInfix
    have i2 : fs.drop h <:+: fs := (List.drop_suffix h fs).isInfix
    refine ⟨⟨by decide, noPy2 (by decide)⟩, ?_⟩
    refine ⟨_, fs.take h, a, b, c, congrArg (fun z => [S.d (.lst z)]) e1, Or.inr rfl, by omega, nb, fun f m => hf f (List.mem_of_mem_take m), fun l il => hi l (il.trans i1), fun C1 M1 k1 v1 => ?_⟩
    refine ⟨_, fs.drop h, a, b, c, congrArg (fun z => [S.d (.lst z)]) e2, Or.inr rfl, by omega, nb, fun f m => hf f (List.mem_of_mem_drop m), fun l il => hi l (il.trans i2), fun C2 M2 k2 v2 => ?_⟩
    obtain ⟨z1, n1⟩ := hi _ i1 C1 M1 k1 v1
    obtain ⟨z2, n2⟩ := hi _ i2 C2 M2 k2 v2
    have vv : ∀ t, 0 ≤ t → val C1 M1 t + val C2 M2 t = sm fs t := fun t t0 => by rw [v1 t t0, v2 t t0, ← sm_append, List.take_append_drop]
    refine ⟨C1, M1, C2, M2, a, b, c, rfl, crv_rise k1, crv_rise k2, z1, z2, by omega, nb, fun C M hC hv => (hi fs (List.infix_refl fs) C M hC (fun t t0 => by rw [hv t t0, vv t t0])).1, fun C M hC hlen hv => ?_⟩
    exact q C M hC (fun t t0 => by rw [hv t t0, vv t t0])
theorem sc_gap_points : FnScope ["rows"] ["rows"] (defScope s_gap_points) := ⟨rfl, rfl, rfl, by decide +kernel, rfl, by decide +kernel, by decide +kernel⟩
set_option maxHeartbeats 4000000 in
theorem ok_gap_points (F : Fun K "gap_points" "gap_points" s_gap_points f fd) (C_minus : Cal P w K mg base (CXU P w) 3 "minus" ["one", "other"] sp_minus) : FnOk P w K mg base CX0 4 f fd ["rows"] (liftSp K mg sp_gap_points) := by
  refine fn3 F sc_gap_points (fun ss R U h => ?_) (fun cdv A outer s H E ss R U hr h => ?_)
  · unfold sp_gap_points at h; obtain ⟨x, cs, m, ds, k, ts, v, rfl, _⟩ := h; rfl
  obtain ⟨x, cs, m, ds, k, ts, v, rfl, hx, hl, hv, hz, q⟩ := h
  refine ⟨_, (ss_one (s_ret (v_comp (N := ["row"]) (idx := []) (CompOk.mk' (defScope s_gap_points) ["rows"] rfl rfl (by decide +kernel)) rfl (pi_seq (PE3.out (v_var (pv 0)))) src_seq (fun cl C s₀ H₀ fp => ifs_nil) (fun cl C s₀ H₀ fp => (v_tup (a_cons (v_ix (v_var (pv 0)) v_int (fun _ _ => rfl)) (a_cons (v_callU exok_no C_minus (hr.mono (by decide)) rfl (a_cons (v_ix (v_var (pv 0)) v_int (fun _ _ => rfl)) (a_cons (v_ix (v_var (pv 0)) v_int (fun _ _ => rfl)) a_nil))) a_nil))))))), ?_⟩
  rcases hx with rfl | rfl
  all_goals
    refine ⟨ts.map fun t => some (.tup [qd t, qd (gap cs m ds k t)]), by rw [List.length_map, List.length_map], ?_, ?_, ?_⟩
    · intro i x hx
      obtain ⟨t, et, rfl⟩ := map_item hx
      obtain ⟨hi, eT⟩ := T_item et
      have z := hz i hi
      rw [eT] at z
      refine ⟨_, _, _, _, rfl, z.1, z.2, by omega, ?_⟩
      refine ⟨(by show 2 ≤ 1000; decide), ?_⟩
      show (ts.map _)[i]? = _
      rw [List.getElem?_map, et]
      rfl
    · rw [List.length_map]; omega
    rw [fill_some ts (fun t => .tup [qd t, qd (gap cs m ds k t)])]
    have e : (gcs cs m ds k ts).map cd = ts.map (fun t => .tup [qd t, qd (gap cs m ds k t)]) := by
      unfold gcs
      rw [List.map_map]
      rfl
    rw [e] at q
    exact q
theorem sc_less : FnScope ["f", "g"] ["f", "g"] (defScope s_less) := ⟨rfl, rfl, rfl, by decide +kernel, rfl, by decide +kernel, by decide +kernel⟩
set_option maxHeartbeats 4000000 in
theorem ok_less (F : Fun K "less" "less" s_less f fd) (C_curve : Cal P w K mg base (CXU P w) 6 "curve" ["corners", "last"] sp_curve) (C_gap_points : Cal P w K mg base (CXU P w) 4 "gap_points" ["rows"] sp_gap_points) (C_minus : Cal P w K mg base (CXU P w) 3 "minus" ["one", "other"] sp_minus) (C_corner_rows : Cal P w K mg base (CXU P w) 8 "corner_rows" ["f", "g"] sp_corner_rows) : FnOk P w K mg base CX0 9 f fd ["f", "g"] (liftSp K mg sp_less) := by
  refine fn3 F sc_less (fun ss R U h => ?_) (fun cdv A outer s H E ss R U hr h => ?_)
  · unfold sp_less at h; obtain ⟨cs, m, ds, k, a, b, c, a2, b2, c2, A, rfl, _⟩ := h; rfl
  obtain ⟨cs, m, ds, k, a, b, c, a2, b2, c2, A, rfl, r1, r2, z1, z2, hA, hA2, hl0, n1, n2, n3, inc, g0, q⟩ := h
  refine ⟨_, (ss_one (s_ret (v_callU exok_no C_curve (hr.mono (by decide)) rfl (a_cons (v_callU exok_no C_gap_points (hr.mono (by decide)) rfl (a_cons (v_callU exok_no C_corner_rows (hr.mono (by decide)) rfl (a_cons (v_var (pv 0)) (a_cons (v_var (pv 1)) a_nil))) a_nil)) (a_cons (v_callU exok_no C_minus (hr.mono (by decide)) rfl (a_cons (v_ix (v_var (pv 0)) v_int (fun _ _ => rfl)) (a_cons (v_ix (v_var (pv 1)) v_int (fun _ _ => rfl)) a_nil))) a_nil))))), ?_⟩
  have oc := r1.o
  have od := r2.o
  have kc : SzK 1800 cs m := z1.szk oc (by omega) (by omega)
  have kd : SzK 1800 ds k := z2.szk od (by omega) (by omega)
  refine ⟨cs, m, ds, k, 1800, rfl, oc, od, by omega, by omega, by decide, kc, kd, fun ts ht hl => ?_⟩
  have tz : ∀ i, i < ts.length → Sz A (T ts i) := fun i hi => by
    rcases ht.of i hi with ⟨j, hj, e⟩ | ⟨j, hj, e⟩
    · rw [e]; exact (z1.tm j hj).mono hA
    · rw [e]; exact (z2.tm j hj).mono hA2
  have vz : ∀ i, i < ts.length → Sz 1800 (val cs m (T ts i)) ∧ Sz 1800 (val ds k (T ts i)) := fun i hi => ⟨(z1.va (T_nn ht hi) (tz i hi)).mono (by omega), (z2.va (T_nn ht hi) (tz i hi)).mono (by omega)⟩
  refine ⟨_, cs, m, ds, k, ts, 1800, rfl, Or.inr rfl, by omega, by decide, vz, ?_⟩
  have gl := gcs_len (cs := cs) (m := m) (ds := ds) (k := k) (ts := ts)
  have O := gcs_ord oc od ht inc g0
  have m0 := gcs_last oc od ht inc
  have LL := gcs_ls oc od ht O z1 z2 hA hA2
  have gC : SzC 2000 (gcs cs m ds k ts) := fun i hi => by
    rw [gl] at hi
    rw [(gcs_at hi).1, (gcs_at hi).2]
    exact ⟨(tz i hi).mono (by omega), (gap_ls z1 z2 (T_nn ht hi) (tz i hi)).mono (by omega)⟩
  refine ⟨m, k, _, _, rfl, z1.m oc, z2.m od, by omega, ?_⟩
  refine ⟨_, gcs cs m ds k ts, m - k, rfl, Or.inr rfl, ⟨by omega, gC, (LL.m O).mono (by omega)⟩, fun _ => ?_, fun no => absurd ⟨O, m0⟩ no⟩
  have kl := kp_len (gcs cs m ds k ts) (m - k) ((gcs cs m ds k ts).length - 1)
  have n0 := O.ne
  exact q _ _ (kept_crv O m0) m0 (fun t t0 => by rw [(val_kp O t).1, gcs_val oc od ht O t0]) rfl (LL.kept O) (by omega)
theorem sc_comes_above : FnScope ["gaps", "number", "last", "best"] ["gaps", "number", "last", "best"] (defScope s_comes_above) := ⟨rfl, rfl, rfl, by decide +kernel, rfl, by decide +kernel, by decide +kernel⟩
set_option maxHeartbeats 4000000 in
theorem ok_comes_above (F : Fun K "comes_above" "comes_above" s_comes_above f fd) (C_under : Cal P w K mg base (CXU P w) 1 "under" ["one", "other"] sp_under) (z_len : mg "len" = none) (gc_NOUGHT : GC K mg "NOUGHT" (.tup [(.int 0), (.int 1)])) : FnOk P w K mg base CX0 2 f fd ["gaps", "number", "last", "best"] (liftSp K mg sp_comes_above) := by
  refine fn3 F sc_comes_above (fun ss R U h => ?_) (fun cdv A outer s H E ss R U hr h => ?_)
  · unfold sp_comes_above at h; obtain ⟨gs, i, l, B, rfl, _⟩ := h; rfl
  obtain ⟨gs, i, l, B, rfl, hi, zl, zB, zg, q⟩ := h
  refine ⟨_, (ss_cons (s_if (w_cmp o_eq (v_var (pv 1)) (v_op o_sub (v_callB b_len rfl z_len PySem.boot_len (a_cons (v_var (pv 0)) a_nil)) v_int) (nomark _)) (ss_one (s_ret (v_callU exok_no C_under (hr.mono (by decide)) rfl (a_cons (v_gc rfl gc_NOUGHT) (a_cons (v_var (pv 2)) a_nil))))) ss_nil)
      (ss_one (s_ret (v_callU exok_no C_under (hr.mono (by decide)) rfl (a_cons (v_var (pv 3)) (a_cons (v_ix (v_ix (v_var (pv 0)) (v_op o_add (v_var (pv 1)) v_int) (fun _ _ => rfl)) v_int (fun _ _ => rfl)) a_nil)))))), ?_⟩
  refine iteD (fun c => ?_) (fun c => ?_)
  · rw [List.length_map] at c
    rw [if_neg (by omega)] at q
    exact ⟨0, l, _, _, rfl, Sz.zero, zl, by decide, q⟩
  · rw [List.length_map] at c
    have i1 : i + 1 < gs.length := by omega
    rw [if_pos i1] at q
    refine atR (at_cs' (cs := gs) (i + 1) (by omega) i1) ?_
    exact ⟨B, _, _, _, rfl, zB, (zg _ i1).2, by decide, q⟩
theorem sc_left : FnScope ["f", "g", "gaps", "last", "slopes", "corners", "best", "number", "gap"] ["f", "g"] (defScope s_left) := ⟨rfl, rfl, rfl, by decide +kernel, rfl, by decide +kernel, by decide +kernel⟩
set_option maxHeartbeats 4000000 in
theorem ok_left (F : Fun K "left" "left" s_left f fd) (C_gap_points : Cal P w K mg base (CXU P w) 4 "gap_points" ["rows"] sp_gap_points) (C_minus : Cal P w K mg base (CXU P w) 3 "minus" ["one", "other"] sp_minus) (C_slopes_behind : Cal P w K mg base (CXU P w) 5 "slopes_behind" ["points", "last"] sp_slopes_behind) (C_curve : Cal P w K mg base (CXU P w) 6 "curve" ["corners", "last"] sp_curve) (C_corner_rows : Cal P w K mg base (CXU P w) 8 "corner_rows" ["f", "g"] sp_corner_rows) (C_greater : Cal P w K mg base (CXU P w) 2 "greater" ["one", "other"] sp_greater) (C_under : Cal P w K mg base (CXU P w) 1 "under" ["one", "other"] sp_under) (C_comes_above : Cal P w K mg base (CXU P w) 2 "comes_above" ["gaps", "number", "last", "best"] sp_comes_above) (C_time_of : Cal P w K mg base (CXU P w) 4 "time_of" ["point", "slope", "height"] sp_time_of) (z_enumerate : mg "enumerate" = none) (gc_NOUGHT : GC K mg "NOUGHT" (.tup [(.int 0), (.int 1)])) : FnOk P w K mg base CX0 9 f fd ["f", "g"] (liftSp K mg sp_left) := by
  refine fn3 F sc_left (fun ss R U h => ?_) (fun cdv A outer s H E ss R U hr h => ?_)
  · unfold sp_left at h; obtain ⟨cs, m, ds, k, a, b, c, a2, b2, c2, A, rfl, _⟩ := h; rfl
  obtain ⟨cs, m, ds, k, a, b, c, a2, b2, c2, A, rfl, r1, r2, z1, z2, hA, hA2, hl0, n1, n2, n3, q⟩ := h
  refine ⟨_, (ss_cons (s_set (i := 2) sc_left.nd rfl (Or.inl rfl) (v_callU exok_no C_gap_points (hr.mono (by decide)) rfl (a_cons (v_callU exok_no C_corner_rows (hr.mono (by decide)) rfl (a_cons (v_var (pv 0)) (a_cons (v_var (pv 1)) a_nil))) a_nil)))
      (ss_cons (s_set (i := 3) sc_left.nd rfl (Or.inl rfl) (v_callU exok_no C_minus (hr.mono (by decide)) rfl (a_cons (v_ix (v_var (pv 0)) v_int (fun _ _ => rfl)) (a_cons (v_ix (v_var (pv 1)) v_int (fun _ _ => rfl)) a_nil))))
      (ss_cons (s_set (i := 4) sc_left.nd rfl (Or.inl rfl) (v_callU exok_no C_slopes_behind (hr.mono (by decide)) rfl (a_cons (v_var (pv 2)) (a_cons (v_var (pv 3)) a_nil))))
      (ss_cons (s_set (i := 5) sc_left.nd rfl (Or.inl rfl) (v_lst a_nil))
      (ss_cons (s_set (i := 6) sc_left.nd rfl (Or.inl rfl) (v_gc rfl gc_NOUGHT))
      (ss_cons (s_forU (ps_for PassesOwn.never rfl (pi_enum rfl z_enumerate (pv 2)) (pg_tup rfl (pgs_cons (pg_name (i := 7) sc_left.nd rfl (Or.inl rfl)) (pgs_cons (pg_name (i := 8) sc_left.nd rfl (Or.inl rfl)) pgs_nil))) (PSs3.out (ss_cons (s_set (i := 6) sc_left.nd rfl (Or.inl rfl) (v_callU exok_no C_greater (hr.mono (by decide)) rfl (a_cons (v_var (pv 6)) (a_cons (v_ix (v_var (pv 8)) v_int (fun _ _ => rfl)) a_nil))))
      (ss_cons (s_app (ps_expr (pe_bm PySem.F.plainAttrs_list PySem.F.slot_list_append PySem.F.type_list_append mt_append (pv 5) (pa_cons (PE3.out (v_tup (a_cons (v_ix (v_var (pv 8)) v_int (fun _ _ => rfl)) (a_cons (v_var (pv 6)) a_nil)))) pa_nil))))
      (ss_one (s_if (PW3.pt (w_and (w_val (v_callU exok_no C_under (hr.mono (by decide)) rfl (a_cons (v_ix (v_var (pv 8)) v_int (fun _ _ => rfl)) (a_cons (v_var (pv 6)) a_nil)))) (w_and1 (w_val (v_callU exok_no C_comes_above (hr.mono (by decide)) rfl (a_cons (v_var (pv 2)) (a_cons (v_var (pv 7)) (a_cons (v_var (pv 3)) (a_cons (v_var (pv 6)) a_nil))))))))) (ss_one (s_app (ps_expr (pe_bm PySem.F.plainAttrs_list PySem.F.slot_list_append PySem.F.type_list_append mt_append (pv 5) (pa_cons (PE3.out (v_tup (a_cons (v_callU exok_no C_time_of (hr.mono (by decide)) rfl (a_cons (v_var (pv 8)) (a_cons (v_ix (v_var (pv 4)) (v_var (pv 7)) (fun _ _ => rfl)) (a_cons (v_var (pv 6)) a_nil)))) (a_cons (v_var (pv 6)) a_nil)))) pa_nil))))) ss_nil)))))))
      (ss_one (s_ret (v_callU exok_no C_curve (hr.mono (by decide)) rfl (a_cons (v_var (pv 5)) (a_cons (v_callU exok_no C_greater (hr.mono (by decide)) rfl (a_cons (v_gc rfl gc_NOUGHT) (a_cons (v_var (pv 3)) a_nil))) a_nil))))))))))), ?_⟩
  have oc := r1.o
  have od := r2.o
  have kc : SzK 1800 cs m := z1.szk oc (by omega) (by omega)
  have kd : SzK 1800 ds k := z2.szk od (by omega) (by omega)
  refine ⟨cs, m, ds, k, 1800, rfl, oc, od, by omega, by omega, by decide, kc, kd, fun ts ht hl => ?_⟩
  have tz : ∀ i, i < ts.length → Sz A (T ts i) := fun i hi => by
    rcases ht.of i hi with ⟨j, hj, e⟩ | ⟨j, hj, e⟩
    · rw [e]; exact (z1.tm j hj).mono hA
    · rw [e]; exact (z2.tm j hj).mono hA2
  have vz : ∀ i, i < ts.length → Sz 1800 (val cs m (T ts i)) ∧ Sz 1800 (val ds k (T ts i)) := fun i hi => ⟨(z1.va (T_nn ht hi) (tz i hi)).mono (by omega), (z2.va (T_nn ht hi) (tz i hi)).mono (by omega)⟩
  obtain ⟨g, hg⟩ : ∃ g, g = b + b2 + c + c2 + A + 3 := ⟨_, rfl⟩
  obtain ⟨X, hX⟩ : ∃ X, X = 2 * (b + b2 + c + c2) + A + 6 := ⟨_, rfl⟩
  rw [← hg, ← hX] at q
  have gX : g ≤ X := by omega
  have X2 : X ≤ 2000 := by omega
  have AX : A ≤ X := by omega
  have gz : ∀ i, i < ts.length → Sz g (gap cs m ds k (T ts i)) := fun i hi => by rw [hg]; exact gap_ls z1 z2 (T_nn ht hi) (tz i hi)
  refine ⟨_, cs, m, ds, k, ts, 1800, rfl, Or.inr rfl, by omega, by decide, vz, ?_⟩
  have gl := gcs_len (cs := cs) (m := m) (ds := ds) (k := k) (ts := ts)
  have gC : SzC 2000 (gcs cs m ds k ts) := fun i hi => by
    rw [gl] at hi
    rw [(gcs_at hi).1, (gcs_at hi).2]
    exact ⟨(tz i hi).mono (by omega), (gz i hi).mono (by omega)⟩
  have gU : Up (gcs cs m ds k ts) := fun i hi => by
    rw [gl] at hi
    rw [(gcs_at (show i < ts.length by omega)).1, (gcs_at hi).1]
    exact ht.up i hi
  have ne := ht.ne
  have zm := z1.m oc
  have zk := z2.m od
  have zL : Sz (b + b2 + 1) (m - k) := zm.sub zk
  refine ⟨m, k, _, _, rfl, zm, zk, by omega, ?_⟩
  refine ⟨_, gcs cs m ds k ts, m - k, rfl, Or.inl rfl, by rw [gl]; exact ne, by rw [gl]; omega, gC.mono (by decide), gU, ?_⟩
  refine ⟨(by show 0 ≤ 1000; decide), ?_⟩
  refine ⟨fun i τ => ∃ (C : Cs) (B M : Rat) (y7 y8 : Option S), τ = [some (.d (crv cs m)), some (.d (crv ds k)), some (.r ((gcs cs m ds k ts).map cd)), some (.d (qd (m - k))), some (.l ((slpL (gcs cs m ds k ts) (m - k)).map qd)), some (.l (C.map cd)), some (.d (qd B)), y7, y8] ∧ (i = 0 → C = [] ∧ B = 0) ∧ (0 < i → Lft (gap cs m ds k) C (T ts (i - 1)) B M (if i < ts.length then some (T ts i) else none) ∧ Ln (b + b2 + 1) g C M) ∧ (i = ts.length → M = mx 0 (m - k)) ∧ C.length ≤ 2 * i ∧ (∀ j, j < C.length → Sz X (tt C j) ∧ Sz g (vv C j)) ∧ Sz g B, ⟨[], 0, 0, none, none, rfl, fun _ => ⟨rfl, rfl⟩, fun z => absurd z (by decide), fun z => absurd z (by omega), Nat.zero_le _, (fun j hj => absurd hj (Nat.not_lt_zero j)), Sz.zero.mono (by omega)⟩, ?_, ?_⟩
  · rintro i τ x hx ⟨C, B, M, y7, y8, rfl, i0, ip, _, cl, zC, zB⟩
    obtain ⟨hi, rfl⟩ := item_cs hx
    rw [gl] at hi
    obtain ⟨e1, e2⟩ := gcs_at (cs := cs) (m := m) (ds := ds) (k := k) hi
    rw [e1, e2]
    have lin := gap_lin (m := m) (k := k) oc od ht hi
    have t0 := T_nn ht hi
    have es : slp (gcs cs m ds k ts) (m - k) i = sat cs m (T ts i) - sat ds k (T ts i) := lin.2
    have zs : Sz (b + b2 + 1) (sat cs m (T ts i) - sat ds k (T ts i)) := (z1.sl _ t0).sub (z2.sl _ t0)
    have zic : Sz g (gap cs m ds k (T ts i) - (sat cs m (T ts i) - sat ds k (T ts i)) * T ts i) := (gap_ic z1 z2 t0).mono (by omega)
    refine ⟨B, gap cs m ds k (T ts i), _, _, rfl, zB, gz i hi, by omega, ?_⟩
    have zB' : Sz g (mx B (gap cs m ds k (T ts i))) := by
      rcases (mx_le B (gap cs m ds k (T ts i))).2.2 with z | z
      · rw [z]; exact zB
      · rw [z]; exact gz i hi
    have LL : Lf0 (gap cs m ds k) (C ++ [(T ts i, mx B (gap cs m ds k (T ts i)))]) (T ts i) (mx B (gap cs m ds k (T ts i))) ∧ ∀ M', Sz (b + b2 + 1) M' → Sz g (mx B (gap cs m ds k (T ts i)) - M' * T ts i) → Ln (b + b2 + 1) g (C ++ [(T ts i, mx B (gap cs m ds k (T ts i)))]) M' := by
      by_cases z : i = 0
      · obtain ⟨rfl, rfl⟩ := i0 z
        subst z
        refine ⟨?_, fun M' h1 h2 => Ln.one h1 h2⟩
        rw [ht.t0]
        have ml := mx_le 0 (gap cs m ds k 0)
        have l0 : IsL (gap cs m ds k) 0 (mx 0 (gap cs m ds k 0)) := by
          refine ⟨ml.1, ?_, fun s s0 s1 => ?_⟩
          · rcases ml.2.2 with z | z
            · exact .inl z
            · exact .inr ⟨0, Rat.le_refl, Rat.le_refl, z.symm⟩
          · have : s = 0 := by grind
            rw [this]
            exact ml.2.1
        refine ⟨Ord.one ml.1, rfl, rfl, l0, fun M t t0 t1 => ?_⟩
        have : t = 0 := by grind
        subst this
        show IsL _ 0 (val [(0, mx 0 (gap cs m ds k 0))] M 0)
        rw [val_zero (Ord.one ml.1)]
        exact l0
      · obtain ⟨a', n'⟩ := ip (by omega)
        rw [if_pos hi] at a'
        have lin0 := gap_lin (m := m) (k := k) oc od ht (show i - 1 < ts.length by omega)
        have ei : i - 1 + 1 = i := by omega
        rw [ei] at lin0
        have u := ht.up (i - 1) (by omega)
        rw [ei] at u
        have iB := a'.l.nxt (T_nn ht (show i - 1 < ts.length by omega)) rfl (Rat.le_of_lt u) (fun x x1 x2 => lin0.1 x x1 (fun _ => x2))
        exact ⟨a'.step iB, fun M' h1 h2 => n'.snoc (a'.slope iB) h1 h2⟩
    obtain ⟨L0, N0⟩ := LL
    rw [show (if B < gap cs m ds k (T ts i) then gap cs m ds k (T ts i) else B) = mx B (gap cs m ds k (T ts i)) from rfl]
    have gB : gap cs m ds k (T ts i) ≤ mx B (gap cs m ds k (T ts i)) := (mx_le B _).2.1
    generalize eB : mx B (gap cs m ds k (T ts i)) = B' at L0 N0 zB' gB ⊢
    have zC' : ∀ j, j < (C ++ [(T ts i, B')]).length → Sz X (tt (C ++ [(T ts i, B')]) j) ∧ Sz g (vv (C ++ [(T ts i, B')]) j) := snoc_all zC ((tz i hi).mono AX) zB'
    have flat : Ln (b + b2 + 1) g (C ++ [(T ts i, B')]) 0 := N0 0 (Sz.zero.mono (by omega)) (by rw [show B' - 0 * T ts i = B' by grind]; exact zB')
    have hnx : ∀ u, (if i + 1 < ts.length then some (T ts (i + 1)) else none) = some u → T ts i < u := fun u hu => by
      by_cases i1 : i + 1 < ts.length
      · rw [if_pos i1] at hu
        cases hu
        exact ht.up i i1
      · rw [if_neg i1] at hu
        cases hu
    obtain ⟨t1, t2, t3⟩ := L0.turn (s := slp (gcs cs m ds k ts) (m - k) i) rfl hnx (fun x x1 x2 => lin.1 x x1 fun i1 => x2 _ (if_pos i1))
    have hs : i + 1 = ts.length → slp (gcs cs m ds k ts) (m - k) i = m - k := fun e => slp_out (by rw [gl]; omega)
    have lC : (C ++ [(T ts i, B')]).length ≤ 2 * (i + 1) := by rw [List.length_append]; show C.length + 1 ≤ _; omega
    refine ⟨(by show 2 ≤ 1000; decide), ?_⟩
    refine ⟨by rw [List.length_map]; omega, ?_⟩
    refine ⟨gap cs m ds k (T ts i), B', _, _, rfl, gz i hi, zB', by omega, ?_⟩
    refine iteD (fun c => ?_) (fun c => ?_)
    · refine ⟨gcs cs m ds k ts, i, m - k, B', rfl, by rw [gl]; exact hi, zL.mono (by omega), zB'.mono (by omega), gC.mono (by decide), ?_⟩
      have hAb : (if i + 1 < (gcs cs m ds k ts).length then decide (B' < vv (gcs cs m ds k ts) (i + 1)) else decide (0 < m - k)) = true ↔ Ab (gap cs m ds k) B' (slp (gcs cs m ds k ts) (m - k) i) (if i + 1 < ts.length then some (T ts (i + 1)) else none) := by
        by_cases i1 : i + 1 < ts.length
        · rw [if_pos (show i + 1 < (gcs cs m ds k ts).length by rw [gl]; exact i1), if_pos i1, (gcs_at i1).2, decide_eq_true_iff]
          exact Iff.rfl
        · rw [if_neg (show ¬ i + 1 < (gcs cs m ds k ts).length by rw [gl]; exact i1), if_neg i1, hs (by omega), decide_eq_true_iff]
          exact Iff.rfl
      generalize (if i + 1 < (gcs cs m ds k ts).length then decide (B' < vv (gcs cs m ds k ts) (i + 1)) else decide (0 < m - k)) = bb at hAb ⊢
      rw [show bb = decide (bb = true) by cases bb <;> rfl]
      refine iteD (fun e => ?_) (fun ne => ?_)
      rotate_left
      · have t2 := t2 c (fun z => ne (hAb.mpr z))
        refine ⟨_, _, _, _, _, by rw [List.map_append]; rfl, fun z => absurd z (by omega), fun _ => ⟨t2, flat⟩, fun e => ?_, lC, zC', zB'⟩
        have nb : ¬ Ab (gap cs m ds k) B' (slp (gcs cs m ds k ts) (m - k) i) (if i + 1 < ts.length then some (T ts (i + 1)) else none) := fun z => ne (hAb.mpr z)
        rw [if_neg (by omega), hs e] at nb
        have nb : ¬ 0 < m - k := nb
        unfold mx
        rw [if_neg nb]
      · obtain ⟨s0, t3⟩ := t3 c (hAb.mp e)
        rw [es] at s0 t3
        have sne : sat cs m (T ts i) - sat ds k (T ts i) ≠ 0 := fun z => by rw [z] at s0; exact absurd s0 (by decide)
        have xz : Sz X (T ts i + (B' - gap cs m ds k (T ts i)) / (sat cs m (T ts i) - sat ds k (T ts i))) := (cross_ls z1 z2 t0 zB' sne).mono (by omega)
        refine atR (at_sl (cs := gcs cs m ds k ts) (m := m - k) i rfl (by rw [gl]; exact hi)) ?_
        rw [es]
        refine ⟨T ts i, gap cs m ds k (T ts i), _, B', X, _, rfl, (tz i hi).mono AX, (gz i hi).mono gX, zB'.mono gX, zs, sne, by omega, ?_⟩
        have N1 : Ln (b + b2 + 1) g (C ++ [(T ts i, B')] ++ [(T ts i + (B' - gap cs m ds k (T ts i)) / (sat cs m (T ts i) - sat ds k (T ts i)), B')]) (sat cs m (T ts i) - sat ds k (T ts i)) := by
          refine flat.snoc ?_ zs ?_
          · have ln : (C ++ [(T ts i, B')]).length - 1 = C.length := by rw [len_snoc]; omega
            rw [ln, vv_r]
            show (B' - B') / _ = 0
            rw [show B' - B' = 0 by grind, Rat.div_def, Rat.zero_mul]
          · show Sz g (B' - (sat cs m (T ts i) - sat ds k (T ts i)) * (T ts i + (B' - gap cs m ds k (T ts i)) / (sat cs m (T ts i) - sat ds k (T ts i))))
            generalize sat cs m (T ts i) - sat ds k (T ts i) = s at *
            generalize gap cs m ds k (T ts i) = G at *
            rw [show B' - s * (T ts i + (B' - G) / s) = G - s * T ts i by grind]
            exact zic
        generalize T ts i + (B' - gap cs m ds k (T ts i)) / (sat cs m (T ts i) - sat ds k (T ts i)) = Y at xz t3 N1 ⊢
        refine ⟨(by show 2 ≤ 1000; decide), (by rw [List.length_append, List.length_map]; show C.length + 1 < 1000000; omega), ?_⟩
        refine ⟨_, _, _, _, _, by rw [List.map_append, List.map_append]; rfl, fun z => absurd z (by omega), fun _ => ⟨t3, N1⟩, fun e => ?_, ?_, snoc_all zC' xz zB', zB'⟩
        · rw [← es, hs e] at s0 ⊢
          unfold mx
          rw [if_pos s0]
        · rw [List.length_append, List.length_append]
          show C.length + 1 + 1 ≤ _
          omega
    · have t1 := t1 c
      refine iF ?_
      have N1 : Ln (b + b2 + 1) g (C ++ [(T ts i, B')]) (mx 0 (slp (gcs cs m ds k ts) (m - k) i)) := by
        rcases (mx_le 0 (slp (gcs cs m ds k ts) (m - k) i)).2.2 with z | z
        · rw [z]; exact flat
        · rw [z, es]
          have eG : B' = gap cs m ds k (T ts i) := by grind
          exact N0 _ zs (by rw [eG]; exact zic)
      exact ⟨_, _, _, _, _, by rw [List.map_append]; rfl, fun z => absurd z (by omega), fun _ => ⟨t1, N1⟩, fun e => by rw [hs e], lC, zC', zB'⟩
  rintro τ ⟨C, B, M, y7, y8, rfl, i0, ip, iM, cl, zC, zB⟩
  have iN : (List.map cd (gcs cs m ds k ts)).length = ts.length := by rw [List.length_map, gl]
  rw [iN] at ip iM cl
  obtain ⟨a', n'⟩ := ip ne
  rw [if_neg (Nat.lt_irrefl _)] at a'
  have eM := iM rfl
  subst eM
  have zM : Sz 2000 (mx 0 (m - k)) := by
    rcases (mx_le 0 (m - k)).2.2 with z | z
    · rw [z]; exact Sz.zero.mono (by decide)
    · rw [z]; exact zL.mono (by omega)
  refine ⟨0, m - k, _, _, rfl, Sz.zero, zL, by omega, ?_⟩
  refine ⟨_, C, mx 0 (m - k), rfl, Or.inl rfl, ?_, fun _ => ?_, fun no => absurd ⟨a'.o, a'.M0⟩ no⟩
  · exact ⟨by omega, fun j hj => ⟨(zC j hj).1.mono X2, (zC j hj).2.mono (by omega)⟩, zM⟩
  have LC : LS X (b + b2 + 1) g C (mx 0 (m - k)) := n'.ls a'.o (fun j hj => (zC j hj).1)
  refine q _ _ (kept_crv a'.o a'.M0) a'.M0 (fun t t0 => ?_) (LC.kept a'.o) ?_
  · rw [(val_kp a'.o t).1]
    exact a'.v t t0 (fun u hu => by cases hu)
  · have := kp_len C (mx 0 (m - k)) (C.length - 1)
    have := a'.o.ne
    omega
theorem sc_unused : FnScope ["coming", "offer"] ["coming", "offer"] (defScope s_unused) := ⟨rfl, rfl, rfl, by decide +kernel, rfl, by decide +kernel, by decide +kernel⟩
set_option maxHeartbeats 4000000 in
theorem ok_unused (F : Fun K "unused" "unused" s_unused f fd) (C_left : Cal P w K mg base (CXU P w) 9 "left" ["f", "g"] sp_left) : FnOk P w K mg base CX0 10 f fd ["coming", "offer"] (liftSp K mg sp_unused) := by
  refine fn3 F sc_unused (fun ss R U h => ?_) (fun cdv A outer s H E ss R U hr h => ?_)
  · unfold sp_unused at h; obtain ⟨cs, m, ds, k, a, b, c, a2, b2, c2, A, rfl, _⟩ := h; rfl
  obtain ⟨cs, m, ds, k, a, b, c, a2, b2, c2, A, rfl, h1, h2, h3, h4, h5, h6, h7, h8, h9, h10, h11⟩ := h
  refine ⟨_, (ss_one (s_ret (v_callU exok_no C_left (hr.mono (by decide)) rfl (a_cons (v_var (pv 1)) (a_cons (v_var (pv 0)) a_nil))))), ?_⟩
  exact ⟨cs, m, ds, k, a, b, c, a2, b2, c2, A, rfl, h1, h2, h3, h4, h5, h6, h7, h8, h9, h10, h11⟩
theorem sc_served : FnScope ["coming", "offer"] ["coming", "offer"] (defScope s_served) := ⟨rfl, rfl, rfl, by decide +kernel, rfl, by decide +kernel, by decide +kernel⟩
set_option maxHeartbeats 4000000 in
theorem ok_served (F : Fun K "served" "served" s_served f fd) (C_less : Cal P w K mg base (CXU P w) 9 "less" ["f", "g"] sp_less) (C_unused : Cal P w K mg base (CXU P w) 10 "unused" ["coming", "offer"] sp_unused) : FnOk P w K mg base CX0 11 f fd ["coming", "offer"] (liftSp K mg sp_served) := by
  refine fn3 F sc_served (fun ss R U h => ?_) (fun cdv A outer s H E ss R U hr h => ?_)
  · unfold sp_served at h; obtain ⟨cs, m, ds, k, a, b, c, a2, b2, c2, A, x, y, z, rfl, _⟩ := h; rfl
  obtain ⟨cs, m, ds, k, a, b, c, a2, b2, c2, A, x, y, z, rfl, r1, r2, z1, z2, hA, hA2, hl0, n1, n2, n3, hs, n4, n5, n6, q⟩ := h
  refine ⟨_, (ss_one (s_ret (v_callU exok_no C_less (hr.mono (by decide)) rfl (a_cons (v_var (pv 1)) (a_cons (v_callU exok_no C_unused (hr.mono (by decide)) rfl (a_cons (v_var (pv 0)) (a_cons (v_var (pv 1)) a_nil))) a_nil))))), ?_⟩
  refine ⟨cs, m, ds, k, a, b, c, a2, b2, c2, A, rfl, r1, r2, z1, z2, hA, hA2, by omega, n1, n2, n3, fun L K cL k0 vL zL lL => ?_⟩
  have zL := hs L K cL vL
  have rL : Rise L K := ⟨⟨cL.ne, cL.t0, cL.v0, cL.up, cL.vu⟩, k0⟩
  have cm : ∀ x y, 0 ≤ x → x ≤ y → val cs m x ≤ val cs m y := fun x y x0 xy => val_mono r1 x0 xy
  have am : ∀ x y, 0 ≤ x → x ≤ y → val ds k x ≤ val ds k y := fun x y x0 xy => val_mono r2 x0 xy
  refine ⟨cs, m, L, K, a, b, c, x, y, z, A, rfl, r1, rL, z1, zL, hA, n4, by omega, n1, n5, n6, fun x y x0 xy => left_inc cm am vL x0 xy, ?_, fun C M cC m0 vC eM zC lC => ?_⟩
  · have c0 := val_zero (m := m) r1.o
    have a0 := val_zero (m := k) r2.o
    refine left_zero (C := val cs m) (A := val ds k) (L := val L K) (by rw [c0]; exact r1.o.v0) (by rw [a0]; exact r2.o.v0) (vL 0 Rat.le_refl)
  · exact q L K C M cL k0 vL cC m0 eM vC zC (by omega)
theorem sc_shared : FnScope ["comings", "offer", "rest", "leavings", "coming"] ["comings", "offer"] (defScope s_shared) := ⟨rfl, rfl, rfl, by decide +kernel, rfl, by decide +kernel, by decide +kernel⟩
set_option maxHeartbeats 4000000 in
theorem ok_shared (F : Fun K "shared" "shared" s_shared f fd) (C_unused : Cal P w K mg base (CXU P w) 10 "unused" ["coming", "offer"] sp_unused) (C_served : Cal P w K mg base (CXU P w) 11 "served" ["coming", "offer"] sp_served) : FnOk P w K mg base CX0 12 f fd ["comings", "offer"] (liftSp K mg sp_shared) := by
  refine fn3 F sc_shared (fun ss R U h => ?_) (fun cdv A outer s H E ss R U hr h => ?_)
  · unfold sp_shared at h; obtain ⟨x, fs, cs, m, b, c, rfl, _⟩ := h; rfl
  obtain ⟨x, fs, cs, m, b, c, rfl, hx, hk, hf, hb, hc, b0, c0, hs0, hn, q⟩ := h
  refine ⟨_, (ss_cons (s_set (i := 2) sc_shared.nd rfl (Or.inl rfl) (v_var (pv 1)))
      (ss_cons (s_set (i := 3) sc_shared.nd rfl (Or.inl rfl) (v_lst a_nil))
      (ss_cons (s_forN (ps_for PassesOwn.never rfl (pi_seq (pv 0)) (pg_name (i := 4) sc_shared.nd rfl (Or.inl rfl)) (PSs3.out (ss_cons (s_app (ps_expr (pe_bm PySem.F.plainAttrs_list PySem.F.slot_list_append PySem.F.type_list_append mt_append (pv 3) (pa_cons (PE3.out (v_callU exok_no C_served (hr.mono (by decide)) rfl (a_cons (v_var (pv 4)) (a_cons (v_var (pv 2)) a_nil)))) pa_nil))))
      (ss_one (s_set (i := 2) sc_shared.nd rfl (Or.inl rfl) (v_callU exok_no C_unused (hr.mono (by decide)) rfl (a_cons (v_var (pv 4)) (a_cons (v_var (pv 2)) a_nil)))))))))
      (ss_one (s_retV (pv 3)))))), ?_⟩
  have sh0 := sh_zero fs hk
  obtain ⟨r0, z0, l0, _, _⟩ := hk
  rcases hx with rfl | rfl
  · refine ⟨(by show 0 ≤ 1000; decide), ?_⟩
    refine ⟨fun n τ => ∃ (gs : List (Cs × Rat)) (rs : Nat → Cs × Rat) (y4 : Option S), τ = [some (.r (fs.map cD)), some (.d (crv cs m)), some (.d (crv (rs n).1 (rs n).2)), some (.l (gs.map cD)), y4] ∧ SH cs m fs n gs rs, ⟨[], fun _ => (cs, m), _, rfl, sh0⟩, ?_, ?_⟩
    · rintro n τ x hx ⟨gs, rs, y4, rfl, sh⟩
      obtain ⟨f, hf', rfl⟩ := map_item hx
      have nl : n < fs.length := (List.getElem?_eq_some_iff.mp hf').1
      obtain ⟨cf, zf⟩ := hf f (List.mem_of_getElem? hf')
      have rf := crv_rise cf
      have cn := sh.c n (Nat.le_refl _)
      have zn := sh.z n (Nat.le_refl _)
      have vn := sh.v n (Nat.le_refl _)
      have kn := sh.k n (Nat.le_refl _)
      have rn := crv_rise cn
      have gl := sh.len
      have fl : f.1.length ≤ 20 := by
        have : sumL [f] ≤ sumL fs := sumL_infix (by
          obtain ⟨s, t, e⟩ := List.append_of_mem (List.mem_of_getElem? hf')
          exact ⟨s, t, by rw [e, List.append_assoc]; rfl⟩)
        have e : sumL [f] = f.1.length + 0 := rfl
        omega
      have tk : fs.take (n + 1) = fs.take n ++ [f] := by rw [List.take_add_one, hf']; rfl
      have tw : ∀ (L : Cs) (K : Rat), (∀ t, 0 ≤ t → IsL (gap (rs n).1 (rs n).2 f.1 f.2) t (val L K t)) → ∀ t, 0 ≤ t → IsL (fun x => val cs m x - sm (fs.take (n + 1)) x) t (val L K t) := fun L K v t t0 => by
        have w := IsL.twice (f := val cs m) (g := sm (fs.take n)) (l := val (rs n).1 (rs n).2) (h := val f.1 f.2) t0 (fun s s0 _ => vn s s0) (fun x y x0 xy => val_mono rf x0 xy) (by rw [val_zero rf.o]; exact rf.o.v0) (v t t0)
        refine w.cong fun s s0 s1 => ?_
        show val cs m s - (sm (fs.take n) s + val f.1 f.2 s) = val cs m s - sm (fs.take (n + 1)) s
        rw [tk, sm_snoc]
      have hs : ∀ (L : Cs) (K : Rat), Crv L K → (∀ t, 0 ≤ t → IsL (gap (rs n).1 (rs n).2 f.1 f.2) t (val L K t)) → LS 715 115 369 L K ∧ L.length ≤ 48 := fun L K c' v => by
        have tl : (fs.take (n + 1)).length = n + 1 := by rw [List.length_take]; omega
        have q1 : (n + 1) * (b + 1) ≤ fs.length * (b + 1) := Nat.mul_le_mul_right _ nl
        have q2 : (n + 1) * (c + 1) ≤ fs.length * (c + 1) := Nat.mul_le_mul_right _ nl
        have q3 := sumL_take fs (n + 1)
        have r := rest_ls2 (fs := fs.take (n + 1)) (b := b) (c := c) (b' := 115) (c' := 230) (g := 369) (X := 715) r0.o z0 (fun g hg => ⟨(crv_rise (hf g (List.mem_of_mem_take hg)).1).o, (hf g (List.mem_of_mem_take hg)).2⟩) c' (tw L K v) (by rw [tl]; omega) (by rw [tl]; omega) (by decide) (by decide)
        refine ⟨r.1, ?_⟩
        have e : sumL ((cs, m) :: fs.take (n + 1)) = cs.length + sumL (fs.take (n + 1)) := rfl
        have := r.2
        omega
      refine ⟨(rs n).1, (rs n).2, f.1, f.2, 715, 115, 369, 23, b, c, 715, 715, 115, 369, rfl, rn, rf, zn, zf, by decide, by decide, by omega, by decide, by omega, by omega, fun L K c' v => (hs L K c' v).1, by decide, by decide, by decide, fun L K C M cL K0 vL cC M0 eM vC zC lC => ?_⟩
      refine ⟨by rw [List.length_map]; omega, ?_⟩
      refine ⟨(rs n).1, (rs n).2, f.1, f.2, 715, 115, 369, 23, b, c, 715, rfl, rn, rf, zn, zf, by decide, by decide, by omega, by decide, by omega, by omega, fun L2 K2 cL2 K02 vL2 _ lL2 => ?_⟩
      obtain ⟨rfl, rfl⟩ : L = L2 ∧ K = K2 := crv_ext cL cL2 (fun t t0 => (vL t t0).uniq (vL2 t t0))
      refine ⟨gs ++ [(C, M)], fun j => if j ≤ n then rs j else (L, K), some (.d (cD f)), ?_, sh.step hf' cL (hs L K cL vL).1 (hs L K cL vL).2 (tw L K vL) cC vC⟩
      show _ = [_, _, some (S.d (crv (if n + 1 ≤ n then rs (n + 1) else (L, K)).1 (if n + 1 ≤ n then rs (n + 1) else (L, K)).2)), some (S.l ((gs ++ [(C, M)]).map cD)), _]
      rw [if_neg (show ¬ n + 1 ≤ n by omega), List.map_append]; rfl
    rintro τ ⟨gs, rs, y4, rfl, sh⟩
    rw [List.length_map] at sh
    exact q gs rs sh
  · refine ⟨(by show 0 ≤ 1000; decide), ?_⟩
    refine ⟨fun n τ => ∃ (gs : List (Cs × Rat)) (rs : Nat → Cs × Rat) (y4 : Option S), τ = [some (.d (.lst (fs.map cD))), some (.d (crv cs m)), some (.d (crv (rs n).1 (rs n).2)), some (.l (gs.map cD)), y4] ∧ SH cs m fs n gs rs, ⟨[], fun _ => (cs, m), _, rfl, sh0⟩, ?_, ?_⟩
    · rintro n τ x hx ⟨gs, rs, y4, rfl, sh⟩
      obtain ⟨f, hf', rfl⟩ := map_item hx
      have nl : n < fs.length := (List.getElem?_eq_some_iff.mp hf').1
      obtain ⟨cf, zf⟩ := hf f (List.mem_of_getElem? hf')
      have rf := crv_rise cf
      have cn := sh.c n (Nat.le_refl _)
      have zn := sh.z n (Nat.le_refl _)
      have vn := sh.v n (Nat.le_refl _)
      have kn := sh.k n (Nat.le_refl _)
      have rn := crv_rise cn
      have gl := sh.len
      have fl : f.1.length ≤ 20 := by
        have : sumL [f] ≤ sumL fs := sumL_infix (by
          obtain ⟨s, t, e⟩ := List.append_of_mem (List.mem_of_getElem? hf')
          exact ⟨s, t, by rw [e, List.append_assoc]; rfl⟩)
        have e : sumL [f] = f.1.length + 0 := rfl
        omega
      have tk : fs.take (n + 1) = fs.take n ++ [f] := by rw [List.take_add_one, hf']; rfl
      have tw : ∀ (L : Cs) (K : Rat), (∀ t, 0 ≤ t → IsL (gap (rs n).1 (rs n).2 f.1 f.2) t (val L K t)) → ∀ t, 0 ≤ t → IsL (fun x => val cs m x - sm (fs.take (n + 1)) x) t (val L K t) := fun L K v t t0 => by
        have w := IsL.twice (f := val cs m) (g := sm (fs.take n)) (l := val (rs n).1 (rs n).2) (h := val f.1 f.2) t0 (fun s s0 _ => vn s s0) (fun x y x0 xy => val_mono rf x0 xy) (by rw [val_zero rf.o]; exact rf.o.v0) (v t t0)
        refine w.cong fun s s0 s1 => ?_
        show val cs m s - (sm (fs.take n) s + val f.1 f.2 s) = val cs m s - sm (fs.take (n + 1)) s
        rw [tk, sm_snoc]
      have hs : ∀ (L : Cs) (K : Rat), Crv L K → (∀ t, 0 ≤ t → IsL (gap (rs n).1 (rs n).2 f.1 f.2) t (val L K t)) → LS 715 115 369 L K ∧ L.length ≤ 48 := fun L K c' v => by
        have tl : (fs.take (n + 1)).length = n + 1 := by rw [List.length_take]; omega
        have q1 : (n + 1) * (b + 1) ≤ fs.length * (b + 1) := Nat.mul_le_mul_right _ nl
        have q2 : (n + 1) * (c + 1) ≤ fs.length * (c + 1) := Nat.mul_le_mul_right _ nl
        have q3 := sumL_take fs (n + 1)
        have r := rest_ls2 (fs := fs.take (n + 1)) (b := b) (c := c) (b' := 115) (c' := 230) (g := 369) (X := 715) r0.o z0 (fun g hg => ⟨(crv_rise (hf g (List.mem_of_mem_take hg)).1).o, (hf g (List.mem_of_mem_take hg)).2⟩) c' (tw L K v) (by rw [tl]; omega) (by rw [tl]; omega) (by decide) (by decide)
        refine ⟨r.1, ?_⟩
        have e : sumL ((cs, m) :: fs.take (n + 1)) = cs.length + sumL (fs.take (n + 1)) := rfl
        have := r.2
        omega
      refine ⟨(rs n).1, (rs n).2, f.1, f.2, 715, 115, 369, 23, b, c, 715, 715, 115, 369, rfl, rn, rf, zn, zf, by decide, by decide, by omega, by decide, by omega, by omega, fun L K c' v => (hs L K c' v).1, by decide, by decide, by decide, fun L K C M cL K0 vL cC M0 eM vC zC lC => ?_⟩
      refine ⟨by rw [List.length_map]; omega, ?_⟩
      refine ⟨(rs n).1, (rs n).2, f.1, f.2, 715, 115, 369, 23, b, c, 715, rfl, rn, rf, zn, zf, by decide, by decide, by omega, by decide, by omega, by omega, fun L2 K2 cL2 K02 vL2 _ lL2 => ?_⟩
      obtain ⟨rfl, rfl⟩ : L = L2 ∧ K = K2 := crv_ext cL cL2 (fun t t0 => (vL t t0).uniq (vL2 t t0))
      refine ⟨gs ++ [(C, M)], fun j => if j ≤ n then rs j else (L, K), some (.d (cD f)), ?_, sh.step hf' cL (hs L K cL vL).1 (hs L K cL vL).2 (tw L K vL) cC vC⟩
      show _ = [_, _, some (S.d (crv (if n + 1 ≤ n then rs (n + 1) else (L, K)).1 (if n + 1 ≤ n then rs (n + 1) else (L, K)).2)), some (S.l ((gs ++ [(C, M)]).map cD)), _]
      rw [if_neg (show ¬ n + 1 ≤ n by omega), List.map_append]; rfl
    rintro τ ⟨gs, rs, y4, rfl, sh⟩
    rw [List.length_map] at sh
    exact q gs rs sh
theorem sc__law_cell_at : FnScope ["_law_script", "_law_k"] ["_law_script", "_law_k"] (defScope s__law_cell_at) := ⟨rfl, rfl, rfl, by decide +kernel, rfl, by decide +kernel, by decide +kernel⟩
set_option maxHeartbeats 4000000 in
theorem ok__law_cell_at (F : Fun K "_law_cell_at" "_law_cell_at" s__law_cell_at f fd) (z_len : mg "len" = none) : FnOk P w K mg base CX0 1 f fd ["_law_script", "_law_k"] (liftSp K mg sp__law_cell_at) := by
  refine fn3 F sc__law_cell_at (fun ss R U h => ?_) (fun cdv A outer s H E ss R U hr h => ?_)
  · unfold sp__law_cell_at at h; obtain ⟨ns, k, rfl, _⟩ := h; rfl
  obtain ⟨ns, k, rfl, k0, k1, q⟩ := h
  refine ⟨_, (ss_cons (s_if (w_cmp o_lt (v_var (pv 1)) (v_callB b_len rfl z_len PySem.boot_len (a_cons (v_var (pv 0)) a_nil)) (nomark _)) (ss_one (s_ret (v_ix (v_var (pv 0)) (v_var (pv 1)) (fun _ _ => rfl)))) ss_nil)
      (ss_one (s_ret (v_op o_add (v_op o_mul v_int (v_var (pv 1))) v_int)))), ?_⟩
  unfold cl at q
  refine iteD (fun c => ?_) (fun c => ?_)
  · rw [List.length_map] at c
    rw [if_pos c] at q
    refine atR (atI_cell (ms := ns) k.toNat (by omega) (by omega)) ?_
    rw [show ((k.toNat : Nat) : Int) = k by omega]
    exact q
  · rw [List.length_map] at c
    rw [if_neg c] at q
    exact ⟨mulOk (m := 10) (n := 20) (by decide) (by omega) (by decide), q⟩
theorem sc__law_low : FnScope ["_law_top", "_law_bottom", "_law_one", "_law_other", "_law_rest"] ["_law_top", "_law_bottom"] (defScope s__law_low) := ⟨rfl, rfl, rfl, by decide +kernel, rfl, by decide +kernel, by decide +kernel⟩
set_option maxHeartbeats 4000000 in
theorem ok__law_low (F : Fun K "_law_low" "_law_low" s__law_low f fd) (z_abs : mg "abs" = none) : FnOk P w K mg base CX0 1 f fd ["_law_top", "_law_bottom"] (liftSp K mg sp__law_low) := by
  refine fn3 F sc__law_low (fun ss R U h => ?_) (fun cdv A outer s H E ss R U hr h => ?_)
  · unfold sp__law_low at h; obtain ⟨a, b, rfl, _⟩ := h; rfl
  obtain ⟨a, b, rfl, hb, h1, h2, q⟩ := h
  refine ⟨_, (ss_cons (s_set (i := 2) sc__law_low.nd rfl (Or.inl rfl) (v_callB b_abs rfl z_abs PyProof.Rows.boot_abs (a_cons (v_var (pv 0)) a_nil)))
      (ss_cons (s_set (i := 3) sc__law_low.nd rfl (Or.inl rfl) (v_var (pv 1)))
      (ss_cons (s_while PassesOwn.never (w_cmp o_gt (v_var (pv 3)) v_int (nomark _)) (ss_cons (s_set (i := 4) sc__law_low.nd rfl (Or.inl rfl) (v_op o_mod (v_var (pv 2)) (v_var (pv 3))))
      (ss_cons (s_set (i := 2) sc__law_low.nd rfl (Or.inl rfl) (v_var (pv 3)))
      (ss_one (s_set (i := 3) sc__law_low.nd rfl (Or.inl rfl) (v_var (pv 4)))))))
      (ss_one (s_ret (v_tup (a_cons (v_op o_fdiv (v_var (pv 0)) (v_var (pv 2))) (a_cons (v_op o_fdiv (v_var (pv 1)) (v_var (pv 2))) a_nil)))))))), ?_⟩
  have hb0 : b ≠ 0 := by clear h1 h2; omega
  have hp := rat_parts (a := a) hb0
  have hc := cm_ne (a := a) hb0
  have e : cm a b = g a b := if_neg (by clear h1 h2; omega)
  rw [e] at hp hc
  have ga := g_abs a b
  rw [if_neg (show ¬ b < 0 by clear h1 h2; omega)] at ga
  refine ⟨fun m τ => ∃ x y z, τ = [I a, I b, I x, I y, z] ∧ 0 ≤ x ∧ 0 ≤ y ∧ g x y = g a b ∧ m = y.toNat, ⟨_, _, _, _, rfl, abs_nn a, Int.le_of_lt hb, ga, rfl⟩, ?_⟩
  rintro m τ ⟨x, y, z, rfl, k1, k2, k3, rfl⟩
  refine iteD (fun c => ?_) (fun c => ?_)
  · clear h1 h2
    have c : 0 < y := c
    refine ⟨by omega, (x.fmod y).toNat, ?_, _, _, _, rfl, k2, ?_, ?_, rfl⟩
    · have := Int.fmod_lt_of_pos x (show 0 < y by omega)
      omega
    · exact Int.fmod_nonneg_of_pos x (by omega)
    · rw [← k3, Int.fmod_eq_emod_of_nonneg x k2]
      exact g_turn (by omega)
  · have c : y = 0 := by have : ¬ 0 < y := c; omega
    subst c
    rw [g_end k1] at k3
    subst k3
    refine ⟨⟨hc, noPy h1⟩, ⟨hc, noPy h2⟩, (by show 2 ≤ 1000; decide), ?_⟩
    show R (.d (.tup [.int (a.fdiv (g a b)), .int (b.fdiv (g a b))]))
    rw [hp.1, hp.2]
    exact q
theorem sc__law_slopes_by : FnScope ["_law_cells", "_law_shape", "_law_slopes", "_law_cell", "_law_slope"] ["_law_cells", "_law_shape"] (defScope s__law_slopes_by) := ⟨rfl, rfl, rfl, by decide +kernel, rfl, by decide +kernel, by decide +kernel⟩
set_option maxHeartbeats 4000000 in
theorem ok__law_slopes_by (F : Fun K "_law_slopes_by" "_law_slopes_by" s__law_slopes_by f fd) (z_sorted : mg "sorted" = none) (z_len : mg "len" = none) : FnOk P w K mg base CX0 1 f fd ["_law_cells", "_law_shape"] (liftSp K mg sp__law_slopes_by) := by
  refine fn3 F sc__law_slopes_by (fun ss R U h => ?_) (fun cdv A outer s H E ss R U hr h => ?_)
  · unfold sp__law_slopes_by at h; obtain ⟨ms, sh, rfl, _⟩ := h; rfl
  obtain ⟨ms, sh, rfl, hl, q⟩ := h
  refine ⟨_, (ss_cons (s_set (i := 2) sc__law_slopes_by.nd rfl (Or.inl rfl) (v_lst a_nil))
      (ss_cons (s_forN (ps_for PassesOwn.never rfl (pi_seq (pv 0)) (pg_name (i := 3) sc__law_slopes_by.nd rfl (Or.inl rfl)) (PSs3.out (ss_cons (s_set (i := 4) sc__law_slopes_by.nd rfl (Or.inl rfl) (v_op o_mod (v_op o_add (v_op o_mul (v_var (pv 3)) v_int) (v_op o_fdiv (v_var (pv 3)) v_int)) v_int))
      (ss_cut (s_if (w_cmp o_eq (v_op o_mod (v_var (pv 3)) v_int) v_int (nomark _)) (ss_one (s_set (i := 4) sc__law_slopes_by.nd rfl (Or.inl rfl) (v_op o_mod (v_op o_fdiv (v_var (pv 3)) v_int) (v_op o_pow v_int v_int)))) ss_nil)
      (ss_cut (s_if (PW3.pt (w_and (w_cmp o_eq (v_op o_mod (v_var (pv 3)) v_int) v_int (nomark _)) (w_and1 (w_cmp o_gt (v_callB b_len rfl z_len PySem.boot_len (a_cons (v_var (pv 2)) a_nil)) v_int (nomark _))))) (ss_one (s_set (i := 4) sc__law_slopes_by.nd rfl (Or.inl rfl) (v_ix (v_var (pv 2)) (v_neg v_int) (fun _ _ => rfl)))) ss_nil)
      (ss_one (s_app (ps_expr (pe_bm PySem.F.plainAttrs_list PySem.F.slot_list_append PySem.F.type_list_append mt_append (pv 2) (pa_cons (PE3.out (v_var (pv 4))) pa_nil)))))))))))
      (ss_cons (s_if (w_cmp o_eq (v_var (pv 1)) v_int (nomark _)) (ss_one (s_ret (v_sortedR (v_var (pv 2)) rfl z_sorted))) ss_nil)
      (ss_cons (s_if (w_cmp o_eq (v_var (pv 1)) v_int (nomark _)) (ss_one (s_ret (v_sorted (v_var (pv 2)) rfl z_sorted))) ss_nil)
      (ss_one (s_retV (pv 2))))))), ?_⟩
  refine ⟨(by show 0 ≤ 1000; decide), ?_⟩
  refine ⟨fun n τ => ∃ (sl : List Int) (y3 y4 : Option S), τ = [some (.r (ms.map D.int)), I sh, some (.l (sl.map D.int)), y3, y4] ∧ sl.length = n ∧ ∀ x ∈ sl, 0 ≤ x ∧ x ≤ 1000000, ⟨[], _, _, rfl, rfl, fun x hx => by cases hx⟩, ?_, ?_⟩
  · rintro n τ x hx ⟨sl, y3, y4, rfl, e, bs⟩
    have hn : n < ms.length := by have := (List.getElem?_eq_some_iff.mp hx).1; rw [List.length_map] at this; exact this
    obtain ⟨c, _, rfl⟩ := map_item hx
    have p6 : (10 : Int) ^ (6 : Int).toNat = 1000000 := by decide
    have f10 := fm (a := c * 5 + c.fdiv 6) (show (0 : Int) < 10 by decide)
    have f6 := fm (a := c.fdiv 12) (show (0 : Int) < 10 ^ (6 : Int).toNat by decide)
    refine ⟨PySem.IntMulOk.of_right (by decide), ⟨by decide, noPy2 (by decide)⟩, by decide, ?_⟩
    refine ⟨fun τ => ∃ s : Int, τ = [some (.r (ms.map D.int)), I sh, some (.l (sl.map D.int)), I c, I s] ∧ 0 ≤ s ∧ s ≤ 1000000, ?_, ?_⟩
    · refine ⟨by decide, ?_⟩
      exact iteD (fun _ => ⟨⟨by decide, noPy2 (by decide)⟩, ⟨by decide, by decide, by decide⟩, by decide, _, rfl, f6.1, by rw [p6] at f6 ⊢; omega⟩) (fun _ => ⟨_, rfl, f10.1, by omega⟩)
    rintro τ ⟨s, rfl, s0, s1⟩
    refine ⟨fun τ => ∃ s : Int, τ = [some (.r (ms.map D.int)), I sh, some (.l (sl.map D.int)), I c, I s] ∧ 0 ≤ s ∧ s ≤ 1000000, ?_, ?_⟩
    · refine ⟨by decide, ?_⟩
      refine iteD (fun _ => ?_) (fun _ => iF ⟨s, rfl, s0, s1⟩)
      refine iteD (fun c2 => ?_) (fun _ => ⟨s, rfl, s0, s1⟩)
      rw [List.length_map] at c2
      obtain ⟨x, ex, mx⟩ := at_last (xs := sl.map D.int) (by rw [List.length_map]; omega)
      obtain ⟨xi, xm, rfl⟩ := List.mem_map.mp mx
      refine atR ex ?_
      exact ⟨xi, rfl, (bs xi xm).1, (bs xi xm).2⟩
    clear s0 s1
    clear s
    rintro τ ⟨s, rfl, s0, s1⟩
    refine ⟨by rw [List.length_map]; omega, sl ++ [s], _, _, by rw [List.map_append]; rfl, by rw [List.length_append, e]; rfl, fun x hx => ?_⟩
    rcases List.mem_append.mp hx with h | h
    · exact bs x h
    · rw [List.mem_singleton.mp h]; exact ⟨s0, s1⟩
  rintro τ ⟨sl, y3, y4, rfl, e, bs⟩
  rw [List.length_map] at e
  have so : ∀ sl' : List Int, sl'.Perm sl → R (.l (sl'.map D.int)) := fun sl' pm => q sl' (by rw [pm.length_eq]; exact e) (fun x hx => bs x (pm.mem_iff.mp hx))
  refine iteD (fun _ => ⟨sl, rfl, by omega, so⟩) (fun _ => ?_)
  refine iteD (fun _ => ⟨sl, rfl, by omega, so⟩) (fun _ => ?_)
  exact q sl e bs
theorem sc__law_drawn : FnScope ["_law_cells", "_law_slopes", "_law_start", "_law_unit", "_law_time", "_law_value", "_law_corners", "_law_k", "_law_gap"] ["_law_cells", "_law_slopes", "_law_start", "_law_unit"] (defScope s__law_drawn) := ⟨rfl, rfl, rfl, by decide +kernel, rfl, by decide +kernel, by decide +kernel⟩
set_option maxHeartbeats 4000000 in
theorem ok__law_drawn (F : Fun K "_law_drawn" "_law_drawn" s__law_drawn f fd) (C__law_low : Cal P w K mg base (CXU P w) 1 "_law_low" ["_law_top", "_law_bottom"] sp__law_low) (z_range : mg "range" = none) (z_len : mg "len" = none) (z_tuple : mg "tuple" = none) : FnOk P w K mg base CX0 2 f fd ["_law_cells", "_law_slopes", "_law_start", "_law_unit"] (liftSp K mg sp__law_drawn) := by
  refine fn3 F sc__law_drawn (fun ss R U h => ?_) (fun cdv A outer s H E ss R U hr h => ?_)
  · unfold sp__law_drawn at h; obtain ⟨ms, sl, st, u, rfl, _⟩ := h; rfl
  obtain ⟨ms, sl, st, u, rfl, m0, m1, el, bs, s0, s1, u0, u1, q⟩ := h
  refine ⟨_, (ss_cons (s_set (i := 4) sc__law_drawn.nd rfl (Or.inl rfl) v_int)
      (ss_cons (s_set (i := 5) sc__law_drawn.nd rfl (Or.inl rfl) (v_op o_mul (v_var (pv 2)) (v_var (pv 3))))
      (ss_cons (s_set (i := 6) sc__law_drawn.nd rfl (Or.inl rfl) (v_lst (a_cons (v_tup (a_cons (v_tup (a_cons v_int (a_cons v_int a_nil))) (a_cons (v_tup (a_cons (v_var (pv 2)) (a_cons v_int a_nil))) a_nil))) a_nil)))
      (ss_cons (s_for2 (ps_for PassesOwn.never rfl (pi_range2 rfl z_range (PA3.out (a_cons v_int (a_cons (v_callB b_len rfl z_len PySem.boot_len (a_cons (v_var (pv 1)) a_nil)) a_nil)))) (pg_name (i := 7) sc__law_drawn.nd rfl (Or.inl rfl)) (PSs3.out (ss_cons (s_set (i := 8) sc__law_drawn.nd rfl (Or.inl rfl) (v_op o_add v_int (v_op o_mod (v_op o_fdiv (v_ix (v_var (pv 0)) (v_op o_sub (v_var (pv 7)) v_int) (fun _ _ => rfl)) v_int) v_int)))
      (ss_cut (s_if (w_cmp o_eq (v_op o_mod (v_ix (v_var (pv 0)) (v_op o_sub (v_var (pv 7)) v_int) (fun _ _ => rfl)) v_int) v_int (nomark _)) (ss_one (s_set (i := 8) sc__law_drawn.nd rfl (Or.inl rfl) (v_op o_add v_int (v_op o_mod (v_op o_fdiv (v_ix (v_var (pv 0)) (v_op o_sub (v_var (pv 7)) v_int) (fun _ _ => rfl)) v_int) (v_op o_pow v_int v_int))))) ss_nil)
      (ss_cons (s_set (i := 4) sc__law_drawn.nd rfl (Or.inl rfl) (v_op o_add (v_var (pv 4)) (v_var (pv 8))))
      (ss_cons (s_set (i := 5) sc__law_drawn.nd rfl (Or.inl rfl) (v_op o_add (v_var (pv 5)) (v_op o_mul (v_var (pv 8)) (v_ix (v_var (pv 1)) (v_op o_sub (v_var (pv 7)) v_int) (fun _ _ => rfl)))))
      (ss_one (s_if (w_cmp o_ne (v_ix (v_var (pv 1)) (v_var (pv 7)) (fun _ _ => rfl)) (v_ix (v_var (pv 1)) (v_op o_sub (v_var (pv 7)) v_int) (fun _ _ => rfl)) (nomark _)) (ss_one (s_app (ps_expr (pe_bm PySem.F.plainAttrs_list PySem.F.slot_list_append PySem.F.type_list_append mt_append (pv 6) (pa_cons (PE3.out (v_tup (a_cons (v_callU exok_no C__law_low (hr.mono (by decide)) rfl (a_cons (v_var (pv 4)) (a_cons (v_var (pv 3)) a_nil))) (a_cons (v_callU exok_no C__law_low (hr.mono (by decide)) rfl (a_cons (v_var (pv 5)) (a_cons (v_var (pv 3)) a_nil))) a_nil)))) pa_nil))))) ss_nil)))))))))
      (ss_one (s_ret (v_tup (a_cons (v_tupOf (v_var (pv 6)) rfl z_tuple) (a_cons (v_tup (a_cons (v_ix (v_var (pv 1)) (v_neg v_int) (fun _ _ => rfl)) (a_cons v_int a_nil))) a_nil))))))))), ?_⟩
  have ub : u.natAbs < 2 ^ 4 := by omega
  have mu : IntMulOk st u := mulOk (m := 31) (n := 4) (by omega) ub (by decide)
  have p6 : (10 : Int) ^ (6 : Int).toNat = 1000000 := by decide
  have s9 : ∀ j : Nat, j < sl.length → 0 ≤ cell sl j ∧ cell sl j ≤ 1000000 := fun j hj => by
    refine bs _ ?_
    unfold cell
    rw [Int.toNat_natCast, List.getD_eq_getElem?_getD, List.getElem?_eq_getElem hj]
    exact List.getElem_mem hj
  have zsl : ∀ j : Nat, j < sl.length → Sz 21 ((cell sl j : Int) : Rat) := fun j hj => by
    have := s9 j hj
    rw [← int_div]
    exact sz_of (by decide) (by omega) (by decide)
  have u13 : ∀ {x : Nat}, x < 2 ^ 100 → x < 2 ^ 13000 := fun h => up_lt h (by decide)
  have stu : st * u ≤ 1000000000 * 5 := Int.mul_le_mul (by omega) u1 (by omega) (by decide)
  have stu0 : 0 ≤ st * u := Int.mul_nonneg s0 (by omega)
  refine ⟨mu, (by show 2 ≤ 1000; decide), (by show 2 ≤ 1000; decide), (by show 2 ≤ 1000; decide), (by show 1 ≤ 1000; decide), ?_⟩
  refine ⟨⟨by decide, by decide, by rw [List.length_map]; omega, by rw [List.length_map]; omega⟩, ?_⟩
  refine ⟨fun n τ => ∃ (ti va : Int) (cs : Cs) (y7 y8 : Option S), τ = [some (.r (ms.map D.int)), some (.r (sl.map D.int)), I st, I u, I ti, I va, some (.l (cs.map cd)), y7, y8] ∧ Ord cs ∧ (Ln 21 44 cs ((cell sl n : Int) : Rat) ∧ (∀ i, i < cs.length → Sz 23 (tt cs i)) ∧ Rat.divInt va u = vv cs (cs.length - 1) + ((cell sl n : Int) : Rat) * (Rat.divInt ti u - tt cs (cs.length - 1)) ∧ Bd cs ((cell sl n : Int) : Rat)) ∧ cs.length ≤ n + 1 ∧ tt cs (cs.length - 1) ≤ Rat.divInt ti u ∧ vv cs (cs.length - 1) ≤ Rat.divInt va u ∧ 0 ≤ ti ∧ ti ≤ n * 1000001 ∧ 0 ≤ va ∧ va ≤ 5000000000 + n * 1000001000000, ?_, ?_, ?_⟩
  · have e0 : Rat.divInt (st * u) u = (st : Rat) := by
      rw [Rat.divInt_eq_div, Rat.intCast_mul]
      have : (u : Rat) ≠ 0 := fun z => absurd (Rat.intCast_eq_zero_iff.mp z) (Int.ne_of_gt u0)
      grind
    have st0 : (0 : Rat) ≤ (st : Rat) := Rat.intCast_nonneg.mpr s0
    refine ⟨0, st * u, [(0, (st : Rat))], _, _, rfl, Ord.one st0, ⟨Ln.one (zsl 0 (by omega)) ?_, fun i hi => ?_, ?_, fun i hi => absurd hi (by show ¬ i + 1 < 1; omega)⟩, Nat.le_refl _, ?_, ?_, by decide, by decide, stu0, by omega⟩
    · show Sz 44 ((st : Rat) - _ * 0)
      rw [show (st : Rat) - ((cell sl ((0 : Nat) : Int) : Int) : Rat) * 0 = (st : Rat) by grind, ← int_div]
      exact sz_of (by decide) (by omega) (by decide)
    · have : i = 0 := by have : i < 1 := hi; omega
      subst this
      exact Sz.zero.mono (by decide)
    · rw [Rat.zero_divInt, e0]
      show (st : Rat) = (st : Rat) + _ * (0 - 0)
      grind
    · rw [Rat.zero_divInt]; exact Rat.le_refl
    · rw [e0]; exact Rat.le_refl
  · rintro n τ hn ⟨ti, va, cs, y7, y8, rfl, oc, ⟨zl, zt, onl, bd⟩, lc, ht, hv, t0, t1, v0, v1⟩
    rw [List.length_map] at hn
    have nl : n + 1 < ms.length := by omega
    have b0 := atI_cell (ms := ms) (i := 1 + n * 1 - 1) n (by omega) (by omega)
    have c0 := atI_cell (ms := sl) (i := 1 + n * 1 - 1) n (by omega) (by omega)
    have c1 := atI_cell (ms := sl) (i := 1 + n * 1) (n + 1) (by omega) (by omega)
    have sn := s9 n (by omega)
    have sn1 := s9 (n + 1) (by omega)
    have zs1 := zsl (n + 1) (by omega)
    have f7 := fm (a := (cell ms n).fdiv 4) (show (0 : Int) < 7 by decide)
    have f6 := fm (a := (cell ms n).fdiv 10) (show (0 : Int) < 10 ^ (6 : Int).toNat by decide)
    rw [p6] at f6
    refine atR b0 ?_
    refine ⟨⟨by decide, noPy2 (by decide)⟩, by decide, ?_⟩
    refine ⟨fun τ => ∃ g : Int, τ = [some (.r (ms.map D.int)), some (.r (sl.map D.int)), I st, I u, I ti, I va, some (.l (cs.map cd)), I (1 + n * 1), I g] ∧ 1 ≤ g ∧ g ≤ 1000001, ?_, ?_⟩
    · refine atR b0 ?_
      refine ⟨by decide, ?_⟩
      refine iteD (fun _ => ?_) (fun _ => ⟨_, rfl, by omega, by omega⟩)
      refine atR b0 ?_
      exact ⟨⟨by decide, noPy2 (by decide)⟩, ⟨by decide, by decide, by decide⟩, by decide, _, rfl, by rw [p6]; omega, by rw [p6]; omega⟩
    rintro τ ⟨g, rfl, g0, g1⟩
    refine atR c0 ?_
    generalize ecx : cell sl n = x at sn zl onl bd ⊢
    have gx : 0 ≤ g * x := Int.mul_nonneg (by omega) sn.1
    have gx1 : g * x ≤ 1000001 * 1000000 := Int.mul_le_mul g1 sn.2 sn.1 (by decide)
    refine ⟨mulOk (m := 21) (n := 21) (by omega) (by omega) (by decide), ?_⟩
    refine atR c1 ?_
    refine atR c0 ?_
    have lt1 : Rat.divInt ti u < Rat.divInt (ti + g) u := divInt_lt u0 (by omega)
    have le1 : Rat.divInt va u ≤ Rat.divInt (va + g * x) u := divInt_le u0 (by omega)
    have n4 : (n : Int) ≤ 2 := by omega
    have tb : (ti + g).natAbs < 2 ^ 23 := by omega
    have vb : (va + g * x).natAbs < 2 ^ 43 := by omega
    have onl2 : Rat.divInt (va + g * x) u = vv cs (cs.length - 1) + (x : Rat) * (Rat.divInt (ti + g) u - tt cs (cs.length - 1)) := by
      have st2 := line_step (va := va) (g := g) (x := x) (ti := ti) (u := u) (p := 1) u0 (by decide)
      rw [Int.mul_one, int_div] at st2
      rw [st2, onl]
      generalize (x : Rat) = M
      generalize Rat.divInt ti u = X0
      generalize Rat.divInt (ti + g) u = X1
      generalize vv cs (cs.length - 1) = Y
      generalize tt cs (cs.length - 1) = Z
      grind
    refine iteN (fun dx => ?_) (fun ne => ?_)
    · refine ⟨ti + g, u, rfl, u0, up_lt tb (by decide), up_lt ub (by decide), va + g * x, u, rfl, u0, up_lt vb (by decide), up_lt ub (by decide), (by show 2 ≤ 1000; decide), by rw [List.length_map]; omega, ?_⟩
      have o2 : Ord (cs ++ [(Rat.divInt (ti + g) u, Rat.divInt (va + g * x) u)]) := oc.snoc (c := (Rat.divInt (ti + g) u, Rat.divInt (va + g * x) u)) (by show _ < Rat.divInt (ti + g) u; grind) (by show _ ≤ Rat.divInt (va + g * x) u; grind)
      have ln : (cs ++ [(Rat.divInt (ti + g) u, Rat.divInt (va + g * x) u)]).length - 1 = cs.length := by rw [len_snoc]; omega
      have dq : ((Rat.divInt (ti + g) u, Rat.divInt (va + g * x) u).2 - vv cs (cs.length - 1)) / ((Rat.divInt (ti + g) u, Rat.divInt (va + g * x) u).1 - tt cs (cs.length - 1)) = (x : Rat) := div_of (by show Rat.divInt (va + g * x) u - _ = (x : Rat) * (Rat.divInt (ti + g) u - _); rw [onl2]; grind) (by show Rat.divInt (ti + g) u - _ ≠ 0; grind)
      have dxy : (x : Rat) ≠ ((cell sl ((n + 1 : Nat) : Int) : Int) : Rat) := fun z => dx ((Rat.intCast_inj.mp z).symm.trans ecx.symm)
      refine ⟨_, _, cs ++ [(Rat.divInt (ti + g) u, Rat.divInt (va + g * x) u)], _, _, by rw [List.map_append]; rfl, o2, ⟨zl.snoc dq zs1 ?_, ?_, ?_, bd.snoc oc.ne dq dxy⟩, by rw [len_snoc]; omega, by rw [ln, tt_r]; exact Rat.le_refl, by rw [ln, vv_r]; exact Rat.le_refl, by omega, by omega, by omega, by omega⟩
      · show Sz 44 (Rat.divInt (va + g * x) u - ((cell sl ((n + 1 : Nat) : Int) : Int) : Rat) * Rat.divInt (ti + g) u)
        have ic := ic_step (v := va + g * x) (y := cell sl ((n + 1 : Nat) : Int)) (t := ti + g) (u := u) (p := 1) u0 (by decide)
        rw [Int.mul_one, int_div] at ic
        rw [ic]
        have m3 : cell sl ((n + 1 : Nat) : Int) * (ti + g) ≤ 1000000 * 3000003 := Int.mul_le_mul sn1.2 (by omega) (by omega) (by decide)
        have m4 : 0 ≤ cell sl ((n + 1 : Nat) : Int) * (ti + g) := Int.mul_nonneg sn1.1 (by omega)
        have m2 : (cell sl ((n + 1 : Nat) : Int) * (ti + g)).natAbs < 2 ^ 43 := by omega
        exact sz_of u0 (sub_lt vb m2) (up_lt ub (by decide))
      · intro i hi
        rw [len_snoc] at hi
        by_cases e : i < cs.length
        · rw [tt_l e]; exact zt i e
        · have : i = cs.length := by omega
          subst this
          rw [tt_r]
          exact sz_of u0 tb (up_lt ub (by decide))
      · rw [ln, tt_r, vv_r]
        show Rat.divInt (va + g * x) u = Rat.divInt (va + g * x) u + _ * (Rat.divInt (ti + g) u - Rat.divInt (ti + g) u)
        grind
    · have ne : cell sl ((n + 1 : Nat) : Int) = x := ne.trans ecx
      exact ⟨_, _, cs, _, _, rfl, oc, ⟨by rw [ne]; exact zl, zt, by rw [ne]; exact onl2, by rw [ne]; exact bd⟩, by omega, by grind, by grind, by omega, by omega, by omega, by omega⟩
  rintro τ ⟨ti, va, cs, y7, y8, rfl, oc, ⟨zl, zt, onl, bd⟩, lc, ht, hv, t0, t1, v0, v1⟩
  have eN : ((((sl.map D.int).length : Nat) : Int) - 1).toNat = sl.length - 1 := by rw [List.length_map]; omega
  rw [eN] at lc zl bd
  have bx := s9 (sl.length - 1) (by omega)
  refine atR (at_cell_last (ms := sl) (by omega)) ?_
  refine ⟨(by show 2 ≤ 1000; decide), (by show 2 ≤ 1000; decide), ?_⟩
  exact q cs _ ⟨⟨oc, Rat.intCast_nonneg.mpr bx.1⟩, zl.ls oc zt, by omega, ⟨oc.ne, oc.t0, oc.v0, Rat.intCast_nonneg.mpr bx.1, oc.up, oc.vu, bd⟩, rfl⟩
theorem sc__law_start_by : FnScope ["_law_head"] ["_law_head"] (defScope s__law_start_by) := ⟨rfl, rfl, rfl, by decide +kernel, rfl, by decide +kernel, by decide +kernel⟩
set_option maxHeartbeats 4000000 in
theorem ok__law_start_by (F : Fun K "_law_start_by" "_law_start_by" s__law_start_by f fd) : FnOk P w K mg base CX0 1 f fd ["_law_head"] (liftSp K mg sp__law_start_by) := by
  refine fn3 F sc__law_start_by (fun ss R U h => ?_) (fun cdv A outer s H E ss R U hr h => ?_)
  · unfold sp__law_start_by at h; obtain ⟨c, rfl, _⟩ := h; rfl
  obtain ⟨c, rfl, q⟩ := h
  refine ⟨_, (ss_cons (s_if (w_cmp o_eq (v_op o_mod (v_var (pv 0)) v_int) v_int (nomark _)) (ss_one (s_ret (v_op o_mod (v_op o_fdiv (v_var (pv 0)) v_int) (v_op o_pow v_int v_int)))) ss_nil)
      (ss_cons (s_if (w_cmp o_eq (v_op o_mod (v_var (pv 0)) v_int) v_int (nomark _)) (ss_one (s_ret (v_op o_mod (v_op o_fdiv (v_var (pv 0)) v_int) v_int))) ss_nil)
      (ss_one (s_ret v_int)))), ?_⟩
  have p9 : (10 : Int) ^ (9 : Int).toNat = 1000000000 := by decide
  have f := fm (a := c.fdiv 9) (show (0 : Int) < 10 ^ (9 : Int).toNat by decide)
  have f30 := fm (a := c.fdiv 9) (show (0 : Int) < 30 by decide)
  refine ⟨by decide, ?_⟩
  refine iteD (fun _ => ⟨⟨by decide, noPy2 (by decide)⟩, ⟨by decide, by decide, by decide⟩, by decide, q _ f.1 (by rw [p9] at f ⊢; exact f.2)⟩) (fun _ => ?_)
  refine ⟨by decide, ?_⟩
  exact iteD (fun _ => ⟨⟨by decide, noPy2 (by decide)⟩, by decide, q _ f30.1 (by omega)⟩) (fun _ => q 0 (by decide) (by decide))
theorem sc__law_curve_by : FnScope ["_law_script", "_law_begin", "_law_head", "_law_cells", "_law_slopes"] ["_law_script", "_law_begin"] (defScope s__law_curve_by) := ⟨rfl, rfl, rfl, by decide +kernel, rfl, by decide +kernel, by decide +kernel⟩
set_option maxHeartbeats 4000000 in
theorem ok__law_curve_by (F : Fun K "_law_curve_by" "_law_curve_by" s__law_curve_by f fd) (C__law_cell_at : Cal P w K mg base (CXU P w) 1 "_law_cell_at" ["_law_script", "_law_k"] sp__law_cell_at) (C__law_slopes_by : Cal P w K mg base (CXU P w) 1 "_law_slopes_by" ["_law_cells", "_law_shape"] sp__law_slopes_by) (C__law_drawn : Cal P w K mg base (CXU P w) 2 "_law_drawn" ["_law_cells", "_law_slopes", "_law_start", "_law_unit"] sp__law_drawn) (C__law_start_by : Cal P w K mg base (CXU P w) 1 "_law_start_by" ["_law_head"] sp__law_start_by) (z_range : mg "range" = none) : FnOk P w K mg base CX0 3 f fd ["_law_script", "_law_begin"] (liftSp K mg sp__law_curve_by) := by
  refine fn3 F sc__law_curve_by (fun ss R U h => ?_) (fun cdv A outer s H E ss R U hr h => ?_)
  · unfold sp__law_curve_by at h; obtain ⟨ns, b, rfl, _⟩ := h; rfl
  obtain ⟨ns, b, rfl, b0, b1, q⟩ := h
  refine ⟨_, (ss_cons (s_set (i := 2) sc__law_curve_by.nd rfl (Or.inl rfl) (v_callU exok_no C__law_cell_at (hr.mono (by decide)) rfl (a_cons (v_var (pv 0)) (a_cons (v_var (pv 1)) a_nil))))
      (ss_cons (s_setC (i := 3) (N := ["_law_k", "_law_script", "_law_begin"]) (idx := [0, 1]) (CompOk.mk' (defScope s__law_curve_by) ["_law_script", "_law_begin", "_law_head", "_law_cells", "_law_slopes"] rfl rfl (by decide +kernel)) rfl (pi_range1 rfl z_range (PA3.out (a_cons (v_op o_add v_int (v_op o_mod (v_op o_fdiv (v_var (pv 2)) v_int) v_int)) a_nil))) src_rng1 (fun cl C s₀ H₀ fp => ifs_nil) (fun cl C s₀ H₀ fp => (v_callU exok_no C__law_cell_at (hr.mono (by decide)) rfl (a_cons (v_var (pv 1)) (a_cons (v_op o_add (v_op o_add (v_var (pv 2)) v_int) (v_var (pv 0))) a_nil)))) sc__law_curve_by.nd rfl (Or.inl rfl))
      (ss_cons (s_set (i := 4) sc__law_curve_by.nd rfl (Or.inl rfl) (v_callU exok_no C__law_slopes_by (hr.mono (by decide)) rfl (a_cons (v_var (pv 3)) (a_cons (v_op o_mod (v_op o_fdiv (v_var (pv 2)) v_int) v_int) a_nil))))
      (ss_one (s_ret (v_callU exok_no C__law_drawn (hr.mono (by decide)) rfl (a_cons (v_var (pv 3)) (a_cons (v_var (pv 4)) (a_cons (v_callU exok_no C__law_start_by (hr.mono (by decide)) rfl (a_cons (v_var (pv 2)) a_nil)) (a_cons (v_op o_add v_int (v_op o_mod (v_op o_fdiv (v_var (pv 2)) v_int) v_int)) a_nil)))))))))), ?_⟩
  have f4 := fm (a := (cl ns b).fdiv 2) (show (0 : Int) < 4 by decide)
  have f3 := fm (a := (cl ns b).fdiv 8) (show (0 : Int) < 3 by decide)
  have f5 := fm (a := (cl ns b).fdiv 24) (show (0 : Int) < 5 by decide)
  refine ⟨ns, b, rfl, b0, by omega, ?_⟩
  refine ⟨⟨by decide, noPy2 (by decide)⟩, by decide, ⟨by omega, by omega⟩, ?_⟩
  generalize ec : (1 + ((cl ns b).fdiv 2).fmod 4).toNat = cnt
  have hc : 0 < cnt ∧ cnt ≤ 4 := by omega
  refine ⟨(List.range cnt).map fun (i : Nat) => some (D.int (cl ns (b + 1 + (0 + (i : Int) * 1)))), by rw [rngD_len, List.length_map, List.length_range], ?_, ?_, ?_⟩
  · intro n x hx
    obtain ⟨hn, rfl⟩ := rngD_item hx
    refine ⟨ns, b + 1 + (0 + (n : Int) * 1), rfl, by omega, by omega, ?_⟩
    show ((List.range cnt).map _)[n]? = _
    rw [List.getElem?_map, List.getElem?_range hn]
    rfl
  · rw [rngD_len]; omega
  rw [os_ints]
  have ml : ((List.range cnt).map fun (i : Nat) => cl ns (b + 1 + (0 + (i : Int) * 1))).length = cnt := by rw [List.length_map, List.length_range]
  generalize (List.range cnt).map (fun (i : Nat) => cl ns (b + 1 + (0 + (i : Int) * 1))) = ms at ml ⊢
  refine ⟨⟨by decide, noPy2 (by decide)⟩, by decide, ?_⟩
  refine ⟨ms, _, rfl, by omega, fun sl el bs => ?_⟩
  refine ⟨_, rfl, fun st s0 s1 => ?_⟩
  refine ⟨⟨by decide, noPy2 (by decide)⟩, by decide, ?_⟩
  exact ⟨ms, sl, st, _, rfl, by omega, by omega, el, bs, s0, s1, by omega, by omega, q⟩
theorem sc__law_lists : FnScope ["_law_found", "_law_due"] ["_law_found", "_law_due"] (defScope s__law_lists) := ⟨rfl, rfl, rfl, by decide +kernel, rfl, by decide +kernel, by decide +kernel⟩
set_option maxHeartbeats 4000000 in
theorem ok__law_lists (F : Fun K "_law_lists" "_law_lists" s__law_lists f fd) (z_isinstance : mg "isinstance" = none) (z_list : mg "list" = none) : FnOk P w K mg base CX0 1 f fd ["_law_found", "_law_due"] (liftSp K mg sp__law_lists) := by
  refine fn3 F sc__law_lists (fun ss R U h => ?_) (fun cdv A outer s H E ss R U hr h => ?_)
  · unfold sp__law_lists at h; obtain ⟨xs, y, rfl, _⟩ := h; rfl
  obtain ⟨xs, y, rfl, hy, q⟩ := h
  refine ⟨_, (ss_one (s_ret (v_and (v_isi .list (v_var (pv 0)) rfl z_isinstance rfl z_list PyProof.Rows.boot_list) (v_one (v_eqL 4 (hu1 hr (by decide)) (v_var (pv 0)) (v_var (pv 1))))))), ?_⟩
  have dpa : (xs.map cD).all (depOk 4) = true := by
    rw [List.all_eq_true]
    intro x hx
    obtain ⟨f, _, rfl⟩ := List.mem_map.mp hx
    exact dep_crv f.1 f.2
  rcases hy with rfl | rfl
  all_goals
    refine ⟨trivial, dpa, dpa, ?_⟩
    show R (.d (.bl (eqL 4 (xs.map cD) (xs.map cD))))
    rw [eqL_refl 4 _ dpa]
    exact q
theorem sc_law : FnScope ["_law_script", "_law_many", "_law_place", "_law_offer", "_law_comings", "_law_none", "_law_found", "_law_kept", "_law_cells", "_law_two", "_law_both", "_law_row"] ["_law_script"] (defScope s_law) := ⟨rfl, rfl, rfl, by decide +kernel, rfl, by decide +kernel, by decide +kernel⟩
set_option maxHeartbeats 4000000 in
theorem ok_law (F : Fun K "law" "law" s_law f fd) (C__law_curve_by : Cal P w K mg base (CXU P w) 3 "_law_curve_by" ["_law_script", "_law_begin"] sp__law_curve_by) (C_shared : Cal P w K mg base (CXU P w) 12 "shared" ["comings", "offer"] sp_shared) (C__law_lists : Cal P w K mg base (CXU P w) 1 "_law_lists" ["_law_found", "_law_due"] sp__law_lists) (C__law_cell_at : Cal P w K mg base (CXU P w) 1 "_law_cell_at" ["_law_script", "_law_k"] sp__law_cell_at) (C_total : Cal P w K mg base (CXU P w) 15 "total" ["curves"] sp_total) (C_served : Cal P w K mg base (CXU P w) 11 "served" ["coming", "offer"] sp_served) (C_summed : Cal P w K mg base (CXU P w) 9 "summed" ["f", "g"] sp_summed) (z_list : mg "list" = none) (z_range : mg "range" = none) (z_isinstance : mg "isinstance" = none) (z_len : mg "len" = none) : FnOk P w K mg base CX0 16 f fd ["_law_script"] (liftSp K mg sp_law) := by
  refine fn3 F sc_law (fun ss R U h => ?_) (fun cdv A outer s H E ss R U hr h => ?_)
  · obtain ⟨ns, rfl, _⟩ := h; rfl
  obtain ⟨ns, rfl, hl, q⟩ := h
  refine ⟨_, (ss_cons (s_set (i := 1) sc_law.nd rfl (Or.inl rfl) (v_op o_mod (v_callU exok_no C__law_cell_at (hr.mono (by decide)) rfl (a_cons (v_var (pv 0)) (a_cons v_int a_nil))) v_int))
      (ss_cons (s_set (i := 2) sc_law.nd rfl (Or.inl rfl) (v_op o_fdiv (v_callU exok_no C__law_cell_at (hr.mono (by decide)) rfl (a_cons (v_var (pv 0)) (a_cons v_int a_nil))) v_int))
      (ss_cons (s_set (i := 3) sc_law.nd rfl (Or.inl rfl) (v_callU exok_no C__law_curve_by (hr.mono (by decide)) rfl (a_cons (v_var (pv 0)) (a_cons v_int a_nil))))
      (ss_cut (s_setCJ (i := 4) (N := ["_law_k", "_law_script"]) (idx := [0]) (CompOk.mk' (defScope s_law) ["_law_script", "_law_many", "_law_place", "_law_offer", "_law_comings", "_law_none", "_law_found", "_law_kept", "_law_cells", "_law_two", "_law_both", "_law_row"] rfl rfl (by decide +kernel)) rfl (pi_range1 rfl z_range (PA3.out (a_cons (v_var (pv 1)) a_nil))) src_rng1 (fun cl C s₀ H₀ fp => ifs_nil) (fun cl C s₀ H₀ fp => (v_callU exok_no C__law_curve_by (hr.mono (by decide)) rfl (a_cons (v_var (pv 1)) (a_cons (v_op o_add v_int (v_op o_mul v_int (v_var (pv 0)))) a_nil)))) sc_law.nd rfl (Or.inl rfl))
      (ss_cut (s_if (w_cmp o_eq (v_op o_mod (v_callU exok_no C__law_cell_at (hr.mono (by decide)) rfl (a_cons (v_var (pv 0)) (a_cons v_int a_nil))) v_int) v_int (nomark _)) (ss_cons (s_set (i := 1) sc_law.nd rfl (Or.inl rfl) (v_op o_mod (v_callU exok_no C__law_cell_at (hr.mono (by decide)) rfl (a_cons (v_var (pv 0)) (a_cons v_int a_nil))) v_int))
      (ss_cons (s_setCJ (i := 8) (N := ["_law_k", "_law_script"]) (idx := [0]) (CompOk.mk' (defScope s_law) ["_law_script", "_law_many", "_law_place", "_law_offer", "_law_comings", "_law_none", "_law_found", "_law_kept", "_law_cells", "_law_two", "_law_both", "_law_row"] rfl rfl (by decide +kernel)) rfl (pi_range1 rfl z_range (PA3.out (a_cons (v_var (pv 1)) a_nil))) src_rng1 (fun cl C s₀ H₀ fp => ifs_nil) (fun cl C s₀ H₀ fp => (v_op o_mod (v_op o_mul (v_callU exok_no C__law_cell_at (hr.mono (by decide)) rfl (a_cons (v_var (pv 1)) (a_cons (v_op o_add v_int (v_var (pv 0))) a_nil))) v_int) v_int)) sc_law.nd rfl (Or.inl rfl))
      (ss_one (s_setCJ (i := 4) (N := ["_law_cell"]) (idx := []) (CompOk.mk' (defScope s_law) ["_law_script", "_law_many", "_law_place", "_law_offer", "_law_comings", "_law_none", "_law_found", "_law_kept", "_law_cells", "_law_two", "_law_both", "_law_row"] rfl rfl (by decide +kernel)) rfl (pi_seq (PE3.out (v_var (pv 8)))) src_seq (fun cl C s₀ H₀ fp => ifs_nil) (fun cl C s₀ H₀ fp => (v_tup (a_cons (v_tup (a_cons (v_tup (a_cons (v_tup (a_cons v_int (a_cons v_int a_nil))) (a_cons (v_tup (a_cons (v_op o_mod (v_var (pv 0)) v_int) (a_cons v_int a_nil))) a_nil))) a_nil)) (a_cons (v_tup (a_cons (v_op o_mod (v_op o_fdiv (v_var (pv 0)) v_int) v_int) (a_cons v_int a_nil))) a_nil)))) sc_law.nd rfl (Or.inl rfl))))) ss_nil)
      (ss_cons (s_set (i := 5) sc_law.nd rfl (Or.inl rfl) (v_tup (a_cons (v_tup (a_cons (v_tup (a_cons (v_tup (a_cons v_int (a_cons v_int a_nil))) (a_cons (v_tup (a_cons v_int (a_cons v_int a_nil))) a_nil))) a_nil)) (a_cons (v_tup (a_cons v_int (a_cons v_int a_nil))) a_nil))))
      (ss_cut (s_set (i := 6) sc_law.nd rfl (Or.inl rfl) (v_callU exok_no C_shared (hr.mono (by decide)) rfl (a_cons (v_listOf (v_var (pv 4)) rfl z_list) (a_cons (v_var (pv 3)) a_nil))))
      (ss_gd (s_if (PW3.pt (w_or (w_not (w_val (v_isi .list (v_var (pv 6)) rfl z_isinstance rfl z_list PyProof.Rows.boot_list))) (w_or1 (w_cmp o_ne (v_callB b_len rfl z_len PySem.boot_len (a_cons (v_var (pv 6)) a_nil)) (v_var (pv 1)) (nomark _))))) (ss_one (s_ret v_bl)) ss_nil)
      (ss_cons (s_set (i := 7) sc_law.nd rfl (Or.inl rfl) (v_listOf (v_var (pv 6)) rfl z_list))
      (ss_cons (s_if (w_cmp (o_neT 4 (hu_ hr (by decide))) (v_callU exok_no C_total (hr.mono (by decide)) rfl (a_cons (v_var (pv 6)) a_nil)) (v_callU exok_no C_served (hr.mono (by decide)) rfl (a_cons (v_callU exok_no C_total (hr.mono (by decide)) rfl (a_cons (v_listOf (v_var (pv 4)) rfl z_list) a_nil)) (a_cons (v_var (pv 3)) a_nil))) (nomark _)) (ss_one (s_ret v_bl)) ss_nil)
      (ss_cut (s_set (i := 2) sc_law.nd rfl (Or.inl rfl) (v_op o_mod (v_var (pv 2)) (v_op o_add (v_var (pv 1)) v_int)))
      (ss_cons (s_if (w_not (w_val (v_callU exok_no C__law_lists (hr.mono (by decide)) rfl (a_cons (v_callU exok_no C_shared (hr.mono (by decide)) rfl (a_cons (v_sl (v_var (pv 4)) p_no (p_yes (v_var (pv 2)))) (a_cons (v_var (pv 3)) a_nil))) (a_cons (v_sl (v_var (pv 7)) p_no (p_yes (v_var (pv 2)))) a_nil))))) (ss_one (s_ret v_bl)) ss_nil)
      (ss_cons (s_if (w_not (w_val (v_callU exok_no C__law_lists (hr.mono (by decide)) rfl (a_cons (v_callU exok_no C_shared (hr.mono (by decide)) rfl (a_cons (v_opA o_cat (v_opA o_cat (v_sl (v_var (pv 4)) p_no (p_yes (v_var (pv 2)))) (v_lst (a_cons (v_var (pv 5)) a_nil))) (v_sl (v_var (pv 4)) (p_yes (v_var (pv 2))) p_no)) (a_cons (v_var (pv 3)) a_nil))) (a_cons (v_opA o_cat (v_opA o_cat (v_sl (v_var (pv 7)) p_no (p_yes (v_var (pv 2)))) (v_lst (a_cons (v_var (pv 5)) a_nil))) (v_sl (v_var (pv 7)) (p_yes (v_var (pv 2))) p_no)) a_nil))))) (ss_one (s_ret v_bl)) ss_nil)
      (ss_cut (s_if (w_cmp o_lt (v_op o_add (v_var (pv 2)) v_int) (v_var (pv 1)) (nomark _)) (ss_cons (s_set (i := 9) sc_law.nd rfl (Or.inl rfl) (v_callU exok_no C_summed (hr.mono (by decide)) rfl (a_cons (v_ix (v_var (pv 4)) (v_var (pv 2)) (fun _ _ => rfl)) (a_cons (v_ix (v_var (pv 4)) (v_op o_add (v_var (pv 2)) v_int) (fun _ _ => rfl)) a_nil))))
      (ss_cons (s_set (i := 10) sc_law.nd rfl (Or.inl rfl) (v_callU exok_no C_summed (hr.mono (by decide)) rfl (a_cons (v_ix (v_var (pv 7)) (v_var (pv 2)) (fun _ _ => rfl)) (a_cons (v_ix (v_var (pv 7)) (v_op o_add (v_var (pv 2)) v_int) (fun _ _ => rfl)) a_nil))))
      (ss_cons (s_set (i := 11) sc_law.nd rfl (Or.inl rfl) (v_opA o_cat (v_opA o_cat (v_sl (v_var (pv 4)) p_no (p_yes (v_var (pv 2)))) (v_lst (a_cons (v_var (pv 9)) a_nil))) (v_sl (v_var (pv 4)) (p_yes (v_op o_add (v_var (pv 2)) v_int)) p_no)))
      (ss_one (s_if (w_not (w_val (v_callU exok_no C__law_lists (hr.mono (by decide)) rfl (a_cons (v_callU exok_no C_shared (hr.mono (by decide)) rfl (a_cons (v_var (pv 11)) (a_cons (v_var (pv 3)) a_nil))) (a_cons (v_opA o_cat (v_opA o_cat (v_sl (v_var (pv 7)) p_no (p_yes (v_var (pv 2)))) (v_lst (a_cons (v_var (pv 10)) a_nil))) (v_sl (v_var (pv 7)) (p_yes (v_op o_add (v_var (pv 2)) v_int)) p_no)) a_nil))))) (ss_one (s_ret v_bl)) ss_nil))))) ss_nil)
      (ss_cons (s_clear (ps_expr (pe_bm0 PySem.F.plainAttrs_list PySem.F.slot_list_clear PySem.F.type_list_clear mt_clear (pv 6))))
      (ss_one (s_ret (v_callU exok_no C__law_lists (hr.mono (by decide)) rfl (a_cons (v_callU exok_no C_shared (hr.mono (by decide)) rfl (a_cons (v_listOf (v_var (pv 4)) rfl z_list) (a_cons (v_var (pv 3)) a_nil))) (a_cons (v_var (pv 7)) a_nil)))))))))))))))))))), ?_⟩
  have f4 := fm (a := cl ns 1) (show (0 : Int) < 4 by decide)
  have f13 := fm (a := cl ns 1) (show (0 : Int) < 13 by decide)
  refine ⟨ns, 1, rfl, by decide, by decide, by decide, ?_⟩
  refine ⟨ns, 0, rfl, by decide, by decide, ⟨by decide, noPy2 (by decide)⟩, ?_⟩
  refine ⟨ns, 2, rfl, by decide, by decide, fun cs m hk => ?_⟩
  generalize (cl ns 0).fdiv 6 = pl
  refine ⟨fun τ => ∃ (fs : List (Cs × Rat)) (mn' : Int), τ = [some (.r (ns.map D.int)), I mn', I pl, some (.d (crv cs m)), some (.l (fs.map cD)), none, none, none, none, none, none, none] ∧ (fs.length : Int) = mn' ∧ fs.length ≤ 3 ∧ ∀ f ∈ fs, K4 f.1 f.2, ?_, ?_⟩
  · generalize (cl ns 1).fmod 4 = mn' at f4 ⊢
    refine ⟨⟨by omega, by omega⟩, ?_⟩
    refine ⟨fun n ds => ∃ fs : List (Cs × Rat), ds = fs.map cD ∧ fs.length = n ∧ ∀ f ∈ fs, K4 f.1 f.2, ⟨[], rfl, rfl, fun f hf => by cases hf⟩, ?_, ?_, ?_, ?_⟩
    · rintro n ds ⟨fs, rfl, l, _⟩
      rw [List.length_map]; omega
    · rintro n x ds hx ⟨fs, rfl, l, h⟩
      obtain ⟨hn, rfl⟩ := rngD_item hx
      refine ⟨mulOk (m := 4) (n := 4) (by decide) (by omega) (by decide), ?_⟩
      refine ⟨ns, _, rfl, by omega, by omega, fun C M hk => ⟨fs ++ [(C, M)], by rw [List.map_append]; rfl, by rw [List.length_append, l]; rfl, fun f hf => ?_⟩⟩
      rcases List.mem_append.mp hf with hf | hf
      · exact h f hf
      · rw [List.mem_singleton.mp hf]; exact hk
    · rw [rngD_len]; omega
    · rintro ds ⟨fs, rfl, l, h⟩
      rw [rngD_len] at l
      exact ⟨fs, mn', rfl, by omega, by omega, h⟩
  rintro τ ⟨fs, mn', rfl, fl, f3, hf⟩
  refine ⟨fun τ => ∃ (fs : List (Cs × Rat)) (mn' : Int) (y8 : Option S) (b c : Nat), τ = [some (.r (ns.map D.int)), I mn', I pl, some (.d (crv cs m)), some (.l (fs.map cD)), none, none, none, y8, none, none, none] ∧ (fs.length : Int) = mn' ∧ CM fs b c, ?_, ?_⟩
  · refine ⟨ns, 0, rfl, by decide, by decide, by decide, ?_⟩
    refine iteD (fun _ => ?_) (fun _ => ⟨fs, mn', _, 21, 44, rfl, fl, cm_drawn f3 hf⟩)
    refine ⟨ns, 1, rfl, by decide, by decide, by decide, ?_⟩
    generalize (cl ns 1).fmod 13 = mx' at f13 ⊢
    refine ⟨⟨by omega, by omega⟩, ?_⟩
    refine ⟨fun n ds => ∃ ms : List Int, ds = ms.map D.int ∧ ms.length = n, ⟨[], rfl, rfl⟩, ?_, ?_, ?_, ?_⟩
    · rintro n ds ⟨ms, rfl, l⟩
      rw [List.length_map]; omega
    · rintro n x ds hx ⟨ms, rfl, l⟩
      obtain ⟨hn, rfl⟩ := rngD_item hx
      refine ⟨ns, _, rfl, by omega, by omega, PySem.IntMulOk.of_right (by decide), by decide, ?_⟩
      exact ⟨ms ++ [_], by rw [List.map_append]; rfl, by rw [List.length_append, l]; rfl⟩
    · rw [rngD_len]; omega
    rintro ds ⟨ms, rfl, l⟩
    rw [rngD_len] at l
    refine ⟨fun n ds => ∃ fs : List (Cs × Rat), ds = fs.map cD ∧ fs.length = n ∧ ∀ f ∈ fs, (Crv f.1 f.2 ∧ LS 23 3 7 f.1 f.2) ∧ f.1.length ≤ 1, ⟨[], rfl, rfl, fun f hf => by cases hf⟩, ?_, ?_, ?_, ?_⟩
    · rintro n ds ⟨fs, rfl, l, _⟩
      rw [List.length_map]; omega
    · rintro n x ds hx ⟨fs, rfl, l, h⟩
      obtain ⟨c, _, rfl⟩ := map_item hx
      have g41 := fm (a := c) (show (0 : Int) < 41 by decide)
      have g4 := fm (a := c.fdiv 41) (show (0 : Int) < 4 by decide)
      refine ⟨(by show 2 ≤ 1000; decide), by decide, (by show 2 ≤ 1000; decide), (by show 2 ≤ 1000; decide), (by show 1 ≤ 1000; decide), ⟨by decide, noPy2 (by decide)⟩, by decide, (by show 2 ≤ 1000; decide), (by show 2 ≤ 1000; decide), ?_⟩
      refine ⟨fs ++ [hpC (c.fmod 41) ((c.fdiv 41).fmod 4)], by rw [List.map_append]; rfl, by rw [List.length_append, l]; rfl, fun f hf => ?_⟩
      rcases List.mem_append.mp hf with hf | hf
      · exact h f hf
      · rw [List.mem_singleton.mp hf]; exact ⟨hpC_ok g41.1 g41.2 g4.1 g4.2, Nat.le_refl _⟩
    · rw [List.length_map]; omega
    · rintro ds ⟨fs, rfl, l2, h⟩
      rw [List.length_map] at l2
      exact ⟨fs, mx', _, 3, 7, rfl, by omega, cm_heaps (by omega) h⟩
  clear fl f3 hf
  clear fs mn'
  rintro τ ⟨fs, mn', y8, b, c, rfl, fl, cm⟩
  have cmn := cm.n
  have cb0 := cm.b0
  have cc0 := cm.c0
  have cms := cm.s
  have kk : fs.length * (b + 1) ≤ 92 := Nat.le_trans (Nat.mul_le_mul_right _ (Nat.le_succ _)) cm.b1
  have kk2 : fs.length * (c + 1) ≤ 184 := Nat.le_trans (Nat.mul_le_mul_right _ (Nat.le_succ _)) cm.c1
  refine ⟨(by show 2 ≤ 1000; decide), (by show 2 ≤ 1000; decide), (by show 2 ≤ 1000; decide), (by show 1 ≤ 1000; decide), (by show 2 ≤ 1000; decide), (by show 2 ≤ 1000; decide), ?_⟩
  refine ⟨fun τ => ∃ (gs : List (Cs × Rat)) (rs : Nat → Cs × Rat), τ = [some (.r (ns.map D.int)), I mn', I pl, some (.d (crv cs m)), some (.l (fs.map cD)), some (.d (cD nC)), some (.l (gs.map cD)), none, y8, none, none, none] ∧ SH cs m fs fs.length gs rs, ?_, ?_⟩
  · exact ⟨_, fs, cs, m, b, c, rfl, Or.inr rfl, hk, cm.f, kk, kk2, by omega, by omega, by omega, by omega, fun gs rs sh => ⟨gs, rs, rfl, sh⟩⟩
  rintro τ ⟨gs, rs, rfl, sh⟩
  have gl := sh.len
  refine ⟨?_, ?_⟩
  · refine ⟨trivial, ?_⟩
    exact iteN (fun c => absurd (by rw [List.length_map]; omega) c) (fun _ => rfl)
  have r0 := hk.1
  refine ⟨_, gs, 715, 231, 739, rfl, Or.inl rfl, by show gs.length ≤ 16; omega, by decide, fun f hf => ?_, fun l hl C M hC v => ?_, fun C1 M1 h1 v1 => ?_⟩
  · obtain ⟨j, hj, rfl⟩ := List.getElem_of_mem hf
    have := sh.gc j (by omega)
    rw [F0_at (List.getElem?_eq_getElem hj)] at this
    exact this
  · have := sh.inf hl hC v
    exact ⟨this.1, by omega⟩
  have fr : ∀ f ∈ fs, Rise f.1 f.2 ∧ LS 23 b c f.1 f.2 := fun f hf => ⟨crv_rise (cm.f f hf).1, (cm.f f hf).2⟩
  have tl : ∀ l : List (Cs × Rat), l <:+: fs → ∀ (C : Cs) (M : Rat), Crv C M → (∀ t, 0 ≤ t → val C M t = sm l t) → LS 23 67 136 C M ∧ C.length ≤ 100 := fun l hl C M hC v => by
    have s := sum_ls (by decide) (fun f hf => fr f (hl.subset hf)) hC v
    have k1 : l.length * (b + 1) ≤ fs.length * (b + 1) := Nat.mul_le_mul_right _ hl.length_le
    have k2 : l.length * (c + 1) ≤ fs.length * (c + 1) := Nat.mul_le_mul_right _ hl.length_le
    have k3 := sumL_infix hl
    have := cm.bt
    have := cm.ct
    exact ⟨s.1.mono (Nat.le_refl _) (by omega) (by omega), by have := s.2; omega⟩
  refine ⟨_, fs, 23, 67, 136, rfl, Or.inr rfl, by show fs.length ≤ 16; omega, by decide, fun f hf => (cm.f f hf).1, tl, fun CB MB h2 v2 => ?_⟩
  obtain ⟨z2, n2⟩ := tl fs (List.infix_refl fs) CB MB h2 v2
  have lr : ∀ (L : Cs) (K : Rat), Crv L K → (∀ t, 0 ≤ t → IsL (gap cs m CB MB) t (val L K t)) → L = (rs fs.length).1 ∧ K = (rs fs.length).2 := fun L K hL vL =>
    crv_ext hL (sh.c _ (Nat.le_refl _)) (fun t t0 => ((vL t t0).cong (fun s s0 _ => by show val cs m s - val CB MB s = val cs m s - sm (fs.take fs.length) s; rw [v2 s s0, List.take_length])).uniq (sh.v _ (Nat.le_refl _) t t0))
  have l4 := hk.2.2.1
  refine ⟨cs, m, CB, MB, 23, 21, 44, 23, 67, 136, 715, 715, 115, 369, rfl, r0, crv_rise h2, hk.2.1, z2, by decide, by decide, by omega, by decide, by decide, by decide, fun L K hL vL => ?_, by decide, by decide, by decide, fun L K C3 M3 hL K0 vL h3 M0 eM v3 z3 n3 => ?_⟩
  · obtain ⟨rfl, rfl⟩ := lr L K hL vL
    exact sh.z _ (Nat.le_refl _)
  obtain ⟨rfl, rfl⟩ := lr L K hL vL
  have e13 : eqN 4 (crv C1 M1) (crv C3 M3) = true := crv_same (crv_ext h1 h3 (fun t t0 => by
    have sg := sh.seg t0 gs 0 (by omega) (fun i _ => by rw [Nat.zero_add])
    rw [v1 t t0, v3 t t0, sg, sh.z0 r0 t0, Nat.zero_add, gl]))
  refine ⟨dep_crv _ _, dep_crv _ _, iteE e13 ?_⟩
  clear v3 z3 n3 h3 e13 h1 v1 lr z2 n2 h2 v2 tl eM M0 vL hL K0
  have fp := fm (a := pl) (m := mn' + 1) (by omega)
  obtain ⟨p, hp, ep⟩ : ∃ p : Nat, p ≤ fs.length ∧ pl.fmod (mn' + 1) = (p : Int) := ⟨(pl.fmod (mn' + 1)).toNat, by omega, by omega⟩
  refine ⟨fun τ => ∃ u : Unit, τ = [some (.r (ns.map D.int)), I mn', I (p : Int), some (.d (crv cs m)), some (.l (fs.map cD)), some (.d (cD nC)), some (.l (gs.map cD)), some (.l (gs.map cD)), y8, none, none, none], ?_, ?_⟩
  · refine ⟨by omega, (), ?_⟩
    rw [← ep]
    rfl
  rintro τ ⟨_, rfl⟩
  have gp : p ≤ gs.length := by omega
  have cl1 := cut_lc (fs := fs) (i := (p : Int)) rfl hp
  have cl2 := cut_lc (fs := gs) (i := (p : Int)) rfl gp
  have cr1 := cut_rc (fs := fs) (i := (p : Int)) rfl hp
  have cr2 := cut_rc (fs := gs) (i := (p : Int)) rfl gp
  refine ⟨_, fs.take p, cs, m, b, c, congrArg (fun z => [S.d (.lst z), S.d (crv cs m)]) cl1, Or.inr rfl, hk, fun f hf => cm.f f (List.mem_of_mem_take hf), ?_, ?_, by omega, by omega, ?_, ?_, fun gs1 rs1 sh1 => ?_⟩
  · exact Nat.le_trans (Nat.mul_le_mul_right _ (List.length_take_le' p fs)) kk
  · exact Nat.le_trans (Nat.mul_le_mul_right _ (List.length_take_le' p fs)) kk2
  · have := sumL_take fs p; omega
  · have := List.length_take_le' p fs; omega
  have lp : (fs.take p).length = p := by rw [List.length_take]; omega
  rw [lp] at sh1
  have e1 := sh.pre hp sh1
  subst e1
  refine ⟨gs.take p, _, rfl, Or.inr (congrArg (fun z => S.d (.lst z)) cl2), ?_⟩
  clear sh1
  have eI : cutD (fs.map cD) none (some (p : Int)) ++ [cD nC] ++ cutD (fs.map cD) (some (p : Int)) none = (fs.take p ++ [nC] ++ fs.drop p).map cD := by rw [cl1, cr1, ins_map]
  have eG : cutD (gs.map cD) none (some (p : Int)) ++ [cD nC] ++ cutD (gs.map cD) (some (p : Int)) none = (gs.take p ++ [nC] ++ gs.drop p).map cD := by rw [cl2, cr2, ins_map]
  have cN : ∀ (xs : List (Cs × Rat)) (f : Cs × Rat) (q : Nat), (fs.take p).length + 1 + (fs.drop q).length ≤ 100 := fun xs f q => by rw [List.length_take, List.length_drop]; omega
  refine ⟨(by show 1 ≤ 1000; decide), ?_⟩
  refine ⟨by rw [cl1, List.length_map, List.length_take]; show min p fs.length + 1 ≤ _; omega, ?_⟩
  refine ⟨by rw [cl1, cr1, List.length_append, List.length_map, List.length_map, List.length_take, List.length_drop]; show min p fs.length + 1 + (fs.length - p) ≤ _; omega, ?_⟩
  have il := ins_len (fs := fs) (p := p) (q := p) (f := nC) hp
  have isu := ins_sum (fs := fs) (p := p) (q := p) (f := nC) (Nat.le_refl p)
  refine ⟨_, fs.take p ++ [nC] ++ fs.drop p, cs, m, b, c, congrArg (fun z => [S.d (.lst z), S.d (crv cs m)]) eI, Or.inr rfl, hk, fun f hf => ?_, ?_, ?_, by omega, by omega, ?_, ?_, fun gs2 rs2 sh2 => ?_⟩
  · rcases ins_mem hf with h | rfl
    · exact cm.f f h
    · exact ⟨nought_crv, nought_ls.mono (by decide) cm.b9 cm.c9⟩
  · rw [il, show p + 1 + (fs.length - p) = fs.length + 1 by omega]; exact cm.b1
  · rw [il, show p + 1 + (fs.length - p) = fs.length + 1 by omega]; exact cm.c1
  · have : nC.1.length = 1 := rfl
    omega
  · omega
  have e2 := sh.ins (p := p) (q := p) (f := nC) (g := nC) (Nat.le_refl p) hp (fun t t0 => by show sm _ t + val [(0, 0)] 0 t = _; rw [nought_val t0]; grind) nought_crv (fun t t0 => by show val [(0, 0)] 0 t = _; rw [nought_val t0]; grind) il sh2
  subst e2
  clear sh2 il isu
  refine ⟨(by show 1 ≤ 1000; decide), ?_⟩
  refine ⟨by rw [cl2, List.length_map, List.length_take]; show min p gs.length + 1 ≤ _; omega, ?_⟩
  refine ⟨by rw [cl2, cr2, List.length_append, List.length_map, List.length_map, List.length_take, List.length_drop]; show min p gs.length + 1 + (gs.length - p) ≤ _; omega, ?_⟩
  refine ⟨gs.take p ++ [nC] ++ gs.drop p, _, rfl, Or.inr (congrArg (fun z => S.d (.lst z)) eG), ?_⟩
  clear eI eG
  refine ⟨fun τ => ∃ (y9 y10 y11 : Option S), τ = [some (.r (ns.map D.int)), I mn', I (p : Int), some (.d (crv cs m)), some (.l (fs.map cD)), some (.d (cD nC)), some (.l (gs.map cD)), some (.l (gs.map cD)), y8, y9, y10, y11], ?_, ?_⟩
  · refine iteD (fun c2 => ?_) (fun _ => ⟨_, _, _, rfl⟩)
    have p1 : p + 1 < fs.length := by omega
    have g1 : p + 1 < gs.length := by omega
    obtain ⟨a1, m1⟩ := at_cD2 (fs := fs) (i := (p : Int)) p rfl (by omega)
    obtain ⟨a2, m2⟩ := at_cD2 (fs := fs) (i := (p : Int) + 1) (p + 1) (by omega) p1
    obtain ⟨a3, m3⟩ := at_cD2 (fs := gs) (i := (p : Int)) p rfl (by omega)
    obtain ⟨a4, m4⟩ := at_cD2 (fs := gs) (i := (p : Int) + 1) (p + 1) (by omega) g1
    have q1 := cm.f _ m1
    have q2 := cm.f _ m2
    have tsm := two_sm (fs := fs) p1
    have tln := two_len (fs := fs) p1
    have sl2 : sumL ((fs.drop p).take (p + 2 - p)) ≤ sumL fs := sumL_infix ((List.take_prefix _ _).isInfix.trans (List.drop_suffix _ _).isInfix)
    refine atR a1 ?_
    refine atR a2 ?_
    refine ⟨(F0 fs p).1, (F0 fs p).2, (F0 fs (p + 1)).1, (F0 fs (p + 1)).2, 23, b + b + 1, c + c + 1, rfl, crv_rise q1.1, crv_rise q2.1, q1.2.mono (Nat.le_refl _) (by omega) (by omega), q2.2.mono (Nat.le_refl _) (by omega) (by omega), by omega, by omega, fun C M hC hv => (sum2_ls (crv_rise q1.1) (crv_rise q2.1) q1.2 q2.2 hC hv).1, fun C M hC hl' hv => ?_⟩
    have zC := (sum2_ls (crv_rise q1.1) (crv_rise q2.1) q1.2 q2.2 hC hv).1
    refine atR a3 ?_
    refine atR a4 ?_
    have o1 := sh.one (j := p) (by omega)
    have o2 := sh.one (j := p + 1) p1
    refine ⟨(F0 gs p).1, (F0 gs p).2, (F0 gs (p + 1)).1, (F0 gs (p + 1)).2, 715, 231, 739, rfl, crv_rise (sh.gc p (by omega)), crv_rise (sh.gc (p + 1) p1), o1.1, o2.1, by omega, by decide, fun CB MB hCB hv2 => (sh.two p1 hCB hv2).1, fun CB MB hCB _ hv2 => ?_⟩
    have tw := (sh.two p1 hCB hv2).2
    have cr1' := cut_rc (fs := fs) (i := (p : Int) + 2) (p := p + 2) (by omega) (by omega)
    have cr2' := cut_rc (fs := gs) (i := (p : Int) + 2) (p := p + 2) (by omega) (by omega)
    have eI : cutD (fs.map cD) none (some (p : Int)) ++ [cD (C, M)] ++ cutD (fs.map cD) (some ((p : Int) + 2)) none = (fs.take p ++ [(C, M)] ++ fs.drop (p + 2)).map cD := by rw [cl1, cr1', ins_map]
    have eG : cutD (gs.map cD) none (some (p : Int)) ++ [cD (CB, MB)] ++ cutD (gs.map cD) (some ((p : Int) + 2)) none = (gs.take p ++ [(CB, MB)] ++ gs.drop (p + 2)).map cD := by rw [cl2, cr2', ins_map]
    refine ⟨(by show 1 ≤ 1000; decide), ?_⟩
    refine ⟨by rw [cl1, List.length_map, List.length_take]; show min p fs.length + 1 ≤ _; omega, ?_⟩
    refine ⟨by rw [cl1, cr1', List.length_append, List.length_map, List.length_map, List.length_take, List.length_drop]; show min p fs.length + 1 + (fs.length - (p + 2)) ≤ _; omega, ?_⟩
    have il := ins_len (fs := fs) (p := p) (q := p + 2) (f := (C, M)) hp
    have isu := ins_sum (fs := fs) (p := p) (q := p + 2) (f := (C, M)) (by omega)
    have hl' : C.length ≤ (F0 fs p).1.length + (F0 fs (p + 1)).1.length := hl'
    have isu : sumL (fs.take p ++ [(C, M)] ++ fs.drop (p + 2)) + sumL ((fs.drop p).take (p + 2 - p)) = sumL fs + C.length := isu
    refine ⟨_, fs.take p ++ [(C, M)] ++ fs.drop (p + 2), cs, m, b + b + 1, c + c + 1, congrArg (fun z => [S.d (.lst z), S.d (crv cs m)]) eI, Or.inr rfl, hk, fun f hf => ?_, ?_, ?_, by omega, by omega, by omega, by omega, fun gs3 rs3 sh3 => ?_⟩
    · rcases ins_mem hf with h | rfl
      · exact ⟨(cm.f f h).1, (cm.f f h).2.mono (Nat.le_refl _) (by omega) (by omega)⟩
      · exact ⟨hC, zC⟩
    · rw [il, show p + 1 + (fs.length - (p + 2)) = fs.length - 1 by omega]; exact cm.b2
    · rw [il, show p + 1 + (fs.length - (p + 2)) = fs.length - 1 by omega]; exact cm.c2
    have e3 := sh.ins (p := p) (q := p + 2) (f := (C, M)) (g := (CB, MB)) (by omega) (by omega) (fun t t0 => by show _ + val C M t = _; rw [hv t t0]; exact tsm t) hCB tw il sh3
    subst e3
    refine ⟨(by show 1 ≤ 1000; decide), ?_⟩
    refine ⟨by rw [cl2, List.length_map, List.length_take]; show min p gs.length + 1 ≤ _; omega, ?_⟩
    refine ⟨by rw [cl2, cr2', List.length_append, List.length_map, List.length_map, List.length_take, List.length_drop]; show min p gs.length + 1 + (gs.length - (p + 2)) ≤ _; omega, ?_⟩
    refine ⟨gs.take p ++ [(CB, MB)] ++ gs.drop (p + 2), _, rfl, Or.inr (congrArg (fun z => S.d (.lst z)) eG), ?_⟩
    exact ⟨_, _, _, rfl⟩
  rintro τ ⟨y9, y10, y11, rfl⟩
  refine ⟨_, fs, cs, m, b, c, rfl, Or.inr rfl, hk, cm.f, kk, kk2, by omega, by omega, by omega, by omega, fun gs5 rs5 sh5 => ?_⟩
  have e5 := sh.again sh5
  subst e5
  exact ⟨gs5, _, rfl, Or.inl rfl, q⟩
end
theorem all_mk {l : PySem.W.OpenLaw} {w : World} {K : PySem.W.Frag} {h : Heap} {mg : Str → Option Value} {fa f0 f1 f2 f3 f4 f5 f6 f7 f8 f9 f10 f11 f12 f13 f14 f15 f16 f17 f18 f19 f20 f21 f22 f23 f24 f25 f26 f27 f28 f29 f30 f31 f32 f33 f34 f35 f36 f37 f38 f39 : Addr} (X : K.In h) (G : h.Ns mainGlobals mg) (hfa : mg "law" = some (.ref fa))
    {od0 an0 od1 an1 od2 an2 od3 an3 od4 an4 od5 an5 od6 an6 od7 an7 od8 an8 od9 an9 od10 an10 od11 an11 od12 an12 od13 an13 od14 an14 od15 an15 od16 an16 od17 an17 od18 an18 od19 an19 od20 an20 od21 an21 od22 an22 od23 an23 od24 an24 od25 an25 od26 an26 od27 an27 od28 an28 od29 an29 od30 an30 od31 an31 od32 an32 od33 an33 od34 an34 od35 an35 od36 an36 od37 an37 od38 an38 od39 an39 : Option Addr} {sl0 sl1 sl2 sl3 sl4 sl5 sl6 sl7 sl8 sl9 sl10 sl11 sl12 sl13 sl14 sl15 sl16 sl17 sl18 sl19 sl20 sl21 sl22 sl23 sl24 sl25 sl26 sl27 sl28 sl29 sl30 sl31 sl32 sl33 sl34 sl35 sl36 sl37 sl38 sl39 : Array (Option Value)} {oc0 kV0 dc0 pm0 cd0 ct0 oc1 kV1 dc1 pm1 cd1 ct1 oc2 kV2 dc2 pm2 cd2 ct2 oc3 kV3 dc3 pm3 cd3 ct3 oc4 kV4 dc4 pm4 cd4 ct4 oc5 kV5 dc5 pm5 cd5 ct5 oc6 kV6 dc6 pm6 cd6 ct6 oc7 kV7 dc7 pm7 cd7 ct7 oc8 kV8 dc8 pm8 cd8 ct8 oc9 kV9 dc9 pm9 cd9 ct9 oc10 kV10 dc10 pm10 cd10 ct10 oc11 kV11 dc11 pm11 cd11 ct11 oc12 kV12 dc12 pm12 cd12 ct12 oc13 kV13 dc13 pm13 cd13 ct13 oc14 kV14 dc14 pm14 cd14 ct14 oc15 kV15 dc15 pm15 cd15 ct15 oc16 kV16 dc16 pm16 cd16 ct16 oc17 kV17 dc17 pm17 cd17 ct17 oc18 kV18 dc18 pm18 cd18 ct18 oc19 kV19 dc19 pm19 cd19 ct19 oc20 kV20 dc20 pm20 cd20 ct20 oc21 kV21 dc21 pm21 cd21 ct21 oc22 kV22 dc22 pm22 cd22 ct22 oc23 kV23 dc23 pm23 cd23 ct23 oc24 kV24 dc24 pm24 cd24 ct24 oc25 kV25 dc25 pm25 cd25 ct25 oc26 kV26 dc26 pm26 cd26 ct26 oc27 kV27 dc27 pm27 cd27 ct27 oc28 kV28 dc28 pm28 cd28 ct28 oc29 kV29 dc29 pm29 cd29 ct29 oc30 kV30 dc30 pm30 cd30 ct30 oc31 kV31 dc31 pm31 cd31 ct31 oc32 kV32 dc32 pm32 cd32 ct32 oc33 kV33 dc33 pm33 cd33 ct33 oc34 kV34 dc34 pm34 cd34 ct34 oc35 kV35 dc35 pm35 cd35 ct35 oc36 kV36 dc36 pm36 cd36 ct36 oc37 kV37 dc37 pm37 cd37 ct37 oc38 kV38 dc38 pm38 cd38 ct38 oc39 kV39 dc39 pm39 cd39 ct39 : Value}
    {gt_NOUGHT_0}
    {gt_NOUGHT_1}
    {ga_NOUGHT_2 : Addr}
    {gd_NOUGHT_3 : Option Addr}
    {gn_NOUGHT_3 : Nat}
    {gs_NOUGHT_3 : Array (Option Value)}
    {K_NoCurve K_NoTime : Addr}
    (a0 : PySem.W.nsIn K mainGlobals "is_whole" = some (some (.ref f0))) (l0 : K.lookup f0 = some ⟨oc0, od0, .func (PySem.W.fnOf "is_whole" "is_whole" (defArgs s_is_whole) (defBody s_is_whole) (defScope s_is_whole) .none kV0 dc0 pm0 an0 cd0 ct0), sl0⟩) (c0 : PySem.W.codeIn K cd0 "is_whole" = true) (k0 : PySem.W.keepIn K (.ref f0) = true)
    (a1 : PySem.W.nsIn K mainGlobals "divisor" = some (some (.ref f1))) (l1 : K.lookup f1 = some ⟨oc1, od1, .func (PySem.W.fnOf "divisor" "divisor" (defArgs s_divisor) (defBody s_divisor) (defScope s_divisor) .none kV1 dc1 pm1 an1 cd1 ct1), sl1⟩) (c1 : PySem.W.codeIn K cd1 "divisor" = true) (k1 : PySem.W.keepIn K (.ref f1) = true)
    (a2 : PySem.W.nsIn K mainGlobals "ratio" = some (some (.ref f2))) (l2 : K.lookup f2 = some ⟨oc2, od2, .func (PySem.W.fnOf "ratio" "ratio" (defArgs s_ratio) (defBody s_ratio) (defScope s_ratio) .none kV2 dc2 pm2 an2 cd2 ct2), sl2⟩) (c2 : PySem.W.codeIn K cd2 "ratio" = true) (k2 : PySem.W.keepIn K (.ref f2) = true)
    (a3 : PySem.W.nsIn K mainGlobals "plus" = some (some (.ref f3))) (l3 : K.lookup f3 = some ⟨oc3, od3, .func (PySem.W.fnOf "plus" "plus" (defArgs s_plus) (defBody s_plus) (defScope s_plus) .none kV3 dc3 pm3 an3 cd3 ct3), sl3⟩) (c3 : PySem.W.codeIn K cd3 "plus" = true) (k3 : PySem.W.keepIn K (.ref f3) = true)
    (a4 : PySem.W.nsIn K mainGlobals "minus" = some (some (.ref f4))) (l4 : K.lookup f4 = some ⟨oc4, od4, .func (PySem.W.fnOf "minus" "minus" (defArgs s_minus) (defBody s_minus) (defScope s_minus) .none kV4 dc4 pm4 an4 cd4 ct4), sl4⟩) (c4 : PySem.W.codeIn K cd4 "minus" = true) (k4 : PySem.W.keepIn K (.ref f4) = true)
    (a5 : PySem.W.nsIn K mainGlobals "times" = some (some (.ref f5))) (l5 : K.lookup f5 = some ⟨oc5, od5, .func (PySem.W.fnOf "times" "times" (defArgs s_times) (defBody s_times) (defScope s_times) .none kV5 dc5 pm5 an5 cd5 ct5), sl5⟩) (c5 : PySem.W.codeIn K cd5 "times" = true) (k5 : PySem.W.keepIn K (.ref f5) = true)
    (a6 : PySem.W.nsIn K mainGlobals "over" = some (some (.ref f6))) (l6 : K.lookup f6 = some ⟨oc6, od6, .func (PySem.W.fnOf "over" "over" (defArgs s_over) (defBody s_over) (defScope s_over) .none kV6 dc6 pm6 an6 cd6 ct6), sl6⟩) (c6 : PySem.W.codeIn K cd6 "over" = true) (k6 : PySem.W.keepIn K (.ref f6) = true)
    (a7 : PySem.W.nsIn K mainGlobals "under" = some (some (.ref f7))) (l7 : K.lookup f7 = some ⟨oc7, od7, .func (PySem.W.fnOf "under" "under" (defArgs s_under) (defBody s_under) (defScope s_under) .none kV7 dc7 pm7 an7 cd7 ct7), sl7⟩) (c7 : PySem.W.codeIn K cd7 "under" = true) (k7 : PySem.W.keepIn K (.ref f7) = true)
    (a8 : PySem.W.nsIn K mainGlobals "greater" = some (some (.ref f8))) (l8 : K.lookup f8 = some ⟨oc8, od8, .func (PySem.W.fnOf "greater" "greater" (defArgs s_greater) (defBody s_greater) (defScope s_greater) .none kV8 dc8 pm8 an8 cd8 ct8), sl8⟩) (c8 : PySem.W.codeIn K cd8 "greater" = true) (k8 : PySem.W.keepIn K (.ref f8) = true)
    (a9 : PySem.W.nsIn K mainGlobals "check_begin" = some (some (.ref f9))) (l9 : K.lookup f9 = some ⟨oc9, od9, .func (PySem.W.fnOf "check_begin" "check_begin" (defArgs s_check_begin) (defBody s_check_begin) (defScope s_check_begin) .none kV9 dc9 pm9 an9 cd9 ct9), sl9⟩) (c9 : PySem.W.codeIn K cd9 "check_begin" = true) (k9 : PySem.W.keepIn K (.ref f9) = true)
    (a10 : PySem.W.nsIn K mainGlobals "check_rise" = some (some (.ref f10))) (l10 : K.lookup f10 = some ⟨oc10, od10, .func (PySem.W.fnOf "check_rise" "check_rise" (defArgs s_check_rise) (defBody s_check_rise) (defScope s_check_rise) .none kV10 dc10 pm10 an10 cd10 ct10), sl10⟩) (c10 : PySem.W.codeIn K cd10 "check_rise" = true) (k10 : PySem.W.keepIn K (.ref f10) = true)
    (a11 : PySem.W.nsIn K mainGlobals "slope_between" = some (some (.ref f11))) (l11 : K.lookup f11 = some ⟨oc11, od11, .func (PySem.W.fnOf "slope_between" "slope_between" (defArgs s_slope_between) (defBody s_slope_between) (defScope s_slope_between) .none kV11 dc11 pm11 an11 cd11 ct11), sl11⟩) (c11 : PySem.W.codeIn K cd11 "slope_between" = true) (k11 : PySem.W.keepIn K (.ref f11) = true)
    (a12 : PySem.W.nsIn K mainGlobals "slopes_behind" = some (some (.ref f12))) (l12 : K.lookup f12 = some ⟨oc12, od12, .func (PySem.W.fnOf "slopes_behind" "slopes_behind" (defArgs s_slopes_behind) (defBody s_slopes_behind) (defScope s_slopes_behind) .none kV12 dc12 pm12 an12 cd12 ct12), sl12⟩) (c12 : PySem.W.codeIn K cd12 "slopes_behind" = true) (k12 : PySem.W.keepIn K (.ref f12) = true)
    (a13 : PySem.W.nsIn K mainGlobals "curve" = some (some (.ref f13))) (l13 : K.lookup f13 = some ⟨oc13, od13, .func (PySem.W.fnOf "curve" "curve" (defArgs s_curve) (defBody s_curve) (defScope s_curve) .none kV13 dc13 pm13 an13 cd13 ct13), sl13⟩) (c13 : PySem.W.codeIn K cd13 "curve" = true) (k13 : PySem.W.keepIn K (.ref f13) = true)
    (a14 : PySem.W.nsIn K mainGlobals "heap" = some (some (.ref f14))) (l14 : K.lookup f14 = some ⟨oc14, od14, .func (PySem.W.fnOf "heap" "heap" (defArgs s_heap) (defBody s_heap) (defScope s_heap) .none kV14 dc14 pm14 an14 cd14 ct14), sl14⟩) (c14 : PySem.W.codeIn K cd14 "heap" = true) (k14 : PySem.W.keepIn K (.ref f14) = true)
    (a15 : PySem.W.nsIn K mainGlobals "check_time" = some (some (.ref f15))) (l15 : K.lookup f15 = some ⟨oc15, od15, .func (PySem.W.fnOf "check_time" "check_time" (defArgs s_check_time) (defBody s_check_time) (defScope s_check_time) .none kV15 dc15 pm15 an15 cd15 ct15), sl15⟩) (c15 : PySem.W.codeIn K cd15 "check_time" = true) (k15 : PySem.W.keepIn K (.ref f15) = true)
    (a16 : PySem.W.nsIn K mainGlobals "count_while" = some (some (.ref f16))) (l16 : K.lookup f16 = some ⟨oc16, od16, .func (PySem.W.fnOf "count_while" "count_while" (defArgs s_count_while) (defBody s_count_while) (defScope s_count_while) .none kV16 dc16 pm16 an16 cd16 ct16), sl16⟩) (c16 : PySem.W.codeIn K cd16 "count_while" = true) (k16 : PySem.W.keepIn K (.ref f16) = true)
    (a17 : PySem.W.nsIn K mainGlobals "piece_at" = some (some (.ref f17))) (l17 : K.lookup f17 = some ⟨oc17, od17, .func (PySem.W.fnOf "piece_at" "piece_at" (defArgs s_piece_at) (defBody s_piece_at) (defScope s_piece_at) .none kV17 dc17 pm17 an17 cd17 ct17), sl17⟩) (c17 : PySem.W.codeIn K cd17 "piece_at" = true) (k17 : PySem.W.keepIn K (.ref f17) = true)
    (a18 : PySem.W.nsIn K mainGlobals "slope_of_piece" = some (some (.ref f18))) (l18 : K.lookup f18 = some ⟨oc18, od18, .func (PySem.W.fnOf "slope_of_piece" "slope_of_piece" (defArgs s_slope_of_piece) (defBody s_slope_of_piece) (defScope s_slope_of_piece) .none kV18 dc18 pm18 an18 cd18 ct18), sl18⟩) (c18 : PySem.W.codeIn K cd18 "slope_of_piece" = true) (k18 : PySem.W.keepIn K (.ref f18) = true)
    (a19 : PySem.W.nsIn K mainGlobals "value_at" = some (some (.ref f19))) (l19 : K.lookup f19 = some ⟨oc19, od19, .func (PySem.W.fnOf "value_at" "value_at" (defArgs s_value_at) (defBody s_value_at) (defScope s_value_at) .none kV19 dc19 pm19 an19 cd19 ct19), sl19⟩) (c19 : PySem.W.codeIn K cd19 "value_at" = true) (k19 : PySem.W.keepIn K (.ref f19) = true)
    (a20 : PySem.W.nsIn K mainGlobals "time_of" = some (some (.ref f20))) (l20 : K.lookup f20 = some ⟨oc20, od20, .func (PySem.W.fnOf "time_of" "time_of" (defArgs s_time_of) (defBody s_time_of) (defScope s_time_of) .none kV20 dc20 pm20 an20 cd20 ct20), sl20⟩) (c20 : PySem.W.codeIn K cd20 "time_of" = true) (k20 : PySem.W.keepIn K (.ref f20) = true)
    (a21 : PySem.W.nsIn K mainGlobals "corner_times" = some (some (.ref f21))) (l21 : K.lookup f21 = some ⟨oc21, od21, .func (PySem.W.fnOf "corner_times" "corner_times" (defArgs s_corner_times) (defBody s_corner_times) (defScope s_corner_times) .none kV21 dc21 pm21 an21 cd21 ct21), sl21⟩) (c21 : PySem.W.codeIn K cd21 "corner_times" = true) (k21 : PySem.W.keepIn K (.ref f21) = true)
    (a22 : PySem.W.nsIn K mainGlobals "corner_rows" = some (some (.ref f22))) (l22 : K.lookup f22 = some ⟨oc22, od22, .func (PySem.W.fnOf "corner_rows" "corner_rows" (defArgs s_corner_rows) (defBody s_corner_rows) (defScope s_corner_rows) .none kV22 dc22 pm22 an22 cd22 ct22), sl22⟩) (c22 : PySem.W.codeIn K cd22 "corner_rows" = true) (k22 : PySem.W.keepIn K (.ref f22) = true)
    (a23 : PySem.W.nsIn K mainGlobals "summed" = some (some (.ref f23))) (l23 : K.lookup f23 = some ⟨oc23, od23, .func (PySem.W.fnOf "summed" "summed" (defArgs s_summed) (defBody s_summed) (defScope s_summed) .none kV23 dc23 pm23 an23 cd23 ct23), sl23⟩) (c23 : PySem.W.codeIn K cd23 "summed" = true) (k23 : PySem.W.keepIn K (.ref f23) = true)
    (a24 : PySem.W.nsIn K mainGlobals "total" = some (some (.ref f24))) (l24 : K.lookup f24 = some ⟨oc24, od24, .func (PySem.W.fnOf "total" "total" (defArgs s_total) (defBody s_total) (defScope s_total) .none kV24 dc24 pm24 an24 cd24 ct24), sl24⟩) (c24 : PySem.W.codeIn K cd24 "total" = true) (k24 : PySem.W.keepIn K (.ref f24) = true)
    (a25 : PySem.W.nsIn K mainGlobals "gap_points" = some (some (.ref f25))) (l25 : K.lookup f25 = some ⟨oc25, od25, .func (PySem.W.fnOf "gap_points" "gap_points" (defArgs s_gap_points) (defBody s_gap_points) (defScope s_gap_points) .none kV25 dc25 pm25 an25 cd25 ct25), sl25⟩) (c25 : PySem.W.codeIn K cd25 "gap_points" = true) (k25 : PySem.W.keepIn K (.ref f25) = true)
    (a26 : PySem.W.nsIn K mainGlobals "less" = some (some (.ref f26))) (l26 : K.lookup f26 = some ⟨oc26, od26, .func (PySem.W.fnOf "less" "less" (defArgs s_less) (defBody s_less) (defScope s_less) .none kV26 dc26 pm26 an26 cd26 ct26), sl26⟩) (c26 : PySem.W.codeIn K cd26 "less" = true) (k26 : PySem.W.keepIn K (.ref f26) = true)
    (a27 : PySem.W.nsIn K mainGlobals "comes_above" = some (some (.ref f27))) (l27 : K.lookup f27 = some ⟨oc27, od27, .func (PySem.W.fnOf "comes_above" "comes_above" (defArgs s_comes_above) (defBody s_comes_above) (defScope s_comes_above) .none kV27 dc27 pm27 an27 cd27 ct27), sl27⟩) (c27 : PySem.W.codeIn K cd27 "comes_above" = true) (k27 : PySem.W.keepIn K (.ref f27) = true)
    (a28 : PySem.W.nsIn K mainGlobals "left" = some (some (.ref f28))) (l28 : K.lookup f28 = some ⟨oc28, od28, .func (PySem.W.fnOf "left" "left" (defArgs s_left) (defBody s_left) (defScope s_left) .none kV28 dc28 pm28 an28 cd28 ct28), sl28⟩) (c28 : PySem.W.codeIn K cd28 "left" = true) (k28 : PySem.W.keepIn K (.ref f28) = true)
    (a29 : PySem.W.nsIn K mainGlobals "unused" = some (some (.ref f29))) (l29 : K.lookup f29 = some ⟨oc29, od29, .func (PySem.W.fnOf "unused" "unused" (defArgs s_unused) (defBody s_unused) (defScope s_unused) .none kV29 dc29 pm29 an29 cd29 ct29), sl29⟩) (c29 : PySem.W.codeIn K cd29 "unused" = true) (k29 : PySem.W.keepIn K (.ref f29) = true)
    (a30 : PySem.W.nsIn K mainGlobals "served" = some (some (.ref f30))) (l30 : K.lookup f30 = some ⟨oc30, od30, .func (PySem.W.fnOf "served" "served" (defArgs s_served) (defBody s_served) (defScope s_served) .none kV30 dc30 pm30 an30 cd30 ct30), sl30⟩) (c30 : PySem.W.codeIn K cd30 "served" = true) (k30 : PySem.W.keepIn K (.ref f30) = true)
    (a31 : PySem.W.nsIn K mainGlobals "shared" = some (some (.ref f31))) (l31 : K.lookup f31 = some ⟨oc31, od31, .func (PySem.W.fnOf "shared" "shared" (defArgs s_shared) (defBody s_shared) (defScope s_shared) .none kV31 dc31 pm31 an31 cd31 ct31), sl31⟩) (c31 : PySem.W.codeIn K cd31 "shared" = true) (k31 : PySem.W.keepIn K (.ref f31) = true)
    (a32 : PySem.W.nsIn K mainGlobals "_law_cell_at" = some (some (.ref f32))) (l32 : K.lookup f32 = some ⟨oc32, od32, .func (PySem.W.fnOf "_law_cell_at" "_law_cell_at" (defArgs s__law_cell_at) (defBody s__law_cell_at) (defScope s__law_cell_at) .none kV32 dc32 pm32 an32 cd32 ct32), sl32⟩) (c32 : PySem.W.codeIn K cd32 "_law_cell_at" = true) (k32 : PySem.W.keepIn K (.ref f32) = true)
    (a33 : PySem.W.nsIn K mainGlobals "_law_low" = some (some (.ref f33))) (l33 : K.lookup f33 = some ⟨oc33, od33, .func (PySem.W.fnOf "_law_low" "_law_low" (defArgs s__law_low) (defBody s__law_low) (defScope s__law_low) .none kV33 dc33 pm33 an33 cd33 ct33), sl33⟩) (c33 : PySem.W.codeIn K cd33 "_law_low" = true) (k33 : PySem.W.keepIn K (.ref f33) = true)
    (a34 : PySem.W.nsIn K mainGlobals "_law_slopes_by" = some (some (.ref f34))) (l34 : K.lookup f34 = some ⟨oc34, od34, .func (PySem.W.fnOf "_law_slopes_by" "_law_slopes_by" (defArgs s__law_slopes_by) (defBody s__law_slopes_by) (defScope s__law_slopes_by) .none kV34 dc34 pm34 an34 cd34 ct34), sl34⟩) (c34 : PySem.W.codeIn K cd34 "_law_slopes_by" = true) (k34 : PySem.W.keepIn K (.ref f34) = true)
    (a35 : PySem.W.nsIn K mainGlobals "_law_drawn" = some (some (.ref f35))) (l35 : K.lookup f35 = some ⟨oc35, od35, .func (PySem.W.fnOf "_law_drawn" "_law_drawn" (defArgs s__law_drawn) (defBody s__law_drawn) (defScope s__law_drawn) .none kV35 dc35 pm35 an35 cd35 ct35), sl35⟩) (c35 : PySem.W.codeIn K cd35 "_law_drawn" = true) (k35 : PySem.W.keepIn K (.ref f35) = true)
    (a36 : PySem.W.nsIn K mainGlobals "_law_start_by" = some (some (.ref f36))) (l36 : K.lookup f36 = some ⟨oc36, od36, .func (PySem.W.fnOf "_law_start_by" "_law_start_by" (defArgs s__law_start_by) (defBody s__law_start_by) (defScope s__law_start_by) .none kV36 dc36 pm36 an36 cd36 ct36), sl36⟩) (c36 : PySem.W.codeIn K cd36 "_law_start_by" = true) (k36 : PySem.W.keepIn K (.ref f36) = true)
    (a37 : PySem.W.nsIn K mainGlobals "_law_curve_by" = some (some (.ref f37))) (l37 : K.lookup f37 = some ⟨oc37, od37, .func (PySem.W.fnOf "_law_curve_by" "_law_curve_by" (defArgs s__law_curve_by) (defBody s__law_curve_by) (defScope s__law_curve_by) .none kV37 dc37 pm37 an37 cd37 ct37), sl37⟩) (c37 : PySem.W.codeIn K cd37 "_law_curve_by" = true) (k37 : PySem.W.keepIn K (.ref f37) = true)
    (a38 : PySem.W.nsIn K mainGlobals "_law_lists" = some (some (.ref f38))) (l38 : K.lookup f38 = some ⟨oc38, od38, .func (PySem.W.fnOf "_law_lists" "_law_lists" (defArgs s__law_lists) (defBody s__law_lists) (defScope s__law_lists) .none kV38 dc38 pm38 an38 cd38 ct38), sl38⟩) (c38 : PySem.W.codeIn K cd38 "_law_lists" = true) (k38 : PySem.W.keepIn K (.ref f38) = true)
    (a39 : PySem.W.nsIn K mainGlobals "law" = some (some (.ref f39))) (l39 : K.lookup f39 = some ⟨oc39, od39, .func (PySem.W.fnOf "law" "law" (defArgs s_law) (defBody s_law) (defScope s_law) .none kV39 dc39 pm39 an39 cd39 ct39), sl39⟩) (c39 : PySem.W.codeIn K cd39 "law" = true) (k39 : PySem.W.keepIn K (.ref f39) = true)
    (z0 : PySem.W.nsIn K mainGlobals "isinstance" = some none)
    (z1 : PySem.W.nsIn K mainGlobals "int" = some none)
    (z2 : PySem.W.nsIn K mainGlobals "bool" = some none)
    (z3 : PySem.W.nsIn K mainGlobals "abs" = some none)
    (z4 : PySem.W.nsIn K mainGlobals "len" = some none)
    (z5 : PySem.W.nsIn K mainGlobals "range" = some none)
    (z6 : PySem.W.nsIn K mainGlobals "tuple" = some none)
    (z7 : PySem.W.nsIn K mainGlobals "enumerate" = some none)
    (z8 : PySem.W.nsIn K mainGlobals "sorted" = some none)
    (z9 : PySem.W.nsIn K mainGlobals "list" = some none)
    (n_NoCurve : PySem.W.nsIn K mainGlobals "NoCurve" = some (some (.ref K_NoCurve)))
    (n_NoTime : PySem.W.nsIn K mainGlobals "NoTime" = some (some (.ref K_NoTime)))
    (n_NOUGHT : PySem.W.nsIn K mainGlobals "NOUGHT" = some (some (.ref ga_NOUGHT_2)))
    (n_gl_NOUGHT_6 : K.lookup ga_NOUGHT_2 = some ⟨.type "tuple", gd_NOUGHT_3, .seq #[(.int 0 gt_NOUGHT_0), (.int 1 gt_NOUGHT_1)] gn_NOUGHT_3, gs_NOUGHT_3⟩)
    (x_NoCurve : PySem.W.excIn K K_NoCurve [.type "ValueError", .type "Exception", .type "BaseException", .type "object"] "ValueError.__new__" = true)
    (x_NoTime : PySem.W.excIn K K_NoTime [.type "ValueError", .type "Exception", .type "BaseException", .type "object"] "ValueError.__new__" = true)
    (ht_piece_at : (PySem.W.tabIn K "piece_at").isSome = true)
    (hp_piece_at : (PyProof.Rows.recsOf l.prog).any (fun d => d.name == "piece_at") = true)
    : ∃ fd : FuncData, (∀ (s : Shared) (v : Value), BindsTo s fd ⟨[v], []⟩ [("_law_script", v)]) ∧ ∀ base : Heap, K.In base → base.Ns mainGlobals mg → ∃ mg', FnOk l.prog w K mg base CX0 16 fa fd ["_law_script"] (liftSp K mg' spLaw3) := by
  have e := hfa.symm.trans (PySem.W.mg_of X G a39)
  cases e
  have y0 := PySem.W.mg_none_of X G z0
  have y1 := PySem.W.mg_none_of X G z1
  have y2 := PySem.W.mg_none_of X G z2
  have y3 := PySem.W.mg_none_of X G z3
  have y4 := PySem.W.mg_none_of X G z4
  have y5 := PySem.W.mg_none_of X G z5
  have y6 := PySem.W.mg_none_of X G z6
  have y7 := PySem.W.mg_none_of X G z7
  have y8 := PySem.W.mg_none_of X G z8
  have y9 := PySem.W.mg_none_of X G z9
  have gc_NOUGHT : GC K mg "NOUGHT" (.tup [(.int 0), (.int 1)]) := KD.of (PySem.W.mg_of X G n_NOUGHT) (KD.tup n_gl_NOUGHT_6 (Nat.le_of_ble_eq_true rfl) (.cons KD.int (.cons KD.int .nil)))
  have ec_NoCurve : ExC K "NoCurve" K_NoCurve := ⟨n_NoCurve, x_NoCurve⟩
  have m_NoCurve := PySem.W.mg_of X G n_NoCurve
  have ec_NoTime : ExC K "NoTime" K_NoTime := ⟨n_NoTime, x_NoTime⟩
  have m_NoTime := PySem.W.mg_of X G n_NoTime
  obtain ⟨⟨cA_piece_at, cT_piece_at⟩, n_ht_piece_at⟩ := Option.isSome_iff_exists.mp ht_piece_at
  have F0 := fun_mk (st := s_is_whole) l0 c0 k0
  have F1 := fun_mk (st := s_divisor) l1 c1 k1
  have F2 := fun_mk (st := s_ratio) l2 c2 k2
  have F3 := fun_mk (st := s_plus) l3 c3 k3
  have F4 := fun_mk (st := s_minus) l4 c4 k4
  have F5 := fun_mk (st := s_times) l5 c5 k5
  have F6 := fun_mk (st := s_over) l6 c6 k6
  have F7 := fun_mk (st := s_under) l7 c7 k7
  have F8 := fun_mk (st := s_greater) l8 c8 k8
  have F9 := fun_mk (st := s_check_begin) l9 c9 k9
  have F10 := fun_mk (st := s_check_rise) l10 c10 k10
  have F11 := fun_mk (st := s_slope_between) l11 c11 k11
  have F12 := fun_mk (st := s_slopes_behind) l12 c12 k12
  have F13 := fun_mk (st := s_curve) l13 c13 k13
  have F14 := fun_mk (st := s_heap) l14 c14 k14
  have F15 := fun_mk (st := s_check_time) l15 c15 k15
  have F16 := fun_mk (st := s_count_while) l16 c16 k16
  have F17 := fun_mk (st := s_piece_at) l17 c17 k17
  have F18 := fun_mk (st := s_slope_of_piece) l18 c18 k18
  have F19 := fun_mk (st := s_value_at) l19 c19 k19
  have F20 := fun_mk (st := s_time_of) l20 c20 k20
  have F21 := fun_mk (st := s_corner_times) l21 c21 k21
  have F22 := fun_mk (st := s_corner_rows) l22 c22 k22
  have F23 := fun_mk (st := s_summed) l23 c23 k23
  have F24 := fun_mk (st := s_total) l24 c24 k24
  have F25 := fun_mk (st := s_gap_points) l25 c25 k25
  have F26 := fun_mk (st := s_less) l26 c26 k26
  have F27 := fun_mk (st := s_comes_above) l27 c27 k27
  have F28 := fun_mk (st := s_left) l28 c28 k28
  have F29 := fun_mk (st := s_unused) l29 c29 k29
  have F30 := fun_mk (st := s_served) l30 c30 k30
  have F31 := fun_mk (st := s_shared) l31 c31 k31
  have F32 := fun_mk (st := s__law_cell_at) l32 c32 k32
  have F33 := fun_mk (st := s__law_low) l33 c33 k33
  have F34 := fun_mk (st := s__law_slopes_by) l34 c34 k34
  have F35 := fun_mk (st := s__law_drawn) l35 c35 k35
  have F36 := fun_mk (st := s__law_start_by) l36 c36 k36
  have F37 := fun_mk (st := s__law_curve_by) l37 c37 k37
  have F38 := fun_mk (st := s__law_lists) l38 c38 k38
  have F39 := fun_mk (st := s_law) l39 c39 k39
  refine ⟨PySem.W.fnOf "law" "law" (defArgs s_law) (defBody s_law) (defScope s_law) .none kV39 dc39 pm39 an39 cd39 ct39, fun s v => .of_eq rfl, fun base _ _ => ⟨mg, ?_⟩⟩
  have Q_is_whole : Cal l.prog w K mg base (CXU l.prog w) 1 "is_whole" ["thing"] sp_is_whole := ⟨⟨_, _, (FnOk.anyCX (ok_is_whole (P := l.prog) (w := w) (mg := mg) (base := base) F0 y0 y1 y2)), PySem.W.mg_of X G a0, k0, F0.binds (ps := ["thing"]) fun _ _ _ _ _ _ us hl => by obtain ⟨x0, rfl⟩ := lenE1 hl; rfl⟩⟩
  have Q_divisor : Cal l.prog w K mg base (CXU l.prog w) 1 "divisor" ["one", "other"] sp_divisor := ⟨⟨_, _, (FnOk.anyCX (ok_divisor (P := l.prog) (w := w) (mg := mg) (base := base) F1 y3)), PySem.W.mg_of X G a1, k1, F1.binds (ps := ["one", "other"]) fun _ _ _ _ _ _ us hl => by obtain ⟨x0, x1, rfl⟩ := lenE2 hl; rfl⟩⟩
  have Q_ratio : Cal l.prog w K mg base (CXU l.prog w) 2 "ratio" ["top", "bottom"] sp_ratio := ⟨⟨_, _, (FnOk.anyCX (ok_ratio (P := l.prog) (w := w) (mg := mg) (base := base) F2 Q_divisor Q_is_whole)), PySem.W.mg_of X G a2, k2, F2.binds (ps := ["top", "bottom"]) fun _ _ _ _ _ _ us hl => by obtain ⟨x0, x1, rfl⟩ := lenE2 hl; rfl⟩⟩
  have Q_plus : Cal l.prog w K mg base (CXU l.prog w) 3 "plus" ["one", "other"] sp_plus := ⟨⟨_, _, (FnOk.anyCX (ok_plus (P := l.prog) (w := w) (mg := mg) (base := base) F3 Q_ratio)), PySem.W.mg_of X G a3, k3, F3.binds (ps := ["one", "other"]) fun _ _ _ _ _ _ us hl => by obtain ⟨x0, x1, rfl⟩ := lenE2 hl; rfl⟩⟩
  have Q_minus : Cal l.prog w K mg base (CXU l.prog w) 3 "minus" ["one", "other"] sp_minus := ⟨⟨_, _, (FnOk.anyCX (ok_minus (P := l.prog) (w := w) (mg := mg) (base := base) F4 Q_ratio)), PySem.W.mg_of X G a4, k4, F4.binds (ps := ["one", "other"]) fun _ _ _ _ _ _ us hl => by obtain ⟨x0, x1, rfl⟩ := lenE2 hl; rfl⟩⟩
  have Q_times : Cal l.prog w K mg base (CXU l.prog w) 3 "times" ["one", "other"] sp_times := ⟨⟨_, _, (FnOk.anyCX (ok_times (P := l.prog) (w := w) (mg := mg) (base := base) F5 Q_ratio)), PySem.W.mg_of X G a5, k5, F5.binds (ps := ["one", "other"]) fun _ _ _ _ _ _ us hl => by obtain ⟨x0, x1, rfl⟩ := lenE2 hl; rfl⟩⟩
  have Q_over : Cal l.prog w K mg base (CXU l.prog w) 3 "over" ["one", "other"] sp_over := ⟨⟨_, _, (FnOk.anyCX (ok_over (P := l.prog) (w := w) (mg := mg) (base := base) F6 Q_ratio)), PySem.W.mg_of X G a6, k6, F6.binds (ps := ["one", "other"]) fun _ _ _ _ _ _ us hl => by obtain ⟨x0, x1, rfl⟩ := lenE2 hl; rfl⟩⟩
  have Q_under : Cal l.prog w K mg base (CXU l.prog w) 1 "under" ["one", "other"] sp_under := ⟨⟨_, _, (FnOk.anyCX (ok_under (P := l.prog) (w := w) (mg := mg) (base := base) F7)), PySem.W.mg_of X G a7, k7, F7.binds (ps := ["one", "other"]) fun _ _ _ _ _ _ us hl => by obtain ⟨x0, x1, rfl⟩ := lenE2 hl; rfl⟩⟩
  have Q_greater : Cal l.prog w K mg base (CXU l.prog w) 2 "greater" ["one", "other"] sp_greater := ⟨⟨_, _, (FnOk.anyCX (ok_greater (P := l.prog) (w := w) (mg := mg) (base := base) F8 Q_under)), PySem.W.mg_of X G a8, k8, F8.binds (ps := ["one", "other"]) fun _ _ _ _ _ _ us hl => by obtain ⟨x0, x1, rfl⟩ := lenE2 hl; rfl⟩⟩
  have Q_check_begin : Cal l.prog w K mg base (CXU l.prog w) 2 "check_begin" ["corners"] sp_check_begin := ⟨⟨_, _, ok_check_begin (P := l.prog) (w := w) (mg := mg) (base := base) F9 Q_under y4 gc_NOUGHT ec_NoCurve m_NoCurve, PySem.W.mg_of X G a9, k9, F9.binds (ps := ["corners"]) fun _ _ _ _ _ _ us hl => by obtain ⟨x0, rfl⟩ := lenE1 hl; rfl⟩⟩
  have Q_check_rise : Cal l.prog w K mg base (CXU l.prog w) 2 "check_rise" ["corners"] sp_check_rise := ⟨⟨_, _, ok_check_rise (P := l.prog) (w := w) (mg := mg) (base := base) F10 Q_under y5 y4 ec_NoCurve m_NoCurve, PySem.W.mg_of X G a10, k10, F10.binds (ps := ["corners"]) fun _ _ _ _ _ _ us hl => by obtain ⟨x0, rfl⟩ := lenE1 hl; rfl⟩⟩
  have Q_slope_between : Cal l.prog w K mg base (CXU l.prog w) 4 "slope_between" ["one", "other"] sp_slope_between := ⟨⟨_, _, (FnOk.anyCX (ok_slope_between (P := l.prog) (w := w) (mg := mg) (base := base) F11 Q_over Q_minus)), PySem.W.mg_of X G a11, k11, F11.binds (ps := ["one", "other"]) fun _ _ _ _ _ _ us hl => by obtain ⟨x0, x1, rfl⟩ := lenE2 hl; rfl⟩⟩
  have Q_slopes_behind : Cal l.prog w K mg base (CXU l.prog w) 5 "slopes_behind" ["points", "last"] sp_slopes_behind := ⟨⟨_, _, (FnOk.anyCX (ok_slopes_behind (P := l.prog) (w := w) (mg := mg) (base := base) F12 Q_slope_between y5 y4)), PySem.W.mg_of X G a12, k12, F12.binds (ps := ["points", "last"]) fun _ _ _ _ _ _ us hl => by obtain ⟨x0, x1, rfl⟩ := lenE2 hl; rfl⟩⟩
  have Q_curve : Cal l.prog w K mg base (CXU l.prog w) 6 "curve" ["corners", "last"] sp_curve := ⟨⟨_, _, ok_curve (P := l.prog) (w := w) (mg := mg) (base := base) F13 Q_check_begin Q_check_rise Q_under Q_slopes_behind y5 y4 y6 gc_NOUGHT ec_NoCurve m_NoCurve, PySem.W.mg_of X G a13, k13, F13.binds (ps := ["corners", "last"]) fun _ _ _ _ _ _ us hl => by obtain ⟨x0, x1, rfl⟩ := lenE2 hl; rfl⟩⟩
  have Q_heap : Cal l.prog w K mg base (CXU l.prog w) 7 "heap" ["value", "slope"] sp_heap := ⟨⟨_, _, ok_heap (P := l.prog) (w := w) (mg := mg) (base := base) F14 Q_curve gc_NOUGHT, PySem.W.mg_of X G a14, k14, F14.binds (ps := ["value", "slope"]) fun _ _ _ _ _ _ us hl => by obtain ⟨x0, x1, rfl⟩ := lenE2 hl; rfl⟩⟩
  have Q_check_time : Cal l.prog w K mg base (CXU l.prog w) 2 "check_time" ["t"] sp_check_time := ⟨⟨_, _, ok_check_time (P := l.prog) (w := w) (mg := mg) (base := base) F15 Q_under gc_NOUGHT ec_NoTime m_NoTime, PySem.W.mg_of X G a15, k15, F15.binds (ps := ["t"]) fun _ _ _ _ _ _ us hl => by obtain ⟨x0, rfl⟩ := lenE1 hl; rfl⟩⟩
  have Q_count_while : CalL l.prog w K mg base 5 4 "count_while" ["corners", "holds"] sp_count_while := ⟨⟨_, _, ok_count_while (P := l.prog) (w := w) (mg := mg) (base := base) F16 y4, PySem.W.mg_of X G a16, k16, F16.binds (ps := ["corners", "holds"]) fun _ _ _ _ _ _ us hl => by obtain ⟨x0, x1, rfl⟩ := lenE2 hl; rfl⟩⟩
  have Q_piece_at : Cal l.prog w K mg base (CXU l.prog w) 6 "piece_at" ["f", "t"] sp_piece_at := ⟨⟨_, _, ok_piece_at (P := l.prog) (w := w) (mg := mg) (base := base) F17 n_ht_piece_at a17 hp_piece_at Q_check_time Q_count_while Q_under, PySem.W.mg_of X G a17, k17, F17.binds (ps := ["f", "t"]) fun _ _ _ _ _ _ us hl => by obtain ⟨x0, x1, rfl⟩ := lenE2 hl; rfl⟩⟩
  have Q_slope_of_piece : Cal l.prog w K mg base (CXU l.prog w) 5 "slope_of_piece" ["f", "number"] sp_slope_of_piece := ⟨⟨_, _, (FnOk.anyCX (ok_slope_of_piece (P := l.prog) (w := w) (mg := mg) (base := base) F18 Q_slope_between y4)), PySem.W.mg_of X G a18, k18, F18.binds (ps := ["f", "number"]) fun _ _ _ _ _ _ us hl => by obtain ⟨x0, x1, rfl⟩ := lenE2 hl; rfl⟩⟩
  have Q_value_at : Cal l.prog w K mg base (CXU l.prog w) 7 "value_at" ["f", "t"] sp_value_at := ⟨⟨_, _, ok_value_at (P := l.prog) (w := w) (mg := mg) (base := base) F19 Q_piece_at Q_plus Q_times Q_slope_of_piece Q_minus, PySem.W.mg_of X G a19, k19, F19.binds (ps := ["f", "t"]) fun _ _ _ _ _ _ us hl => by obtain ⟨x0, x1, rfl⟩ := lenE2 hl; rfl⟩⟩
  have Q_time_of : Cal l.prog w K mg base (CXU l.prog w) 4 "time_of" ["point", "slope", "height"] sp_time_of := ⟨⟨_, _, (FnOk.anyCX (ok_time_of (P := l.prog) (w := w) (mg := mg) (base := base) F20 Q_plus Q_over Q_minus)), PySem.W.mg_of X G a20, k20, F20.binds (ps := ["point", "slope", "height"]) fun _ _ _ _ _ _ us hl => by obtain ⟨x0, x1, x2, rfl⟩ := lenE3 hl; rfl⟩⟩
  have Q_corner_times : Cal l.prog w K mg base (CXU l.prog w) 2 "corner_times" ["f", "g"] sp_corner_times := ⟨⟨_, _, (FnOk.anyCX (ok_corner_times (P := l.prog) (w := w) (mg := mg) (base := base) F21 Q_under y4)), PySem.W.mg_of X G a21, k21, F21.binds (ps := ["f", "g"]) fun _ _ _ _ _ _ us hl => by obtain ⟨x0, x1, rfl⟩ := lenE2 hl; rfl⟩⟩
  have Q_corner_rows : Cal l.prog w K mg base (CXU l.prog w) 8 "corner_rows" ["f", "g"] sp_corner_rows := ⟨⟨_, _, (FnOk.anyCX (ok_corner_rows (P := l.prog) (w := w) (mg := mg) (base := base) F22 Q_value_at Q_corner_times)), PySem.W.mg_of X G a22, k22, F22.binds (ps := ["f", "g"]) fun _ _ _ _ _ _ us hl => by obtain ⟨x0, x1, rfl⟩ := lenE2 hl; rfl⟩⟩
  have Q_summed : Cal l.prog w K mg base (CXU l.prog w) 9 "summed" ["f", "g"] sp_summed := ⟨⟨_, _, (FnOk.anyCX (ok_summed (P := l.prog) (w := w) (mg := mg) (base := base) F23 Q_curve Q_plus Q_corner_rows)), PySem.W.mg_of X G a23, k23, F23.binds (ps := ["f", "g"]) fun _ _ _ _ _ _ us hl => by obtain ⟨x0, x1, rfl⟩ := lenE2 hl; rfl⟩⟩
  have Q_total__b : Cal l.prog w K mg base (CXU l.prog w) 10 "total" ["curves"] sp_total__b := ⟨⟨_, _, (FnOk.anyCX (ok_total__b (P := l.prog) (w := w) (mg := mg) (base := base) F24)), PySem.W.mg_of X G a24, k24, F24.binds (ps := ["curves"]) fun _ _ _ _ _ _ us hl => by obtain ⟨x0, rfl⟩ := lenE1 hl; rfl⟩⟩
  have Q_total__0 : Cal l.prog w K mg base (CXU l.prog w) 11 "total" ["curves"] sp_total__0 := ⟨⟨_, _, (FnOk.anyCX (ok_total__0 (P := l.prog) (w := w) (mg := mg) (base := base) F24 Q_summed Q_heap Q_total__b y4 gc_NOUGHT)), PySem.W.mg_of X G a24, k24, F24.binds (ps := ["curves"]) fun _ _ _ _ _ _ us hl => by obtain ⟨x0, rfl⟩ := lenE1 hl; rfl⟩⟩
  have Q_total__1 : Cal l.prog w K mg base (CXU l.prog w) 12 "total" ["curves"] sp_total__1 := ⟨⟨_, _, (FnOk.anyCX (ok_total__1 (P := l.prog) (w := w) (mg := mg) (base := base) F24 Q_summed Q_heap Q_total__0 y4 gc_NOUGHT)), PySem.W.mg_of X G a24, k24, F24.binds (ps := ["curves"]) fun _ _ _ _ _ _ us hl => by obtain ⟨x0, rfl⟩ := lenE1 hl; rfl⟩⟩
  have Q_total__2 : Cal l.prog w K mg base (CXU l.prog w) 13 "total" ["curves"] sp_total__2 := ⟨⟨_, _, (FnOk.anyCX (ok_total__2 (P := l.prog) (w := w) (mg := mg) (base := base) F24 Q_summed Q_heap Q_total__1 y4 gc_NOUGHT)), PySem.W.mg_of X G a24, k24, F24.binds (ps := ["curves"]) fun _ _ _ _ _ _ us hl => by obtain ⟨x0, rfl⟩ := lenE1 hl; rfl⟩⟩
  have Q_total__3 : Cal l.prog w K mg base (CXU l.prog w) 14 "total" ["curves"] sp_total__3 := ⟨⟨_, _, (FnOk.anyCX (ok_total__3 (P := l.prog) (w := w) (mg := mg) (base := base) F24 Q_summed Q_heap Q_total__2 y4 gc_NOUGHT)), PySem.W.mg_of X G a24, k24, F24.binds (ps := ["curves"]) fun _ _ _ _ _ _ us hl => by obtain ⟨x0, rfl⟩ := lenE1 hl; rfl⟩⟩
  have Q_total__4 : Cal l.prog w K mg base (CXU l.prog w) 15 "total" ["curves"] sp_total__4 := ⟨⟨_, _, (FnOk.anyCX (ok_total__4 (P := l.prog) (w := w) (mg := mg) (base := base) F24 Q_summed Q_heap Q_total__3 y4 gc_NOUGHT)), PySem.W.mg_of X G a24, k24, F24.binds (ps := ["curves"]) fun _ _ _ _ _ _ us hl => by obtain ⟨x0, rfl⟩ := lenE1 hl; rfl⟩⟩
  have Q_total : Cal l.prog w K mg base (CXU l.prog w) 15 "total" ["curves"] sp_total := Q_total__4
  have Q_gap_points : Cal l.prog w K mg base (CXU l.prog w) 4 "gap_points" ["rows"] sp_gap_points := ⟨⟨_, _, (FnOk.anyCX (ok_gap_points (P := l.prog) (w := w) (mg := mg) (base := base) F25 Q_minus)), PySem.W.mg_of X G a25, k25, F25.binds (ps := ["rows"]) fun _ _ _ _ _ _ us hl => by obtain ⟨x0, rfl⟩ := lenE1 hl; rfl⟩⟩
  have Q_less : Cal l.prog w K mg base (CXU l.prog w) 9 "less" ["f", "g"] sp_less := ⟨⟨_, _, (FnOk.anyCX (ok_less (P := l.prog) (w := w) (mg := mg) (base := base) F26 Q_curve Q_gap_points Q_minus Q_corner_rows)), PySem.W.mg_of X G a26, k26, F26.binds (ps := ["f", "g"]) fun _ _ _ _ _ _ us hl => by obtain ⟨x0, x1, rfl⟩ := lenE2 hl; rfl⟩⟩
  have Q_comes_above : Cal l.prog w K mg base (CXU l.prog w) 2 "comes_above" ["gaps", "number", "last", "best"] sp_comes_above := ⟨⟨_, _, (FnOk.anyCX (ok_comes_above (P := l.prog) (w := w) (mg := mg) (base := base) F27 Q_under y4 gc_NOUGHT)), PySem.W.mg_of X G a27, k27, F27.binds (ps := ["gaps", "number", "last", "best"]) fun _ _ _ _ _ _ us hl => by obtain ⟨x0, x1, x2, x3, rfl⟩ := lenE4 hl; rfl⟩⟩
  have Q_left : Cal l.prog w K mg base (CXU l.prog w) 9 "left" ["f", "g"] sp_left := ⟨⟨_, _, (FnOk.anyCX (ok_left (P := l.prog) (w := w) (mg := mg) (base := base) F28 Q_gap_points Q_minus Q_slopes_behind Q_curve Q_corner_rows Q_greater Q_under Q_comes_above Q_time_of y7 gc_NOUGHT)), PySem.W.mg_of X G a28, k28, F28.binds (ps := ["f", "g"]) fun _ _ _ _ _ _ us hl => by obtain ⟨x0, x1, rfl⟩ := lenE2 hl; rfl⟩⟩
  have Q_unused : Cal l.prog w K mg base (CXU l.prog w) 10 "unused" ["coming", "offer"] sp_unused := ⟨⟨_, _, (FnOk.anyCX (ok_unused (P := l.prog) (w := w) (mg := mg) (base := base) F29 Q_left)), PySem.W.mg_of X G a29, k29, F29.binds (ps := ["coming", "offer"]) fun _ _ _ _ _ _ us hl => by obtain ⟨x0, x1, rfl⟩ := lenE2 hl; rfl⟩⟩
  have Q_served : Cal l.prog w K mg base (CXU l.prog w) 11 "served" ["coming", "offer"] sp_served := ⟨⟨_, _, (FnOk.anyCX (ok_served (P := l.prog) (w := w) (mg := mg) (base := base) F30 Q_less Q_unused)), PySem.W.mg_of X G a30, k30, F30.binds (ps := ["coming", "offer"]) fun _ _ _ _ _ _ us hl => by obtain ⟨x0, x1, rfl⟩ := lenE2 hl; rfl⟩⟩
  have Q_shared : Cal l.prog w K mg base (CXU l.prog w) 12 "shared" ["comings", "offer"] sp_shared := ⟨⟨_, _, (FnOk.anyCX (ok_shared (P := l.prog) (w := w) (mg := mg) (base := base) F31 Q_unused Q_served)), PySem.W.mg_of X G a31, k31, F31.binds (ps := ["comings", "offer"]) fun _ _ _ _ _ _ us hl => by obtain ⟨x0, x1, rfl⟩ := lenE2 hl; rfl⟩⟩
  have Q__law_cell_at : Cal l.prog w K mg base (CXU l.prog w) 1 "_law_cell_at" ["_law_script", "_law_k"] sp__law_cell_at := ⟨⟨_, _, (FnOk.anyCX (ok__law_cell_at (P := l.prog) (w := w) (mg := mg) (base := base) F32 y4)), PySem.W.mg_of X G a32, k32, F32.binds (ps := ["_law_script", "_law_k"]) fun _ _ _ _ _ _ us hl => by obtain ⟨x0, x1, rfl⟩ := lenE2 hl; rfl⟩⟩
  have Q__law_low : Cal l.prog w K mg base (CXU l.prog w) 1 "_law_low" ["_law_top", "_law_bottom"] sp__law_low := ⟨⟨_, _, (FnOk.anyCX (ok__law_low (P := l.prog) (w := w) (mg := mg) (base := base) F33 y3)), PySem.W.mg_of X G a33, k33, F33.binds (ps := ["_law_top", "_law_bottom"]) fun _ _ _ _ _ _ us hl => by obtain ⟨x0, x1, rfl⟩ := lenE2 hl; rfl⟩⟩
  have Q__law_slopes_by : Cal l.prog w K mg base (CXU l.prog w) 1 "_law_slopes_by" ["_law_cells", "_law_shape"] sp__law_slopes_by := ⟨⟨_, _, (FnOk.anyCX (ok__law_slopes_by (P := l.prog) (w := w) (mg := mg) (base := base) F34 y8 y4)), PySem.W.mg_of X G a34, k34, F34.binds (ps := ["_law_cells", "_law_shape"]) fun _ _ _ _ _ _ us hl => by obtain ⟨x0, x1, rfl⟩ := lenE2 hl; rfl⟩⟩
  have Q__law_drawn : Cal l.prog w K mg base (CXU l.prog w) 2 "_law_drawn" ["_law_cells", "_law_slopes", "_law_start", "_law_unit"] sp__law_drawn := ⟨⟨_, _, (FnOk.anyCX (ok__law_drawn (P := l.prog) (w := w) (mg := mg) (base := base) F35 Q__law_low y5 y4 y6)), PySem.W.mg_of X G a35, k35, F35.binds (ps := ["_law_cells", "_law_slopes", "_law_start", "_law_unit"]) fun _ _ _ _ _ _ us hl => by obtain ⟨x0, x1, x2, x3, rfl⟩ := lenE4 hl; rfl⟩⟩
  have Q__law_start_by : Cal l.prog w K mg base (CXU l.prog w) 1 "_law_start_by" ["_law_head"] sp__law_start_by := ⟨⟨_, _, (FnOk.anyCX (ok__law_start_by (P := l.prog) (w := w) (mg := mg) (base := base) F36)), PySem.W.mg_of X G a36, k36, F36.binds (ps := ["_law_head"]) fun _ _ _ _ _ _ us hl => by obtain ⟨x0, rfl⟩ := lenE1 hl; rfl⟩⟩
  have Q__law_curve_by : Cal l.prog w K mg base (CXU l.prog w) 3 "_law_curve_by" ["_law_script", "_law_begin"] sp__law_curve_by := ⟨⟨_, _, (FnOk.anyCX (ok__law_curve_by (P := l.prog) (w := w) (mg := mg) (base := base) F37 Q__law_cell_at Q__law_slopes_by Q__law_drawn Q__law_start_by y5)), PySem.W.mg_of X G a37, k37, F37.binds (ps := ["_law_script", "_law_begin"]) fun _ _ _ _ _ _ us hl => by obtain ⟨x0, x1, rfl⟩ := lenE2 hl; rfl⟩⟩
  have Q__law_lists : Cal l.prog w K mg base (CXU l.prog w) 1 "_law_lists" ["_law_found", "_law_due"] sp__law_lists := ⟨⟨_, _, (FnOk.anyCX (ok__law_lists (P := l.prog) (w := w) (mg := mg) (base := base) F38 y0 y9)), PySem.W.mg_of X G a38, k38, F38.binds (ps := ["_law_found", "_law_due"]) fun _ _ _ _ _ _ us hl => by obtain ⟨x0, x1, rfl⟩ := lenE2 hl; rfl⟩⟩
  exact ok_law (P := l.prog) (w := w) (mg := mg) (base := base) F39 Q__law_curve_by Q_shared Q__law_lists Q__law_cell_at Q_total Q_served Q_summed y9 y5 y0 y4
end CL
open PySem PySem.W PyProof.Rows
local macro_rules | `(tactic| o_head $H) => `(tactic| (
    refine holds_open (q := CL.qv) (loose := []) (N := 30100)
      (Xt := (fun s => xlAt CL.qv [] s && recOk (RowW.records (OpenRow.toRowW (OpenLaw.row PySem.Challenge.rw_curvehouse_k35_shared_as_one))) s))
      (XP := XL CL.qv []) (Yf := Hook.obs $H) (Ya := Hook.val $H)
      (YP := Hook.says $H) ?hl (Hook.of $H) (Hook.keeps $H)
      (fun s e => xl_of s (Bool.and_eq_true_iff.mp e).1) XL.keeps (by rfl) (by rfl) (by rfl)
      (fun s e => recFacts_of (Bool.and_eq_true_iff.mp e).2) (by rfl) (by first | assumption | decide +kernel)
      (by decide +kernel) ⟨rfl, rfl, rfl, rfl, rfl, by decide +kernel⟩ ?hw ?hc
    case hl =>
      refine CL.lo CL.op CL.lA ?_
      intro w os
      kernel_rfl))
set_option maxRecDepth 100000 in
set_option maxHeartbeats 0 in
theorem PySem.Challenge.cw_curvehouse_k35_shared_as_one_holds : PySem.Challenge.rw_curvehouse_k35_shared_as_one.Holds := by
  w_on; o_law; k_head; (case hw => w_witness2)
  k_fill
  refine L3.walk3 (l := PySem.Challenge.rw_curvehouse_k35_shared_as_one) (k := 16) (x := "_law_script") rfl rfl ⟨rfl, by decide, by decide⟩ (fun _ h => h) (fun w h Y => PySem.W.km_in_of Y) (fun w => ?nt) ?F
  case nt => kernel_rfl
  case F =>
    intro w mg fa h KX G hmg
    refine' CL.all_mk KX G hmg ?a0 ?l0 ?c0 ?k0 ?a1 ?l1 ?c1 ?k1 ?a2 ?l2 ?c2 ?k2 ?a3 ?l3 ?c3 ?k3 ?a4 ?l4 ?c4 ?k4 ?a5 ?l5 ?c5 ?k5 ?a6 ?l6 ?c6 ?k6 ?a7 ?l7 ?c7 ?k7 ?a8 ?l8 ?c8 ?k8 ?a9 ?l9 ?c9 ?k9 ?a10 ?l10 ?c10 ?k10 ?a11 ?l11 ?c11 ?k11 ?a12 ?l12 ?c12 ?k12 ?a13 ?l13 ?c13 ?k13 ?a14 ?l14 ?c14 ?k14 ?a15 ?l15 ?c15 ?k15 ?a16 ?l16 ?c16 ?k16 ?a17 ?l17 ?c17 ?k17 ?a18 ?l18 ?c18 ?k18 ?a19 ?l19 ?c19 ?k19 ?a20 ?l20 ?c20 ?k20 ?a21 ?l21 ?c21 ?k21 ?a22 ?l22 ?c22 ?k22 ?a23 ?l23 ?c23 ?k23 ?a24 ?l24 ?c24 ?k24 ?a25 ?l25 ?c25 ?k25 ?a26 ?l26 ?c26 ?k26 ?a27 ?l27 ?c27 ?k27 ?a28 ?l28 ?c28 ?k28 ?a29 ?l29 ?c29 ?k29 ?a30 ?l30 ?c30 ?k30 ?a31 ?l31 ?c31 ?k31 ?a32 ?l32 ?c32 ?k32 ?a33 ?l33 ?c33 ?k33 ?a34 ?l34 ?c34 ?k34 ?a35 ?l35 ?c35 ?k35 ?a36 ?l36 ?c36 ?k36 ?a37 ?l37 ?c37 ?k37 ?a38 ?l38 ?c38 ?k38 ?a39 ?l39 ?c39 ?k39 ?z0 ?z1 ?z2 ?z3 ?z4 ?z5 ?z6 ?z7 ?z8 ?z9 ?n_NoCurve ?n_NoTime ?n_NOUGHT ?n_gl_NOUGHT_6 ?x_NoCurve ?x_NoTime ?ht_piece_at ?hp_piece_at
    (case a0 => k_is)
    (case l0 => k_is)
    (case c0 => k_is)
    (case k0 => k_is)
    (case a1 => k_is)
    (case l1 => k_is)
    (case c1 => k_is)
    (case k1 => k_is)
    (case a2 => k_is)
    (case l2 => k_is)
    (case c2 => k_is)
    (case k2 => k_is)
    (case a3 => k_is)
    (case l3 => k_is)
    (case c3 => k_is)
    (case k3 => k_is)
    (case a4 => k_is)
    (case l4 => k_is)
    (case c4 => k_is)
    (case k4 => k_is)
    (case a5 => k_is)
    (case l5 => k_is)
    (case c5 => k_is)
    (case k5 => k_is)
    (case a6 => k_is)
    (case l6 => k_is)
    (case c6 => k_is)
    (case k6 => k_is)
    (case a7 => k_is)
    (case l7 => k_is)
    (case c7 => k_is)
    (case k7 => k_is)
    (case a8 => k_is)
    (case l8 => k_is)
    (case c8 => k_is)
    (case k8 => k_is)
    (case a9 => k_is)
    (case l9 => k_is)
    (case c9 => k_is)
    (case k9 => k_is)
    (case a10 => k_is)
    (case l10 => k_is)
    (case c10 => k_is)
    (case k10 => k_is)
    (case a11 => k_is)
    (case l11 => k_is)
    (case c11 => k_is)
    (case k11 => k_is)
    (case a12 => k_is)
    (case l12 => k_is)
    (case c12 => k_is)
    (case k12 => k_is)
    (case a13 => k_is)
    (case l13 => k_is)
    (case c13 => k_is)
    (case k13 => k_is)
    (case a14 => k_is)
    (case l14 => k_is)
    (case c14 => k_is)
    (case k14 => k_is)
    (case a15 => k_is)
    (case l15 => k_is)
    (case c15 => k_is)
    (case k15 => k_is)
    (case a16 => k_is)
    (case l16 => k_is)
    (case c16 => k_is)
    (case k16 => k_is)
    (case a17 => k_is)
    (case l17 => k_is)
    (case c17 => k_is)
    (case k17 => k_is)
    (case a18 => k_is)
    (case l18 => k_is)
    (case c18 => k_is)
    (case k18 => k_is)
    (case a19 => k_is)
    (case l19 => k_is)
    (case c19 => k_is)
    (case k19 => k_is)
    (case a20 => k_is)
    (case l20 => k_is)
    (case c20 => k_is)
    (case k20 => k_is)
    (case a21 => k_is)
    (case l21 => k_is)
    (case c21 => k_is)
    (case k21 => k_is)
    (case a22 => k_is)
    (case l22 => k_is)
    (case c22 => k_is)
    (case k22 => k_is)
    (case a23 => k_is)
    (case l23 => k_is)
    (case c23 => k_is)
    (case k23 => k_is)
    (case a24 => k_is)
    (case l24 => k_is)
    (case c24 => k_is)
    (case k24 => k_is)
    (case a25 => k_is)
    (case l25 => k_is)
    (case c25 => k_is)
    (case k25 => k_is)
    (case a26 => k_is)
    (case l26 => k_is)
    (case c26 => k_is)
    (case k26 => k_is)
    (case a27 => k_is)
    (case l27 => k_is)
    (case c27 => k_is)
    (case k27 => k_is)
    (case a28 => k_is)
    (case l28 => k_is)
    (case c28 => k_is)
    (case k28 => k_is)
    (case a29 => k_is)
    (case l29 => k_is)
    (case c29 => k_is)
    (case k29 => k_is)
    (case a30 => k_is)
    (case l30 => k_is)
    (case c30 => k_is)
    (case k30 => k_is)
    (case a31 => k_is)
    (case l31 => k_is)
    (case c31 => k_is)
    (case k31 => k_is)
    (case a32 => k_is)
    (case l32 => k_is)
    (case c32 => k_is)
    (case k32 => k_is)
    (case a33 => k_is)
    (case l33 => k_is)
    (case c33 => k_is)
    (case k33 => k_is)
    (case a34 => k_is)
    (case l34 => k_is)
    (case c34 => k_is)
    (case k34 => k_is)
    (case a35 => k_is)
    (case l35 => k_is)
    (case c35 => k_is)
    (case k35 => k_is)
    (case a36 => k_is)
    (case l36 => k_is)
    (case c36 => k_is)
    (case k36 => k_is)
    (case a37 => k_is)
    (case l37 => k_is)
    (case c37 => k_is)
    (case k37 => k_is)
    (case a38 => k_is)
    (case l38 => k_is)
    (case c38 => k_is)
    (case k38 => k_is)
    (case a39 => k_is)
    (case l39 => k_is)
    (case c39 => k_is)
    (case k39 => k_is)
    (case z0 => k_is)
    (case z1 => k_is)
    (case z2 => k_is)
    (case z3 => k_is)
    (case z4 => k_is)
    (case z5 => k_is)
    (case z6 => k_is)
    (case z7 => k_is)
    (case z8 => k_is)
    (case z9 => k_is)
    (case n_NoCurve => k_is)
    (case n_NoTime => k_is)
    (case n_NOUGHT => k_is)
    (case n_gl_NOUGHT_6 => k_is)
    (case x_NoCurve => kernel_rfl)
    (case x_NoTime => kernel_rfl)
    (case ht_piece_at => kernel_rfl)
    (case hp_piece_at => kernel_rfl)
