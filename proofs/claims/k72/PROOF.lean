import PyProof.Rows.All
import PyProof.FactsAll.NoneType_1
import Wide.All
import OpenK.AllK
import Wide.FinOn
import Lean
import PyProof.EqAt
import PyProof.EqKinds
import PyProof.TupleCall
import PyProof.SetScanFacts
import PyProof.SetKind
import PyProof.DictStraight
import PyProof.DictIter
import PyProof.Seq
import PyProof.CollectWalk
import PyProof.MakeMany
import PyProof.Rows.SetFrom
import PyProof.Rows.SortShell
import PyProof.ListRange
import PyProof.SetRoads
import PyProof.NeKinds
import PyProof.SumAny
import PyProof.Rows.RuleM_int
import PyProof.ZipIter
import PyProof.EnumFor
import PyProof.EnumMake
import PyProof.EnumStmt
import PyProof.MinMaxWalk
import PyProof.Rows.CallKwBuiltin
import PyProof.DictUpdate
import PyProof.Rows.FStr
import PyProof.AutoListH
import KE.KRevIter
import PyProof.CollectIter
import PyProof.StrBlockH
import PyProof.StrWalks
import PyProof.StrLawsReplace
import PyProof.StrLawsTight
import PyProof.StrLawsChain
import PyProof.StrLawsIn
import PyProof.StrOps2
import PyProof.StrCalls6
import PyProof.ToksMono
import PyProof.Rows.StrNews
import PyProof.StrLawsJoin
import PyProof.DictWalks
import PySem.Challenge.RW_macrohouse_k72_the_first_that_may
set_option Elab.async false
set_option linter.all false
set_option maxRecDepth 100000
/-! THE HAND LAYER, for ints, bools, texts, own classes, LISTS and tuples (index, slices, in, append, pop ..), calls, loops. Paste it whole ahead of your own text; what your proof does not reach may be deleted. -/
namespace L2
open PySem PySem.Spec PyProof.Rows

theorem hash_none {prog : Program} {w : World} {A : Around} {E : Value → Shared → Prop} {s : Shared} {Q : Int → Shared → Prop} (h : Q 0xFCA86420 { s with toks := s.toks + 1 }) : wpAny (model prog w) A (pyHash .none) Q E s := by
  have hT : s.TypeIs .none "NoneType" := rfl
  unfold pyHash
  have hv : [Value.none].any Value.onHeap = false := rfl
  refine wpAny_bind ?_
  rw [cRoomFor, if_neg (by rw [hv]; exact Bool.false_ne_true)]
  refine wpAny_pure ?_
  refine wpAny_bind (wpAny_specialOf hT PySem.F.slot_NoneType_hash.lookup ?_)
  show wpAny _ _ (if (some (Value.builtin "NoneType.__hash__") == some Value.none) = true then _ else _) Q E s
  rw [if_neg (by rw [beq_builtin_none]; exact Bool.false_ne_true)]
  refine wpAny_bind (wpAny_specialOf hT PySem.F.slot_NoneType_hash.lookup ?_)
  show wpAny _ _ (callSpecialIfBoundUnlessNone? .none "__hash__" _ >>= _) Q E s
  refine wpAny_bind (wpAny_callSpecialIfBoundUnlessNone?_slot hT PySem.F.slot_NoneType_hash (wpAny_call_entry PySem.F.slot_NoneType_hash hT PySem.F.entry_NoneType_hash (show wpAny _ _ (retInt 0xFCA86420) _ _ s from wpAny_ret_mkInt ?_) (PySem.F.args_NoneType_hash_1 _)))
  show wpAny _ _ (if (decide (-(2 : Int) ^ 63 ≤ 0xFCA86420) && decide ((0xFCA86420 : Int) < 2 ^ 63)) = true then _ else _) Q E _
  rw [if_pos (by decide)]
  exact wpAny_pure h
theorem eqb_none {prog : Program} {w : World} {A : Around} {E : Value → Shared → Prop} {s : Shared} {Q : Bool → Shared → Prop} (h : Q true s) : wpAny (model prog w) A (eqBool .none .none) Q E s := by
  exact SeqAt.EqAt.same _ _ _ _ _ h
/-- a key: None, an int or a str -/
abbrev Key := Sum (Option Int) Str
def keyIs : Key → Value → Bool
  | .inl none, v => v == Value.none
  | .inl (some k), v => Value.isInt k v
  | .inr x, v => Value.isStrOf x v
def keyH (w : World) : Key → Int
  | .inl none => 0xFCA86420
  | .inl (some k) => hashInt k
  | .inr x => hashStr w x
theorem keyIs_shape : ∀ {k : Key} {v : Value}, keyIs k v = true → (k = Sum.inl none ∧ v = Value.none) ∨ (∃ i t, k = Sum.inl (some i) ∧ v = Value.int i t) ∨ (∃ x t, k = Sum.inr x ∧ v = Value.str x t)
  | .inl none, v, h => .inl ⟨rfl, eq_of_beq h⟩
  | .inl (some i), v, h => by
    obtain ⟨t, e⟩ := Value.isInt_shape (k := i) (v := v) h
    exact .inr (.inl ⟨i, t, rfl, e⟩)
  | .inr x, v, h => by
    obtain ⟨t, e⟩ := Value.isStrOf_shape (x := x) (v := v) h
    exact .inr (.inr ⟨x, t, rfl, e⟩)
theorem keyIs_int (i : Int) (t : Tok) : keyIs (.inl (some i)) (.int i t) = true := by simp [keyIs, Value.isInt]
theorem keyIs_str (x : Str) (t : Tok) : keyIs (.inr x) (.str x t) = true := by simp [keyIs, Value.isStrOf]
theorem keyIs_none : keyIs (.inl none) .none = true := rfl
theorem key_ne {a b : Key} (h : a ≠ b) : decide (a = b) = false := decide_eq_false h
theorem key_ll (a b : Int) : decide ((Sum.inl (some a) : Key) = Sum.inl (some b)) = (a == b) := by
  by_cases e : a = b
  · subst e; simp
  · rw [key_ne fun q => e (Option.some.inj (Sum.inl.inj q))]
    exact (beq_eq_false_iff_ne.mpr e).symm
theorem key_rr (a b : Str) : decide ((Sum.inr a : Key) = Sum.inr b) = decide (a = b) := by
  by_cases e : a = b
  · subst e; simp
  · rw [key_ne fun q => e (Sum.inr.inj q), decide_eq_false e]
def mixKind (prog : Program) (w : World) : PySem.KeyKind prog w Key where
  is := keyIs
  hash := keyH w
  inj := fun v a b ha hb => by
    rcases keyIs_shape ha with ⟨rfl, rfl⟩ | ⟨i, t, rfl, rfl⟩ | ⟨x, t, rfl, rfl⟩ <;> rcases keyIs_shape hb with ⟨rfl, e⟩ | ⟨j, u, rfl, e⟩ | ⟨y, u, rfl, e⟩
    · rfl
    · exact nomatch e
    · exact nomatch e
    · exact nomatch e
    · injection e with e1 _; rw [e1]
    · exact nomatch e
    · exact nomatch e
    · exact nomatch e
    · injection e with e1 _; rw [e1]
  byValue := fun k v h => by
    rcases keyIs_shape h with ⟨rfl, rfl⟩ | ⟨i, t, rfl, rfl⟩ | ⟨x, t, rfl, rfl⟩ <;> rfl
  pyHash := fun hv h => by
    rcases keyIs_shape hv with ⟨rfl, rfl⟩ | ⟨i, t, rfl, rfl⟩ | ⟨x, t, rfl, rfl⟩
    · exact hash_none h
    · exact wpAny_pyHash_int h
    · exact wpAny_pyHash_str h
  eqBool := fun hu hv h => by
    rcases keyIs_shape hu with ⟨rfl, rfl⟩ | ⟨i, t, rfl, rfl⟩ | ⟨x, t, rfl, rfl⟩ <;> rcases keyIs_shape hv with ⟨rfl, rfl⟩ | ⟨j, u, rfl, rfl⟩ | ⟨y, u, rfl, rfl⟩
    · exact eqb_none h
    · rw [key_ne] at h
      · exact SeqAt.EqAt.none_int j u _ _ _ _ h
      · intro q; cases q
    · rw [key_ne] at h
      · exact SeqAt.EqAt.none_str y u _ _ _ _ h
      · intro q; cases q
    · rw [key_ne] at h
      · exact SeqAt.EqAt.int_none i t _ _ _ _ h
      · intro q; cases q
    · rw [key_ll] at h; exact wpAny_eqBool_int h
    · rw [key_ne] at h
      · exact SeqAt.EqAt.int_str i t y u _ _ _ _ h
      · intro q; cases q
    · rw [key_ne] at h
      · exact SeqAt.EqAt.str_none x t _ _ _ _ h
      · intro q; cases q
    · rw [key_ne] at h
      · exact SeqAt.EqAt.str_int x t j u _ _ _ _ h
      · intro q; cases q
    · rw [key_rr] at h; exact wpAny_eqBool_str h
  «strs» := fun k x t v h => by
    rcases keyIs_shape h with ⟨rfl, e⟩ | ⟨i, u, rfl, e⟩ | ⟨y, u, rfl, e⟩
    · exact nomatch e
    · exact nomatch e
    · injection e with e1 _
      subst e1
      cases v <;> rfl

theorem mixKind_none (prog : Program) (w : World) : (mixKind prog w).is (.inl none) .none = true := keyIs_none
theorem mixKind_int (prog : Program) (w : World) (i : Int) (t : Tok) : (mixKind prog w).is (.inl (some i)) (.int i t) = true := keyIs_int i t
theorem mixKind_str (prog : Program) (w : World) (x : Str) (t : Tok) : (mixKind prog w).is (.inr x) (.str x t) = true := keyIs_str x t
end L2

namespace L2
open PySem PySem.Spec PyProof.Rows

/-- a value, without the heap -/
inductive V where
  | non | bl (b : Bool) | int (i : Int) | str (x : Str) | byt (b : Array UInt8) | flt (b : UInt64) | ref (a : Addr) | ty (n : String)
  deriving DecidableEq

def RelV : V → Value → Prop
  | .non, u => u = Value.none
  | .bl b, u => u = Value.bool b
  | .int i, u => ∃ t, u = Value.int i t
  | .str x, u => ∃ t, u = Value.str x t
  | .byt b, u => ∃ t, u = Value.bytes b t
  | .flt b, u => ∃ t, u = Value.float b t
  | .ref a, u => u = Value.ref a
  | .ty n, u => u = Value.type n

abbrev Vals : List V → List Value → Prop := Paired RelV
theorem Vals.length {xs : List V} {us : List Value} (r : Vals xs us) : xs.length = us.length := Paired.length r
theorem Vals.get : ∀ {xs : List V} {us : List Value} {i : Nat} {x : V}, Vals xs us → xs[i]? = some x → ∃ u, us[i]? = some u ∧ RelV x u
  | _, _, _, _, .nil, e => by simp at e
  | _, _, 0, _, .cons r _, e => by simp at e; subst e; exact ⟨_, rfl, r⟩
  | _, _, i + 1, x, .cons _ t, e => by
    obtain ⟨u, h1, h2⟩ := Vals.get (i := i) (x := x) t (by simpa using e)
    exact ⟨u, by simpa using h1, h2⟩
theorem Vals.set {x : V} {u : Value} (r : RelV x u) : ∀ {xs : List V} {us : List Value} (i : Nat), Vals xs us → Vals (xs.set i x) (us.set i u)
  | _, _, _, .nil => .nil
  | _, _, 0, .cons _ t => .cons r t
  | _, _, i + 1, .cons q t => .cons q (Vals.set r i t)
theorem Vals.append : ∀ {xs ys : List V} {us ws : List Value}, Vals xs us → Vals ys ws → Vals (xs ++ ys) (us ++ ws)
  | _, _, _, _, .nil, s => s
  | _, _, _, _, .cons r t, s => .cons r (Vals.append t s)
theorem Vals.take : ∀ {xs : List V} {us : List Value} (n : Nat), Vals xs us → Vals (xs.take n) (us.take n)
  | _, _, 0, _ => .nil
  | _, _, _ + 1, .nil => .nil
  | _, _, n + 1, .cons r t => .cons r (Vals.take n t)
theorem Vals.drop : ∀ {xs : List V} {us : List Value} (n : Nat), Vals xs us → Vals (xs.drop n) (us.drop n)
  | _, _, 0, r => r
  | _, _, _ + 1, .nil => .nil
  | _, _, n + 1, .cons _ t => Vals.drop n t
theorem Vals.none_of : ∀ {xs : List V} {us : List Value} {i : Nat}, Vals xs us → xs[i]? = none → us[i]? = none := fun {xs us i} r e => by
  have h1 := r.length
  have h2 : xs.length ≤ i := List.getElem?_eq_none_iff.mp e
  exact List.getElem?_eq_none_iff.mpr (by omega)

def RelO : Option V → Option Value → Prop
  | some v, some u => RelV v u
  | none, none => True
  | _, _ => False
def KV {κ : Type} : List (κ × V) → List (κ × Value) → Prop := Paired fun (p : κ × V) (q : κ × Value) => p.1 = q.1 ∧ RelV p.2 q.2

/-- a key of a dict (00_mix): an int or a text -/
def kV : Key → V
  | .inl none => .non
  | .inl (some i) => .int i
  | .inr x => .str x

/-- what stands at a tracked address -/
inductive HO where
  /-- a list -/
  | lst (xs : List V)
  /-- a tuple (never changes) -/
  | tup (xs : List V)
  /-- a dict whose keys are ints and texts; one whose keys are tuples of ints and texts (the empty one is both) -/
  | dK (kvs : List (Key × V)) | dT (kvs : List (List Key × V))
  /-- a set of ints: its members, its size -/
  | set (S : Int → Bool) (n : Nat)
  /-- an instance of the class at C, its dict at dx, its attributes -/
  | ins (C dx : Addr) (fs : List (Str × V))
  /-- the dict of the instance at x -/
  | own (x : Addr)
  /-- the dict of an exception -/
  | xd (fs : List (Str × V))
  /-- a bound method, f of x -/
  | met (f x : Addr)
  /-- a range object lo, lo + 1, .. below hi -/
  | rng (lo hi : Int)
  /-- a thing that is known to the object (the script; a dict while a loop walks it): read, never written while it is so -/
  | frz (o : Obj) (u : HO)
  /-- a code object's table -/
  | tbl (ps : Array Value)
  /-- any other thing, by what is true of its one object (a def of one's own: SetO a S n := HO.ext fun h => ..) -/
  | ext (φ : Heap → Prop)

abbrev Hp := Addr → Option HO
def upd (H : Hp) (a : Addr) (o : HO) : Hp := fun b => if b = a then some o else H b
theorem upd_same {H : Hp} {a : Addr} {o : HO} : upd H a o a = some o := by unfold upd; rw [if_pos rfl]
theorem upd_ne {H : Hp} {a b : Addr} {o : HO} (h : b ≠ a) : upd H a o b = H b := by unfold upd; rw [if_neg h]
/-- two objects of different content stand apart -/
theorem ne_of {H : Hp} {a b : Addr} {o u : HO} (h : H a = some o) (h' : H b = some u) (d : o ≠ u) : a ≠ b := by
  intro e; subst e; rw [h] at h'; exact d (Option.some.inj h')
theorem ne_of_none {H : Hp} {a b : Addr} {o : HO} (h : H a = some o) (h' : H b = none) : a ≠ b := by
  intro e; subst e; rw [h] at h'; cases h'

/-- a tuple of no dict of its own -/
def TupN (h : Heap) (a : Addr) (items : Array Value) : Prop := ∃ o, h.get? a = some o ∧ o.cls = .type "tuple" ∧ (∃ n, o.data = .seq items n) ∧ o.dict = none
theorem TupN.tup {h : Heap} {a : Addr} {items : Array Value} (x : TupN h a items) : IsTup h a items := let ⟨o, e, c, d, _⟩ := x; ⟨o, e, c, d⟩
theorem TupN.new (h : Heap) (items : Array Value) : TupN (h.push { cls := .type "tuple", data := .seq items }) h.objs.size items := ⟨_, Heap.get?_push_size _ rfl, rfl, ⟨_, rfl⟩, rfl⟩
section
variable (P : Program) (w : World)
def ObjOk (H : Hp) (h : Heap) (a : Addr) : HO → Prop
  | .lst xs => xs.length ≤ sizeLine ∧ ∃ (its : List Value) (n : Nat), Vals xs its ∧ h.get? a = some { cls := .type "list", data := .seq its.toArray n }
  | .tup xs => xs.length ≤ sizeLine ∧ ∃ its : List Value, Vals xs its ∧ TupN h a its.toArray
  | .dK kvs => kvs.length ≤ sizeLine ∧ (a == sysModules) = false ∧ ∃ vs, KV kvs vs ∧ h.DictOf (mixKind P w) a vs
  | .dT kvs => kvs.length ≤ sizeLine ∧ (a == sysModules) = false ∧ ∃ xs : List (List Key × Addr × Value),
      Paired (fun (p : List Key × V) (q : List Key × Addr × Value) => p.1 = q.1 ∧ H q.2.1 = some (.tup (p.1.map kV)) ∧ RelV p.2 q.2.2) kvs xs ∧
      ∃ o es ep, h.get? a = some o ∧ o.ExactDict ∧ o.data = .dict es ep ∧ es.toList = xs.map (entryOfKey (tupleKind (mixKind P w))) ∧ (xs.map (·.1)).Nodup
  | .set S n => h.SetOf (intKind P w) a S n
  | .ins C dx fs => H dx = some (.own a) ∧ fs.length ≤ 1000 ∧ dx ≠ a ∧ h.get? a = some (PySem.W.instObj C dx) ∧
      ∃ mA, h.Ns1 dx mA ∧ (∀ f, RelO (fs.lookup f) (mA f)) ∧ PySem.Within mA (fs.map (·.1))
  | .own _ => ∃ o, h.get? a = some o
  | .xd fs => ∃ mA, h.Ns1 a mA ∧ ∀ f, RelO (fs.lookup f) (mA f)
  | .rng lo hi => ∃ t u v, h.get? a = some { cls := .type "range", data := .fields #[.int lo t, .int hi u, .int 1 v] }
  | .frz o u => h.get? a = some o ∧ ObjOk H h a u
  | .tbl ps => h.get? a = some { cls := .none, data := .fields ps }
  | .met f x => h.get? a = some (PySem.W.methodObj (.ref f) (.ref x))
  | .ext φ => φ h ∧ (∃ o, h.get? a = some o) ∧ ∀ h1 h2 : Heap, φ h1 → (∀ o, h1.get? a = some o → h2.get? a = some o) → φ h2
/-- the abstract heap is held -/
def HOk (H : Hp) (h : Heap) : Prop := ∀ a o, H a = some o → ObjOk P w H h a o
end

section
variable {P : Program} {w : World} {H H' : Hp} {h h' : Heap} {a : Addr} {o : HO}
theorem ObjOk.lt (x : ObjOk P w H h a o) : a < h.objs.size := by
  cases o with
  | lst xs => obtain ⟨_, _, _, _, e⟩ := x; exact Heap.lt_size e
  | tup xs => obtain ⟨_, _, _, p⟩ := x; exact p.tup.lt
  | dK kvs => obtain ⟨_, _, _, _, o, _, _, e, _⟩ := x; exact Heap.lt_size e
  | dT kvs => obtain ⟨_, _, _, _, o, _, _, e, _⟩ := x; exact Heap.lt_size e
  | set S n => obtain ⟨o, _, _, _, e, _⟩ := x; exact Heap.lt_size e
  | ins C dx fs => obtain ⟨_, _, _, e, _⟩ := x; exact Heap.lt_size e
  | own y => obtain ⟨_, e⟩ := x; exact Heap.lt_size e
  | xd fs => obtain ⟨_, ⟨_, _, _, e, _⟩, _⟩ := x; exact Heap.lt_size e
  | rng lo hi => obtain ⟨_, _, _, e⟩ := x; exact Heap.lt_size e
  | frz ob u => obtain ⟨e, _⟩ := x; exact Heap.lt_size e
  | tbl ps => exact Heap.lt_size (show h.get? a = some _ from x)
  | met f y => exact Heap.lt_size (show h.get? a = some _ from x)
  | ext φ => obtain ⟨_, ⟨_, e⟩, _⟩ := x; exact Heap.lt_size e
theorem Paired.mapP {α β : Type} {F G : α → β → Prop} : ∀ {l₁ : List α} {l₂ : List β}, Paired F l₁ l₂ → (∀ a b, F a b → G a b) → Paired G l₁ l₂
  | _, _, .nil, _ => .nil
  | _, _, .cons r t, f => .cons (f _ _ r) (Paired.mapP t f)
/-- what an object's description leans on: its own object, its own dict, the tuples -/
theorem ObjOk.stay (x : ObjOk P w H h a o) (k : ∀ b u, (b = a ∨ H b = some (.own a)) → h.get? b = some u → h'.get? b = some u)
    (ho : ∀ b, H b = some (.own a) → H' b = some (.own a)) (ht : ∀ b xs, H b = some (.tup xs) → H' b = some (.tup xs)) : ObjOk P w H' h' a o := by
  induction o with
  | lst xs => obtain ⟨z, its, n, r, e⟩ := x; exact ⟨z, its, n, r, k _ _ (.inl rfl) e⟩
  | tup xs => obtain ⟨z, its, r, ob, e, c⟩ := x; exact ⟨z, its, r, ob, k _ _ (.inl rfl) e, c⟩
  | dK kvs => obtain ⟨z, y, vs, r, ob, es, ep, e, c⟩ := x; exact ⟨z, y, vs, r, ob, es, ep, k _ _ (.inl rfl) e, c⟩
  | dT kvs =>
    obtain ⟨z, y, xs, r, ob, es, ep, e, c⟩ := x
    exact ⟨z, y, xs, Paired.mapP r fun p q z => ⟨z.1, ht _ _ z.2.1, z.2.2⟩, ob, es, ep, k _ _ (.inl rfl) e, c⟩
  | set S n => obtain ⟨ob, es, ep, t, e, c⟩ := x; exact ⟨ob, es, ep, t, k _ _ (.inl rfl) e, c⟩
  | ins C dx fs =>
    obtain ⟨d, z, ne, e, mA, ⟨od, es, ep, e2, c⟩, r⟩ := x
    exact ⟨ho _ d, z, ne, k _ _ (.inl rfl) e, mA, ⟨od, es, ep, k _ _ (.inr d) e2, c⟩, r⟩
  | own y => obtain ⟨ob, e⟩ := x; exact ⟨ob, k _ _ (.inl rfl) e⟩
  | xd fs => obtain ⟨mA, ⟨od, es, ep, e, c⟩, r⟩ := x; exact ⟨mA, ⟨od, es, ep, k _ _ (.inl rfl) e, c⟩, r⟩
  | rng lo hi => obtain ⟨t, u, v, e⟩ := x; exact ⟨t, u, v, k _ _ (.inl rfl) e⟩
  | frz ob u ih => obtain ⟨e, q⟩ := x; exact ⟨k _ _ (.inl rfl) e, ih q⟩
  | tbl ps =>
    have e : h.get? a = some { cls := .none, data := .fields ps } := x
    show h'.get? a = some { cls := .none, data := .fields ps }
    exact k a _ (.inl rfl) e
  | met f y =>
    have e : h.get? a = some (PySem.W.methodObj (.ref f) (.ref y)) := x
    show h'.get? a = some (PySem.W.methodObj (.ref f) (.ref y))
    exact k a _ (.inl rfl) e
  | ext φ => obtain ⟨p, ⟨o, e⟩, st⟩ := x; exact ⟨st _ _ p fun o q => k _ _ (.inl rfl) q, ⟨o, k _ _ (.inl rfl) e⟩, st⟩
theorem HOk.lt (x : HOk P w H h) (e : H a = some o) : a < h.objs.size := (x a o e).lt
theorem HOk.fresh (x : HOk P w H h) (e : h.objs.size ≤ a) : H a = none := by
  cases q : H a with
  | none => rfl
  | some u => exact absurd (Nat.lt_of_lt_of_le (x.lt q) e) (Nat.lt_irrefl _)
/-- every object of the heap is kept -/
theorem HOk.kept (x : HOk P w H h) (k : ∀ b u, h.get? b = some u → h'.get? b = some u) : HOk P w H h' := fun a o e =>
  (x a o e).stay (fun b u _ q => k b u q) (fun _ q => q) fun _ _ q => q
/-- a new object is laid and tracked -/
theorem HOk.laid (x : HOk P w H h) (k : ∀ b u, h.get? b = some u → h'.get? b = some u) (hp : h.objs.size ≤ a) (new : ObjOk P w (upd H a o) h' a o) : HOk P w (upd H a o) h' := fun b u e => by
  have hn := x.fresh hp
  by_cases hb : b = a
  · subst hb; rw [upd_same] at e; cases e; exact new
  · rw [upd_ne hb] at e
    exact (x b u e).stay (fun c v _ q => k c v q) (fun c q => by rw [upd_ne (ne_of_none q hn)]; exact q) fun c xs q => by rw [upd_ne (ne_of_none q hn)]; exact q
end

/-- what may be read as u: it is u, or a known u -/
def Rd (H : Hp) (a : Addr) (u : HO) : Prop := H a = some u ∨ ∃ o, H a = some (.frz o u)
theorem Rd.ok {P : Program} {w : World} {H : Hp} {h : Heap} {a : Addr} {u : HO} (r : Rd H a u) (x : HOk P w H h) : ObjOk P w H h a u := by
  rcases r with r | ⟨o, r⟩
  · exact x a u r
  · obtain ⟨_, q⟩ := x a _ r
    exact q
/-- what may be written -/
def Mut : Option HO → Prop
  | some (.lst _) => True
  | some (.dK _) => True
  | some (.dT _) => True
  | some (.set _ _) => True
  | some (.ins _ _ _) => True
  | some (.ext _) => True
  | _ => False
section
variable {P : Program} {w : World} {H : Hp} {h h' : Heap} {x e : Addr} {o' : HO}
/-- the object at e is changed: x itself, or the dict of the instance x -/
theorem HOk.write (ok : HOk P w H h) (mu : Mut (H x)) (he : e = x ∨ H e = some (.own x)) (k : ∀ b u, b ≠ e → h.get? b = some u → h'.get? b = some u) (heo : ∃ u, h'.get? e = some u)
    (new : ObjOk P w (upd H x o') h' x o') : HOk P w (upd H x o') h' := fun b u q => by
  have nown : ∀ c y, H c = some (.own y) → c ≠ x := fun c y r z => by subst z; rw [r] at mu; exact mu
  have ntup : ∀ c xs, H c = some (.tup xs) → c ≠ x := fun c xs r z => by subst z; rw [r] at mu; exact mu
  by_cases hb : b = x
  · subst hb; rw [upd_same] at q; cases q; exact new
  · rw [upd_ne hb] at q
    by_cases hbe : b = e
    · have q' : H b = some (.own x) := by
        rcases he with z | z
        · exact absurd (hbe.trans z) hb
        · rw [hbe]; exact z
      rw [q] at q'; cases q'
      obtain ⟨v, hv⟩ := heo
      exact ⟨v, by rw [hbe]; exact hv⟩
    · refine (ok b u q).stay (fun c v hc r => k c v ?_ r) (fun c r => by rw [upd_ne (nown c b r)]; exact r) fun c xs r => by rw [upd_ne (ntup c xs r)]; exact r
      rcases hc with rfl | hc
      · exact hbe
      · rintro rfl
        rcases he with z | z
        · exact nown c b hc z
        · rw [hc] at z; cases z; exact hb rfl
end

/-! ### kept unless tracked; of the frames at fs (the callers') the slots may change (an exception that passes writes there); of the records at ex (iterators) nothing is said -/
structure Un (fs ex : List Addr) (H H' : Hp) (h h' : Heap) : Prop where
  keep : ∀ b o, h.get? b = some o → H b = none → b ∉ fs → b ∉ ex → h'.get? b = some o
  slot : ∀ b o, h.get? b = some o → H b = none → b ∈ fs → b ∉ ex → ∃ sl, h'.get? b = some { o with slots := sl }
  free : ∀ b o, h.get? b = some o → H b = none → b ∉ ex → H' b = none
  there : ∀ b o, h.get? b = some o → b ∉ ex → ∃ o', h'.get? b = some o'
  tups : ∀ b xs, H b = some (.tup xs) → H' b = some (.tup xs)
  frzs : ∀ b o u, H b = some (.frz o u) → H' b = some (.frz o u)
  tbls : ∀ b ps, H b = some (.tbl ps) → ∃ more, H' b = some (.tbl (ps ++ more))
section
variable {fs fs' ex ex' : List Addr} {H H1 H2 : Hp} {h h1 h2 h' : Heap} {a x e : Addr} {o : HO}
theorem Un.any (u : Un fs ex H H1 h h1) {b : Addr} {ob : Obj} (q : h.get? b = some ob) (n : H b = none) (hx : b ∉ ex) : ∃ sl, h1.get? b = some { ob with slots := sl } := by
  by_cases hb : b ∈ fs
  · exact u.slot b ob q n hb hx
  · exact ⟨ob.slots, u.keep b ob q n hb hx⟩
theorem Un.kept (k : ∀ b u, h.get? b = some u → h'.get? b = some u) : Un fs ex H H h h' :=
  ⟨fun b ob q _ _ _ => k b ob q, fun b ob q _ _ _ => ⟨ob.slots, k b ob q⟩, fun _ _ _ n _ => n, fun b ob q _ => ⟨ob, k b ob q⟩, fun _ _ q => q, fun _ _ _ q => q, fun _ ps q => ⟨#[], by rw [q]; simp⟩⟩
theorem Un.refl : Un fs ex H H h h := Un.kept fun _ _ q => q
theorem Un.laid (k : ∀ b u, h.get? b = some u → h'.get? b = some u) (hp : h.objs.size ≤ a) (hn : H a = none) : Un fs ex H (upd H a o) h h' where
  keep := fun b u q _ _ _ => k b u q
  slot := fun b u q _ _ _ => ⟨u.slots, k b u q⟩
  free := fun b u q n _ => by rw [upd_ne (Nat.ne_of_lt (Nat.lt_of_lt_of_le (Heap.lt_size q) hp))]; exact n
  there := fun b u q _ => ⟨u, k b u q⟩
  tups := fun b xs q => by rw [upd_ne (ne_of_none q hn)]; exact q
  frzs := fun b u xs q => by rw [upd_ne (ne_of_none q hn)]; exact q
  tbls := fun b ps q => ⟨#[], by rw [upd_ne (ne_of_none q hn), q]; simp⟩
theorem Un.write (mu : Mut (H x)) (he : e = x ∨ H e = some (.own x)) (k : ∀ b u, b ≠ e → h.get? b = some u → h'.get? b = some u) (heo : ∃ u, h'.get? e = some u) : Un fs ex H (upd H x o) h h' := by
  have hx : ∀ b, H b = none → b ≠ x := fun b n z => by subst z; rw [n] at mu; exact mu
  have hb : ∀ b, H b = none → b ≠ e := fun b n z => by
    subst z
    rcases he with r | r
    · exact hx b n r
    · rw [n] at r; cases r
  have hm : ∀ b u, H b = some u → ¬ Mut (some u) → b ≠ x := fun b u q nm z => by subst z; rw [q] at mu; exact nm mu
  refine ⟨fun b u q n _ _ => k b u (hb b n) q, fun b u q n _ _ => ⟨u.slots, k b u (hb b n) q⟩, fun b u q n _ => by rw [upd_ne (hx b n)]; exact n, fun b u q _ => ?_,
    fun b xs q => by rw [upd_ne (hm b _ q fun z => z)]; exact q, fun b u xs q => by rw [upd_ne (hm b _ q fun z => z)]; exact q, fun b ps q => ⟨#[], by rw [upd_ne (hm b _ q fun z => z), q]; simp⟩⟩
  by_cases hbe : b = e
  · subst hbe; exact heo
  · exact ⟨u, k b u hbe q⟩
end

/-! ### the heap without what is tracked -/
def trk (h : Heap) (H : Hp) : List Addr := (List.range h.objs.size).filter fun a => (H a).isSome
def hidT (h : Heap) (H : Hp) : Heap := PySem.W.hideAll h (trk h H)
theorem hidT_size (h : Heap) (H : Hp) : (hidT h H).objs.size = h.objs.size := PySem.W.hideAll_size _ _
theorem hidT_get {h : Heap} {H : Hp} {b : Addr} {o : Obj} (e : h.get? b = some o) (n : H b = none) : (hidT h H).get? b = some o :=
  PySem.W.hideAll_get _ e fun hm => by
    have q : (H b).isSome = true := (List.mem_filter.mp hm).2
    rw [n] at q; simp at q
theorem of_hidT {h : Heap} {H : Hp} {b : Addr} {o : Obj} (e : (hidT h H).get? b = some o) : h.get? b = some o ∧ H b = none := by
  have e' : h.get? b = some o := PySem.W.of_hideAll (trk h H) e
  refine ⟨e', ?_⟩
  cases q : H b with
  | none => rfl
  | some x =>
    have hm : b ∈ trk h H := List.mem_filter.mpr ⟨List.mem_range.mpr (Heap.lt_size e'), by simp [q]⟩
    have z : (hidT h H).get? b = none := PySem.W.hideAll_none (trk h H) hm
    rw [z] at e; cases e

/-! ### OpenK's ledger, filled with every new object but one -/
def allNews (g h : Heap) (L : Addr) : List (Addr × Obj) := (List.range h.objs.size).filterMap fun a => if a = L ∨ (g.get? a).isSome = true then none else (h.get? a).map fun o => (a, o)
def rest (g h : Heap) (L d : Addr) : List (Addr × Obj) := (allNews g h L).filter fun p => decide (p.1 ≠ d)
end L2

namespace L2
open PySem PySem.Spec PyProof.Rows

/-- the module's facts, over the base: the heap at the law's entry without what is tracked there -/
structure Mod (K : PySem.W.Frag) (mg : Str → Option Value) (base : Heap) : Prop where
  kin : K.In base
  glob : base.Ns mainGlobals mg
  blt : ∃ mb, base.Ns builtinsNs mb ∧ ∀ x : Str, x ≠ "__name__" → mb x = bootBuiltins x
  nolimit : base.NoLimit

/-- the context: a def's body (or a comprehension's block) running. base: fixed through the whole law; s₀, H₀: the entry; outer: the frames whose slots others may change (a def's callers); stack: all frames that run;
   ex: iterators that were made ahead of the entry and are walked here (a comprehension's); fn: the names whose cells were made at the entry (a def: all; a comprehension's block: its own); calm: not within an except suite; pn: pins that every state bears; xe: what is wanted of an exception that leaves the code -/
structure Cx where
  prog : Program
  w : World
  K : PySem.W.Frag
  mg : Str → Option Value
  base : Heap
  A : Around
  N : List Str
  s₀ : Shared
  H₀ : Hp
  env : Env
  outer : List Env
  stack : List Env
  ex : List Addr
  fn : Str → Bool
  calm : Bool
  pn : List (Addr × Obj)
  xe : Value → Shared → Prop
/-- the callers' frames -/
def frs (l : List Env) : List Addr := l.filterMap (·.frame)
abbrev Cx.fs (X : Cx) : List Addr := frs X.outer

def Vis (sc : Scope) (x : Str) : Prop := sc.names.lookup x = some .local ∨ sc.names.lookup x = some .cell ∨ sc.names.lookup x = some .free
def Loc (sc : Scope) (x : Str) : Prop := sc.names.lookup x = some .local ∨ sc.names.lookup x = some .cell
def Look (env : Env) (h : Heap) (m : Str → Option Value) (x : Str) (u : Value) : Prop :=
  (env.kindOf x = some .local ∧ m x = some u) ∨ ((env.kindOf x = some .cell ∨ env.kindOf x = some .free) ∧ ∃ c, env.cells.lookup x = some c ∧ h.IsCell c (some u))

structure Cx.Ok (X : Cx) : Prop where
  mod : Mod X.K X.mg X.base
  kind : X.env.scope.kind = .function
  glob : X.env.globals = mainGlobals
  blt : X.env.builtins = builtinsNs
  above : X.s₀.heap.objs.size ≤ X.env.locals
  inj : ∀ x y c, X.env.cells.lookup x = some c → X.env.cells.lookup y = some c → x = y
  has : ∀ x, (X.env.kindOf x = some .cell ∨ X.env.kindOf x = some .free) → ∃ c, X.env.cells.lookup x = some c
  cab : ∀ x c, X.fn x = true → X.env.cells.lookup x = some c → X.s₀.heap.objs.size ≤ c
  hd : X.calm = true → X.A.handled = none
  frames : X.A.frames = some X.stack
  stk : X.stack = X.outer ∨ (X.stack = X.env :: X.outer ∧ X.env.frame = some X.env.locals)
  exf : ∀ b ∈ X.ex, b ≠ X.env.locals ∧ ∀ x c, X.env.cells.lookup x = some c → c ≠ b
  bs : ∀ b o, X.base.get? b = some o → X.s₀.heap.get? b = some o ∧ X.H₀ b = none
  bsz : X.base.objs.size ≤ X.s₀.heap.objs.size
  noex : ∀ b o, X.base.get? b = some o → b ∉ X.ex
  exfs : ∀ b ∈ X.ex, b ∉ X.fs
  funs : X.s₀.heap.FunFrames X.base X.outer
  frf : ∀ b ∈ X.fs, X.H₀ b = none

structure Inv (X : Cx) (pins : List (Addr × Obj)) (σ : List (Option V)) (H : Hp) (s : Shared) : Prop where
  ok : X.Ok
  os : s.os = X.s₀.os
  bare : AllBare s.gens
  base : Un X.fs X.ex X.H₀ H X.s₀.heap s.heap
  loc : ∃ m, s.heap.Ns X.env.locals m ∧ ∀ (i : Nat) (x : Str) (v : V), X.N[i]? = some x → σ[i]? = some (some v) → Vis X.env.scope x → ∃ u, RelV v u ∧ Look X.env s.heap m x u
  cell : ∀ x c, X.env.cells.lookup x = some c → ∃ v, s.heap.IsCell c v
  free : H X.env.locals = none
  freeC : ∀ x c, X.env.cells.lookup x = some c → H c = none
  pin : ∀ p ∈ X.pn ++ pins, s.heap.get? p.1 = some p.2 ∧ H p.1 = none ∧ p.1 ≠ X.env.locals ∧ p.1 ∉ X.fs ∧ ∀ v, p.2.data ≠ .cell v
  hok : HOk X.prog X.w H s.heap
  len : σ.length = X.N.length

section
variable {X : Cx} {pins : List (Addr × Obj)} {σ : List (Option V)} {H H' : Hp} {s : Shared} {h' : Heap}

theorem Cx.Ok.nofr (ok : X.Ok) {b : Addr} {o : Obj} (e : X.base.get? b = some o) : b ∉ X.fs := fun hb => by
  have := (ok.funs.mem hb).1
  rw [e] at this; cases this
theorem Inv.bs (I : Inv X pins σ H s) : ∀ b o, X.base.get? b = some o → s.heap.get? b = some o ∧ H b = none := fun b o e =>
  ⟨I.base.keep b o (I.ok.bs b o e).1 (I.ok.bs b o e).2 (I.ok.nofr e) (I.ok.noex b o e), I.base.free b o (I.ok.bs b o e).1 (I.ok.bs b o e).2 (I.ok.noex b o e)⟩
theorem Inv.bk (I : Inv X pins σ H s) : ∀ b o, X.base.get? b = some o → s.heap.get? b = some o := fun b o e => (I.bs b o e).1
theorem Inv.mod (I : Inv X pins σ H s) : Mod X.K X.mg X.base := I.ok.mod
theorem Inv.kIn (I : Inv X pins σ H s) : X.K.In s.heap := I.ok.mod.kin.keeps I.bk
theorem Inv.lt (I : Inv X pins σ H s) : X.env.locals < s.heap.objs.size := let ⟨_, hn, _⟩ := I.loc; hn.lt
theorem Inv.sz (I : Inv X pins σ H s) : X.s₀.heap.objs.size ≤ s.heap.objs.size := Nat.le_trans I.ok.above (Nat.le_of_lt I.lt)
theorem Inv.nofs (I : Inv X pins σ H s) {a : Addr} (h : s.heap.objs.size ≤ a) : a ∉ X.fs := fun hb => by
  obtain ⟨_, o, ho, _⟩ := I.ok.funs.mem hb
  exact absurd (Nat.lt_of_lt_of_le (Heap.lt_size ho) (Nat.le_trans I.sz h)) (Nat.lt_irrefl _)
theorem Inv.cne (I : Inv X pins σ H s) : ∀ x c, X.env.cells.lookup x = some c → c ≠ X.env.locals := fun x c e z => by
  obtain ⟨v, o, ho, hd⟩ := I.cell x c e
  obtain ⟨m, ⟨o', es, ep, ho', hd', _⟩, _⟩ := I.loc
  rw [z, ho'] at ho; cases ho; rw [hd'] at hd; cases hd
theorem Inv.funs (I : Inv X pins σ H s) : s.heap.FunFrames X.base X.outer := by
  have all : ∀ (l : List Env), (∀ b ∈ frs l, b ∈ X.fs) → X.s₀.heap.FunFrames X.base l → s.heap.FunFrames X.base l := by
    intro l
    induction l with
    | nil => intro _ _; trivial
    | cons env r ih =>
      intro hs hl
      obtain ⟨hk, ⟨L, o, hf, hn, ho, hd⟩, hr⟩ := hl
      have hL : L ∈ X.fs := hs L (by unfold frs; rw [List.filterMap_cons, hf]; exact List.mem_cons_self)
      obtain ⟨sl, e⟩ := I.base.slot L o ho (I.ok.frf L hL) hL fun z => I.ok.exfs L z hL
      exact ⟨hk, ⟨L, _, hf, hn, e, hd⟩, ih (fun b hb => hs b (by unfold frs; rw [List.filterMap_cons, hf]; exact List.mem_cons_of_mem _ hb)) hr⟩
  exact all X.outer (fun _ hb => hb) I.ok.funs

/-- the frames that run, for a call -/
theorem Inv.stack (I : Inv X pins σ H s) : s.heap.FunFrames X.base X.stack := by
  rcases I.ok.stk with e | ⟨e, hf⟩
  · rw [e]; exact I.funs
  · rw [e]
    obtain ⟨m, hn, _⟩ := I.loc
    refine .cons (by rw [I.ok.kind]; decide) hf hn ?_ I.funs
    exact Heap.get?_none_of_le (Nat.le_trans I.ok.bsz I.ok.above)
theorem Inv.stkSub (I : Inv X pins σ H s) : ∀ b ∈ frs X.stack, b ∈ X.env.locals :: X.fs := fun b hb => by
  rcases I.ok.stk with e | ⟨e, hf⟩
  · rw [e] at hb; exact List.mem_cons_of_mem _ hb
  · rw [e] at hb
    unfold frs at hb
    rw [List.filterMap_cons, hf] at hb
    exact hb
theorem Inv.stkFree (I : Inv X pins σ H s) : ∀ b ∈ frs X.stack, H b = none := fun b hb => by
  rcases List.mem_cons.mp (I.stkSub b hb) with e | hb
  · rw [e]; exact I.free
  · obtain ⟨_, o, ho, _⟩ := I.ok.funs.mem hb
    exact I.base.free b o ho (I.ok.frf b hb) fun z => I.ok.exfs b z hb

/-- THE STEP: the untracked objects but the frame and the records at ch are kept (the callers' frames up to slots), the frame's map is kept, the new abstract heap is held -/
theorem Inv.step {g' : Array GenState} {t' : Nat} {d' : Drawn} {ch : List Addr} (I : Inv X pins σ H s)
    (hch : ∀ b ∈ ch, (b ∈ X.ex ∨ X.s₀.heap.objs.size ≤ b) ∧ b ≠ X.env.locals ∧ (∀ x c, X.env.cells.lookup x = some c → c ≠ b) ∧ ∀ p ∈ X.pn ++ pins, p.1 ≠ b)
    (keep : ∀ b o, b ≠ X.env.locals → b ∉ X.fs → b ∉ ch → s.heap.get? b = some o → H b = none → h'.get? b = some o)
    (slot : ∀ b o, b ≠ X.env.locals → b ∈ X.fs → b ∉ ch → s.heap.get? b = some o → H b = none → ∃ sl, h'.get? b = some { o with slots := sl }) (free : ∀ b o, b ∉ ch → s.heap.get? b = some o → H b = none → H' b = none)
    (there : ∀ b o, b ∉ ch → s.heap.get? b = some o → ∃ o', h'.get? b = some o')
    (tups : ∀ b xs, H b = some (.tup xs) → H' b = some (.tup xs)) (frzs : ∀ b o u, H b = some (.frz o u) → H' b = some (.frz o u)) (tbls : ∀ b ps, H b = some (.tbl ps) → ∃ more, H' b = some (.tbl (ps ++ more)))
    (ns : ∀ m, s.heap.Ns X.env.locals m → h'.Ns X.env.locals m) (hok : HOk X.prog X.w H' h') (hg : AllBare g') :
    Inv X pins σ H' { s with heap := h', gens := g', drawn := d', toks := t' } := by
  have neL : ∀ b o, X.s₀.heap.get? b = some o → b ≠ X.env.locals := fun b o e => Nat.ne_of_lt (Nat.lt_of_lt_of_le (Heap.lt_size e) I.ok.above)
  have neC : ∀ b o, X.s₀.heap.get? b = some o → b ∉ X.ex → b ∉ ch := fun b o e hx hb => by
    rcases (hch b hb).1 with z | z
    · exact hx z
    · exact absurd (Nat.lt_of_lt_of_le (Heap.lt_size e) z) (Nat.lt_irrefl _)
  have cellK : ∀ x c, X.env.cells.lookup x = some c → ∀ v, s.heap.IsCell c v → h'.IsCell c v := fun x c e v ⟨o, ho, hd⟩ => by
    have nch : c ∉ ch := fun z => (hch c z).2.2.1 x c e rfl
    by_cases hc : c ∈ X.fs
    · obtain ⟨sl, q⟩ := slot c o (I.cne x c e) hc nch ho (I.freeC x c e)
      exact ⟨_, q, hd⟩
    · exact ⟨o, keep c o (I.cne x c e) hc nch ho (I.freeC x c e), hd⟩
  refine ⟨I.ok, I.os, hg, ⟨fun b o e n hb hx => ?_, fun b o e n hb hx => ?_, fun b o e n hx => ?_, fun b o e hx => ?_, fun b xs e => tups b xs (I.base.tups b xs e), fun b o xs e => frzs b o xs (I.base.frzs b o xs e), fun b ps e => ?_⟩, ?_, fun x c e => ?_, ?_, fun x c e => ?_, fun p hp => ?_, hok, I.len⟩
  · exact keep b o (neL b o e) hb (neC b o e hx) (I.base.keep b o e n hb hx) (I.base.free b o e n hx)
  · obtain ⟨sl, e1⟩ := I.base.slot b o e n hb hx
    obtain ⟨sl', e2⟩ := slot b _ (neL b o e) hb (neC b o e hx) e1 (I.base.free b o e n hx)
    exact ⟨sl', e2⟩
  · obtain ⟨o', e1⟩ := I.base.there b o e hx
    exact free b o' (neC b o e hx) e1 (I.base.free b o e n hx)
  · obtain ⟨o', e1⟩ := I.base.there b o e hx
    exact there b o' (neC b o e hx) e1
  · obtain ⟨m1, e1⟩ := I.base.tbls b ps e
    obtain ⟨m2, e2⟩ := tbls b _ e1
    exact ⟨m1 ++ m2, by rw [e2, Array.append_assoc]⟩
  · obtain ⟨m, hn, hl⟩ := I.loc
    refine ⟨m, ns m hn, fun i x v e1 e2 e3 => ?_⟩
    obtain ⟨u, r, l⟩ := hl i x v e1 e2 e3
    refine ⟨u, r, ?_⟩
    rcases l with l | ⟨k, c, e, z⟩
    · exact .inl l
    · exact .inr ⟨k, c, e, cellK x c e _ z⟩
  · obtain ⟨v, z⟩ := I.cell x c e
    exact ⟨v, cellK x c e v z⟩
  · obtain ⟨m, ⟨o, _, _, ho, _⟩, _⟩ := I.loc
    exact free _ o (fun z => (hch _ z).2.1 rfl) ho I.free
  · obtain ⟨v, o, ho, hd⟩ := I.cell x c e
    exact free c o (fun z => (hch c z).2.2.1 x c e rfl) ho (I.freeC x c e)
  · obtain ⟨e, n, ne, nf, d⟩ := I.pin p hp
    have nch : p.1 ∉ ch := fun z => (hch p.1 z).2.2.2 p hp rfl
    exact ⟨keep p.1 p.2 ne nf nch e n, free p.1 p.2 nch e n, ne, nf, d⟩
/-- .. where the frame's own object is kept too -/
theorem Inv.un {t' : Nat} (I : Inv X pins σ H s) (u : Un X.fs [] H H' s.heap h') (hok : HOk X.prog X.w H' h') : Inv X pins σ H' { s with heap := h', toks := t' } := by
  obtain ⟨m, ⟨o, es, ep, ho, r⟩, _⟩ := id I.loc
  obtain ⟨sl, hL⟩ := u.any ho I.free (by simp)
  exact I.step (g' := s.gens) (d' := s.drawn) (ch := []) (fun _ z => nomatch z) (fun b o _ hb _ e n => u.keep b o e n hb (by simp)) (fun b o _ hb _ e n => u.slot b o e n hb (by simp)) (fun b o _ e n => u.free b o e n (by simp)) (fun b o _ e => u.there b o e (by simp)) u.tups u.frzs u.tbls (fun m' hm => by
    obtain ⟨o', es', ep', ho', r'⟩ := hm
    rw [ho] at ho'; cases ho'
    exact ⟨_, es', ep', hL, r'⟩) hok I.bare
/-- behind a call (or a comprehension's block): the slots of this frame may have changed too, the records at ch may have turned -/
theorem Inv.call {g' : Array GenState} {t' : Nat} {d' : Drawn} {ch : List Addr} (I : Inv X pins σ H s) (u : Un (frs X.stack) ch H H' s.heap h') (hok : HOk X.prog X.w H' h') (hg : AllBare g')
    (hch : ∀ b ∈ ch, (b ∈ X.ex ∨ X.s₀.heap.objs.size ≤ b) ∧ b ≠ X.env.locals ∧ (∀ x c, X.env.cells.lookup x = some c → c ≠ b) ∧ ∀ p ∈ X.pn ++ pins, p.1 ≠ b) :
    Inv X pins σ H' { s with heap := h', gens := g', drawn := d', toks := t' } := by
  obtain ⟨m, ⟨o, es, ep, ho, r⟩, _⟩ := id I.loc
  obtain ⟨sl, hL⟩ := u.any ho I.free fun z => (hch _ z).2.1 rfl
  exact I.step (ch := ch) hch (fun b o hL hb hc e n => u.keep b o e n (fun z => (List.mem_cons.mp (I.stkSub b z)).elim hL hb) hc) (fun b o _ _ hc e n => u.any e n hc) (fun b o hc e n => u.free b o e n hc) (fun b o hc e => u.there b o e hc) u.tups u.frzs u.tbls (fun m' hm => by
    obtain ⟨o', es', ep', ho', r'⟩ := hm
    rw [ho] at ho'; cases ho'
    exact ⟨_, es', ep', hL, r'⟩) hok hg
/-- an untracked record of ours (an iterator) has turned -/
theorem Inv.turned {t' : Nat} {it : Addr} (I : Inv X pins σ H s) (k : ∀ b o, b ≠ it → s.heap.get? b = some o → h'.get? b = some o) (hn : H it = none) (hL : it ≠ X.env.locals)
    (h1 : it ∈ X.ex ∨ X.s₀.heap.objs.size ≤ it) (h2 : ∀ x c, X.env.cells.lookup x = some c → c ≠ it) (h3 : ∀ p ∈ X.pn ++ pins, p.1 ≠ it) : Inv X pins σ H { s with heap := h', toks := t' } := by
  have nit : ∀ b u, H b = some u → b ≠ it := fun b u e z => by rw [z, hn] at e; cases e
  refine I.step (g' := s.gens) (d' := s.drawn) (ch := [it]) (fun b hb => ?_) (fun b o _ _ hc e _ => k b o (fun z => hc (by simp [z])) e) (fun b o _ _ hc e _ => ⟨o.slots, k b o (fun z => hc (by simp [z])) e⟩) (fun _ _ _ _ n => n)
    (fun b o hc e => ⟨o, k b o (fun z => hc (by simp [z])) e⟩) (fun _ _ e => e) (fun _ _ _ e => e) (fun b ps e => ⟨#[], by rw [e]; simp⟩) (fun m hm => ?_) (fun b u e => ?_) I.bare
  · have e : b = it := by simpa using hb
    subst e
    exact ⟨h1, hL, h2, h3⟩
  · obtain ⟨o, es, ep, ho, r⟩ := hm
    exact ⟨o, es, ep, k _ o (Ne.symm hL) ho, r⟩
  · refine (I.hok b u e).stay (fun c v hc q => k c v ?_ q) (fun _ q => q) fun _ _ q => q
    rcases hc with z | z
    · rw [z]; exact nit b u e
    · exact nit c _ z
theorem Inv.tok (I : Inv X pins σ H s) (t : Nat) : Inv X pins σ H { s with toks := t } := I.un (h' := s.heap) (t' := t) Un.refl I.hok
/-- all objects kept -/
theorem Inv.kept {t' : Nat} (I : Inv X pins σ H s) (k : ∀ b u, s.heap.get? b = some u → h'.get? b = some u) : Inv X pins σ H { s with heap := h', toks := t' } := I.un (Un.kept k) (I.hok.kept k)
/-- a new object laid and tracked -/
theorem Inv.laid {a : Addr} {o : HO} {t' : Nat} (I : Inv X pins σ H s) (k : ∀ b u, s.heap.get? b = some u → h'.get? b = some u) (hp : s.heap.objs.size ≤ a) (new : ObjOk X.prog X.w (upd H a o) h' a o) :
    Inv X pins σ (upd H a o) { s with heap := h', toks := t' } := I.un (Un.laid k hp (I.hok.fresh hp)) (I.hok.laid k hp new)
/-- an object written -/
theorem Inv.write {x e : Addr} {o : HO} {t' : Nat} (I : Inv X pins σ H s) (mu : Mut (H x)) (he : e = x ∨ H e = some (.own x)) (k : ∀ b u, b ≠ e → s.heap.get? b = some u → h'.get? b = some u) (heo : ∃ u, h'.get? e = some u)
    (new : ObjOk X.prog X.w (upd H x o) h' x o) : Inv X pins σ (upd H x o) { s with heap := h', toks := t' } := I.un (Un.write mu he k heo) (I.hok.write mu he k heo new)
theorem Inv.pins_of {pins' : List (Addr × Obj)} (I : Inv X pins σ H s) (h : ∀ p ∈ pins', s.heap.get? p.1 = some p.2 ∧ H p.1 = none ∧ p.1 ≠ X.env.locals ∧ p.1 ∉ X.fs ∧ ∀ v, p.2.data ≠ .cell v) : Inv X pins' σ H s :=
  ⟨I.ok, I.os, I.bare, I.base, I.loc, I.cell, I.free, I.freeC, fun p hp => (List.mem_append.mp hp).elim (fun z => I.pin p (List.mem_append_left _ z)) (h p), I.hok, I.len⟩

theorem nodup_ix {N : List Str} (hN : N.Nodup) {i j : Nat} {x : Str} (a : N[i]? = some x) (b : N[j]? = some x) : i = j := by
  obtain ⟨h1, e1⟩ := List.getElem?_eq_some_iff.mp a
  obtain ⟨h2, e2⟩ := List.getElem?_eq_some_iff.mp b
  exact (List.getElem_inj hN).mp (e1.trans e2.symm)

/-- a name is stored; what changed -/
theorem store_ok2 {M : Model} {A : Around} {E : Value → Shared → Prop} {i : Nat} {x : Str} {v : V} {u : Value} {Q : Unit → Shared → Prop} (I : Inv X pins σ H s) (hN : X.N.Nodup) (hi : X.N[i]? = some x) (hx : Loc X.env.scope x) (r : RelV v u)
    (h : ∀ s', Inv X pins (σ.set i (some v)) H s' → (∃ a, Heap.SameBut a s.heap s'.heap ∧ (a = X.env.locals ∨ X.env.cells.lookup x = some a)) → Q () s') (hf : X.fn x = true ∨ X.env.scope.names.lookup x = some .local := by first | exact .inl rfl | exact .inr rfl | assumption) : wpAny M A (storeName X.env x u) Q E s := by
  obtain ⟨m, hn, hl⟩ := id I.loc
  have hcls : (X.env.scope.kind == .class || (X.env.scope.kind == .module && X.env.locals != X.env.globals)) = false := by rw [I.ok.kind]; rfl
  have hiσ : i < σ.length := by rw [I.len]; exact (List.getElem?_eq_some_iff.mp hi).1
  have cne := I.cne
  have tracked : ∀ {a : Addr} {h' : Heap}, (∃ o, s.heap.get? a = some o ∧ H a = none) → Heap.SameBut a s.heap h' → HOk X.prog X.w H h' := fun {a h'} ha hs b ob e => by
    obtain ⟨_, _, hfree⟩ := ha
    refine (I.hok b ob e).stay (fun c w' hc q => (hs.2 c ?_).trans q) (fun _ q => q) fun _ _ q => q
    rintro rfl
    rcases hc with rfl | hc
    · rw [hfree] at e; cases e
    · rw [hfree] at hc; cases hc
  rcases hx with hk | hk
  · refine wpAny_storeName_local hk hn (fun h' hn' hs => ?_) hcls
    obtain ⟨oL, _, _, hoL, _⟩ := id hn
    refine h _ ⟨I.ok, I.os, I.bare, ⟨fun b o e n hb hx => ?_, fun b o e n hb hx => ?_, I.base.free, fun b o e hx => ?_, I.base.tups, I.base.frzs, I.base.tbls⟩, ⟨_, hn', fun j y v' e1 e2 e3 => ?_⟩, fun y c e => ?_, I.free, I.freeC, fun p hp => ?_, tracked ⟨oL, hoL, I.free⟩ hs, by simpa using I.len⟩ ⟨_, hs, .inl rfl⟩
    · exact (hs.2 b (Nat.ne_of_lt (Nat.lt_of_lt_of_le (Heap.lt_size e) I.ok.above))).trans (I.base.keep b o e n hb hx)
    · obtain ⟨sl, e1⟩ := I.base.slot b o e n hb hx
      exact ⟨sl, (hs.2 b (Nat.ne_of_lt (Nat.lt_of_lt_of_le (Heap.lt_size e) I.ok.above))).trans e1⟩
    · obtain ⟨o', e1⟩ := I.base.there b o e hx
      exact ⟨o', (hs.2 b (Nat.ne_of_lt (Nat.lt_of_lt_of_le (Heap.lt_size e) I.ok.above))).trans e1⟩
    · by_cases hj : j = i
      · subst hj
        rw [hi] at e1; cases e1
        rw [List.getElem?_set_self hiσ] at e2
        cases e2
        exact ⟨u, r, .inl ⟨hk, by simp⟩⟩
      · rw [List.getElem?_set_ne (Ne.symm hj)] at e2
        obtain ⟨u', r', q⟩ := hl j y v' e1 e2 e3
        refine ⟨u', r', ?_⟩
        rcases q with ⟨k, e⟩ | ⟨k, c, e, z⟩
        · refine .inl ⟨k, ?_⟩
          have : y ≠ x := fun e => hj (nodup_ix hN e1 (e ▸ hi))
          simp [this, e]
        · exact .inr ⟨k, c, e, z.sameBut hs (cne y c e)⟩
    · obtain ⟨w', z⟩ := I.cell y c e
      exact ⟨w', z.sameBut hs (cne y c e)⟩
    · obtain ⟨e, n, ne, nf, d⟩ := I.pin p hp
      exact ⟨(hs.2 p.1 ne).trans e, n, ne, nf, d⟩
  · have hfn : X.fn x = true := by
      rcases hf with z | z
      · exact z
      · rw [z] at hk; cases hk
    obtain ⟨c, hc⟩ := I.ok.has x (.inl hk)
    obtain ⟨w', z⟩ := I.cell x c hc
    refine wpAny_storeName_cell I.ok.kind hk hc z (fun h' hc' hs => ?_)
    obtain ⟨oc, hoc, hocd⟩ := id z
    refine h { s with heap := h' } ⟨I.ok, I.os, I.bare, ⟨fun b o e n hb hx => ?_, fun b o e n hb hx => ?_, I.base.free, fun b o e hx => ?_, I.base.tups, I.base.frzs, I.base.tbls⟩, ⟨m, hn.sameBut hs (Ne.symm (cne x c hc)), fun j y v' e1 e2 e3 => ?_⟩, fun y c' e => ?_, I.free, I.freeC, fun p hp => ?_, tracked ⟨oc, hoc, I.freeC x c hc⟩ hs, by simpa using I.len⟩ ⟨c, hs, .inr hc⟩
    · exact (hs.2 b (Nat.ne_of_lt (Nat.lt_of_lt_of_le (Heap.lt_size e) (I.ok.cab x c hfn hc)))).trans (I.base.keep b o e n hb hx)
    · obtain ⟨sl, e1⟩ := I.base.slot b o e n hb hx
      exact ⟨sl, (hs.2 b (Nat.ne_of_lt (Nat.lt_of_lt_of_le (Heap.lt_size e) (I.ok.cab x c hfn hc)))).trans e1⟩
    · obtain ⟨o', e1⟩ := I.base.there b o e hx
      exact ⟨o', (hs.2 b (Nat.ne_of_lt (Nat.lt_of_lt_of_le (Heap.lt_size e) (I.ok.cab x c hfn hc)))).trans e1⟩
    · by_cases hj : j = i
      · subst hj
        rw [hi] at e1; cases e1
        rw [List.getElem?_set_self hiσ] at e2
        cases e2
        exact ⟨u, r, .inr ⟨.inl hk, c, hc, hc'⟩⟩
      · rw [List.getElem?_set_ne (Ne.symm hj)] at e2
        obtain ⟨u', r', q⟩ := hl j y v' e1 e2 e3
        refine ⟨u', r', ?_⟩
        rcases q with q | ⟨k, c', e, z'⟩
        · exact .inl q
        · refine .inr ⟨k, c', e, z'.sameBut hs ?_⟩
          rintro rfl
          exact hj (nodup_ix hN e1 (I.ok.inj _ _ _ e hc ▸ hi))
    · by_cases hcc : c' = c
      · subst hcc; exact ⟨_, hc'⟩
      · obtain ⟨w2, z2⟩ := I.cell y c' e
        exact ⟨w2, z2.sameBut hs hcc⟩
    · obtain ⟨e, n, ne, nf, d⟩ := I.pin p hp
      refine ⟨(hs.2 p.1 ?_).trans e, n, ne, nf, d⟩
      intro q
      rw [q, hoc] at e
      have q' : oc = p.2 := Option.some.inj e
      exact d w' (by rw [← q']; exact hocd)
theorem store_ok {M : Model} {A : Around} {E : Value → Shared → Prop} {i : Nat} {x : Str} {v : V} {u : Value} {Q : Unit → Shared → Prop} (I : Inv X pins σ H s) (hN : X.N.Nodup) (hi : X.N[i]? = some x) (hx : Loc X.env.scope x) (r : RelV v u)
    (h : ∀ s', Inv X pins (σ.set i (some v)) H s' → Q () s') (hf : X.fn x = true ∨ X.env.scope.names.lookup x = some .local := by first | exact .inl rfl | exact .inr rfl | assumption) : wpAny M A (storeName X.env x u) Q E s :=
  store_ok2 I hN hi hx r (fun s' I' _ => h s' I') hf
/-- behind a call or a block, the state as it is -/
theorem Inv.call' {s' : Shared} {ch : List Addr} (I : Inv X pins σ H s) (ho : s'.os = s.os) (u : Un (frs X.stack) ch H H' s.heap s'.heap) (hok : HOk X.prog X.w H' s'.heap) (hg : AllBare s'.gens)
    (hch : ∀ b ∈ ch, (b ∈ X.ex ∨ X.s₀.heap.objs.size ≤ b) ∧ b ≠ X.env.locals ∧ (∀ x c, X.env.cells.lookup x = some c → c ≠ b) ∧ ∀ p ∈ X.pn ++ pins, p.1 ≠ b) : Inv X pins σ H' s' := by
  obtain ⟨h', g', d', t', o'⟩ := s'
  have e : o' = s.os := ho
  subst e
  exact I.call (g' := g') (t' := t') (d' := d') u hok hg hch
end

/-! ### the judgements -/
/-- an exception: its class, its own dict's address (where it has one), the abstract heap behind it -/
abbrev XK := Value → Option Addr → Hp → Prop
abbrev St := List (Option V)
abbrev VK := V → Hp → Prop
/-- an expression's reading; a test's; an argument list's -/
abbrev TE := St → Hp → VK → Prop
abbrev TT := St → Hp → (Bool → Hp → Prop) → Prop
abbrev TA := St → Hp → (List V → Hp → Prop) → Prop
/-- what is wanted behind a statement -/
structure Ends where
  nx : St → Hp → Prop
  rt : VK
  bk : St → Hp → Prop := fun _ _ => False
  ct : St → Hp → Prop := fun _ _ => False
abbrev TS := Ends → St → Hp → Prop

def EP (X : Cx) (pins : List (Addr × Obj)) (σ : St) (Q : VK) (u : Value) (s' : Shared) : Prop := ∃ v H', Inv X pins σ H' s' ∧ RelV v u ∧ Q v H'
def TP (X : Cx) (pins : List (Addr × Obj)) (σ : St) (Q : Bool → Hp → Prop) (b : Bool) (s' : Shared) : Prop := ∃ H', Inv X pins σ H' s' ∧ Q b H'
def AP (X : Cx) (pins : List (Addr × Obj)) (σ : St) (Q : List V → Hp → Prop) (us : List Value) (s' : Shared) : Prop := ∃ vs H', Inv X pins σ H' s' ∧ Vals vs us ∧ Q vs H'
def SP (X : Cx) (pins : List (Addr × Obj)) (D : Ends) (f : Flow) (s' : Shared) : Prop :=
  match f with
  | .next => ∃ σ' H', Inv X pins σ' H' s' ∧ D.nx σ' H'
  | .brk => ∃ σ' H', Inv X pins σ' H' s' ∧ D.bk σ' H'
  | .cont => ∃ σ' H', Inv X pins σ' H' s' ∧ D.ct σ' H'
  | .ret u => ∃ v σ' H', Inv X pins σ' H' s' ∧ RelV v u ∧ D.rt v H'

def PE (X : Cx) (e : Expr) (t : TE) : Prop :=
  ∀ (pins : List (Addr × Obj)) (s : Shared) (σ : St) (H : Hp) (Q : VK), Inv X pins σ H s → t σ H Q → wpAny (model X.prog X.w) X.A (eval e X.env) (EP X pins σ Q) X.xe s
def PT (X : Cx) (e : Expr) (t : TT) : Prop :=
  ∀ (pins : List (Addr × Obj)) (s : Shared) (σ : St) (H : Hp) (Q : Bool → Hp → Prop), Inv X pins σ H s → t σ H Q → wpAny (model X.prog X.w) X.A (isTrue e X.env (eval e X.env)) (TP X pins σ Q) X.xe s
/-- a test whatever its 'whole' is (and, or) -/
def PW (X : Cx) (e : Expr) (t : TT) : Prop :=
  ∀ (whole : Sem Value) (pins : List (Addr × Obj)) (s : Shared) (σ : St) (H : Hp) (Q : Bool → Hp → Prop), Inv X pins σ H s → t σ H Q → wpAny (model X.prog X.w) X.A (isTrue e X.env whole) (TP X pins σ Q) X.xe s
theorem PW.pt {X : Cx} {e : Expr} {t : TT} (h : PW X e t) : PT X e t := h _
/-- an argument list (no star), from the left -/
def PA (X : Cx) (es : List Expr) (t : TA) : Prop :=
  ∀ (pos : Pos) (pins : List (Addr × Obj)) (s : Shared) (σ : St) (H : Hp) (Q : List V → Hp → Prop), Inv X pins σ H s → t σ H Q → wpAny (model X.prog X.w) X.A (spliced (backTo pos (starEach es X.env))) (AP X pins σ Q) X.xe s
def PS (X : Cx) (st : Stmt) (t : TS) : Prop :=
  ∀ (pins : List (Addr × Obj)) (s : Shared) (σ : St) (H : Hp) (D : Ends), Inv X pins σ H s → t D σ H → wpAny (model X.prog X.w) X.A (exec st X.env) (SP X pins D) X.xe s
def PSs (X : Cx) (st : List Stmt) (t : TS) : Prop :=
  ∀ (pins : List (Addr × Obj)) (s : Shared) (σ : St) (H : Hp) (D : Ends), Inv X pins σ H s → t D σ H → wpAny (model X.prog X.w) X.A (execs st X.env) (SP X pins D) X.xe s
/-- weaken the end -/
theorem thn {α : Type} {t : Sem α} {Q Q' : α → Shared → Prop} {M : Model} {A : Around} {E : Value → Shared → Prop} {s : Shared} (h : wpAny M A t Q E s) (hQ : ∀ a s, Q a s → Q' a s) : wpAny M A t Q' E s := wpAny_mono h hQ fun _ _ x => x
end L2

namespace L2
open PySem PySem.Spec PyProof.Rows
section
variable {X : Cx}


/-! ### names and constants -/
def tVar (i : Nat) : TE := fun σ H Q => ∃ v, σ[i]? = some (some v) ∧ Q v H
def tC (v : V) : TE := fun _ H Q => Q v H
theorem pe_var {i : Nat} {x : Str} {pos : Pos} (hN : X.N[i]? = some x) (hv : Vis X.env.scope x) (hd : (x == ("__debug__" : Str)) = false := by decide) (hcd : (x == ("__classdict__" : Str)) = false := by decide) : PE X (.Name x pos) (tVar i) := by
  intro pins s σ H Q I h
  obtain ⟨v, e, h⟩ := h
  obtain ⟨m, hn, hl⟩ := I.loc
  obtain ⟨u, r, l⟩ := hl i x v hN e hv
  have fin : EP X pins σ Q u s := ⟨v, H, I, r, h⟩
  rcases l with ⟨hk, hm⟩ | ⟨hk, c, hc, hcell⟩
  · exact wpAny_Name (wpAny_loadName_local I.ok.kind hk hn hm fin) hd
  · rcases hk with hk | hk
    · exact wpAny_Name (wpAny_loadName_cell I.ok.kind hk hc hcell fin) hd
    · exact wpAny_Name (wpAny_loadName_free I.ok.kind hk hc hcell fin hcd) hd
theorem pe_int {i j pos} : PE X (.Constant (.int i) j pos) (tC (.int i)) := fun _ _ _ H _ I h => wpAny_Constant_int ⟨.int i, H, I.tok _, ⟨_, rfl⟩, h⟩
theorem pe_bl {b j pos} : PE X (.Constant (.bool b) j pos) (tC (.bl b)) := fun _ _ _ H _ I h => Constant_bool ⟨.bl b, H, I, rfl, h⟩
theorem pe_str {x j pos} : PE X (.Constant (.str x) j pos) (tC (.str x)) := fun _ _ _ H _ I h => Calls.Constant_str ⟨.str x, H, I.tok _, ⟨_, rfl⟩, h⟩

/-- a global name of the def -/
def Gl (X : Cx) (x : Str) : Prop := X.env.kindOf x = some .globalImplicit
theorem ld_glob {E : Value → Shared → Prop} {pins : List (Addr × Obj)} {s : Shared} {σ : St} {H : Hp} {x : Str} {u : Value} {pos : Pos} {Q : Value → Shared → Prop} (I : Inv X pins σ H s) (hg : Gl X x) (hm : X.mg x = some u) (h : Q u s)
    (hd : (x == ("__debug__" : Str)) = false := by decide) : wpAny (model X.prog X.w) X.A (eval (.Name x pos) X.env) Q E s :=
  Calls.Name_function_global I.ok.kind hg (Calls.loadGlobal_global (by rw [I.ok.glob]; exact I.mod.glob.keeps I.bk) hm h) hd
theorem ld_blt {E : Value → Shared → Prop} {pins : List (Addr × Obj)} {s : Shared} {σ : St} {H : Hp} {x : Str} {u : Value} {pos : Pos} {Q : Value → Shared → Prop} (I : Inv X pins σ H s) (hg : Gl X x) (hm : X.mg x = none) (hv : bootBuiltins x = some u) (h : Q u s)
    (hn : x ≠ "__name__" := by decide) (hd : (x == ("__debug__" : Str)) = false := by decide) : wpAny (model X.prog X.w) X.A (eval (.Name x pos) X.env) Q E s := by
  obtain ⟨mb, h1, h2⟩ := I.mod.blt
  exact Calls.Name_function_global I.ok.kind hg (Calls.loadGlobal_builtin (by rw [I.ok.glob]; exact I.mod.glob.keeps I.bk) hm (by rw [I.ok.blt]; exact h1.keeps I.bk) ((h2 x hn).trans hv) h) hd
theorem pe_bltn {x : Str} {v : V} {u : Value} {pos : Pos} (hg : Gl X x) (hm : X.mg x = none) (hv : bootBuiltins x = some u) (r : RelV v u) (hn : x ≠ "__name__" := by decide) (hd : (x == ("__debug__" : Str)) = false := by decide) : PE X (.Name x pos) (tC v) :=
  fun _ _ _ H _ I h => ld_blt I hg hm hv ⟨v, H, I, r, h⟩ hn hd

/-! ### arithmetic -/
variable {a b : Expr} {ta tb : TE} {pos : Pos}

/-! ### comparisons -/
def PC (X : Cx) (op : CmpOp) (a b : Expr) (t : TE) : Prop :=
  ∀ (pins : List (Addr × Obj)) (s : Shared) (σ : St) (H : Hp) (Q : VK), Inv X pins σ H s → t σ H Q →
    wpAny (model X.prog X.w) X.A (eval a X.env) (fun v s₁ => wpAny (model X.prog X.w) X.A (eval b X.env) (fun u s₂ => wpAny (model X.prog X.w) X.A (compareOp op v u) (EP X pins σ Q) X.xe s₂) X.xe s₁) X.xe s
/-- a comparison as a value, as a test -/
def tB (t : TE) : TT := fun σ H Q => t σ H fun x H1 => ∃ c, x = .bl c ∧ Q c H1
theorem pt_cmp {op : CmpOp} {t : TE} (h : PC X op a b t) (h1 : behindInMarks op b = false := by first | exact nobehind _ (by decide) (by decide) | rfl) : PT X (.Compare a [op] [b] pos) (tB t) := by
  intro pins s σ H Q I hw
  refine wpAny_isTrue_Compare1 (thn (h pins s σ H _ I hw) fun v s1 h1 => thn h1 fun u s2 h2 => thn h2 fun c s3 ⟨x, H1, I1, r1, q1⟩ => ?_) h1
  obtain ⟨d, rfl, q⟩ := q1
  cases r1
  exact wpAny_truthy_bool ⟨H1, I1, q⟩
/-- an expression whose value is a bool, as a test -/
theorem pt_val {e : Expr} {t : TE} (h : PE X e t) (he : ∀ whole, isTrue e X.env whole = (do let v ← whole; standAt e.pos; holding [v] (truthy v)) := by intro _; rfl) : PT X e (tB t) := by
  intro pins s σ H Q I hw
  refine isTrue_plain (thn (h pins s σ H _ I hw) fun v s1 ⟨x, H1, I1, r1, q1⟩ => ?_) (he _)
  obtain ⟨d, rfl, q⟩ := q1
  cases r1
  exact wpAny_truthy_bool ⟨H1, I1, q⟩

/-! ### and, or, not -/
variable {tA tB' : TT} {rest : List Expr}
def tAnd (t u : TT) : TT := fun σ H Q => t σ H fun c H1 => if c = true then u σ H1 Q else Q false H1
def tOr (t u : TT) : TT := fun σ H Q => t σ H fun c H1 => if c = true then Q true H1 else u σ H1 Q
def tNot (t : TT) : TT := fun σ H Q => t σ H fun c H1 => Q (!c) H1
theorem pw_and1 (ha : PT X a tA) : PW X (.BoolOp .And [a] pos) tA := by
  intro wh pins s σ H Q I h
  refine isTrue_and (thn (ha pins s σ H Q I h) fun c s1 e => ?_)
  cases c with
  | true => exact isTrue_and_nil e
  | false => exact e
theorem pw_or1 (ha : PT X a tA) : PW X (.BoolOp .Or [a] pos) tA := by
  intro wh pins s σ H Q I h
  refine isTrue_or (thn (ha pins s σ H Q I h) fun c s1 e => ?_)
  cases c with
  | false => exact isTrue_or_nil e
  | true => exact e
theorem pw_and (ha : PT X a tA) (hb : PW X (.BoolOp .And (b :: rest) pos) tB') : PW X (.BoolOp .And (a :: b :: rest) pos) (tAnd tA tB') := by
  intro wh pins s σ H Q I h
  refine isTrue_and (thn (ha pins s σ H _ I h) fun c s1 ⟨H1, I1, q1⟩ => ?_)
  cases c with
  | true => exact hb wh pins s1 σ H1 Q I1 q1
  | false => exact ⟨H1, I1, q1⟩
theorem pw_or (ha : PT X a tA) (hb : PW X (.BoolOp .Or (b :: rest) pos) tB') : PW X (.BoolOp .Or (a :: b :: rest) pos) (tOr tA tB') := by
  intro wh pins s σ H Q I h
  refine isTrue_or (thn (ha pins s σ H _ I h) fun c s1 ⟨H1, I1, q1⟩ => ?_)
  cases c with
  | true => exact ⟨H1, I1, q1⟩
  | false => exact hb wh pins s1 σ H1 Q I1 q1
theorem pt_not (ha : PT X a tA) : PT X (.UnaryOp .Not a pos) (tNot tA) := by
  intro pins s σ H Q I h
  exact isTrue_not (ha pins s σ H (fun c H1 => Q (!c) H1) I h)
/-- .. as values (bools) -/
def tAndV (ta tb : TE) : TE := fun σ H Q => ta σ H fun x H1 => ∃ c, x = .bl c ∧ if c = true then tb σ H1 Q else Q (.bl false) H1
theorem pe_one {op} {t : TE} (h : PE X a t) : PE X (.BoolOp op [a] pos) t := fun pins s σ H Q I hw => BoolOp_one (h pins s σ H Q I hw)
theorem pe_and (ha : PE X a ta) (hb : PE X (.BoolOp .And (b :: rest) pos) tb) : PE X (.BoolOp .And (a :: b :: rest) pos) (tAndV ta tb) := by
  intro pins s σ H Q I h
  refine BoolOp_and (thn (ha pins s σ H _ I h) fun v s1 ⟨x, H1, I1, r1, q1⟩ => ?_)
  obtain ⟨c, rfl, q1⟩ := q1
  cases r1
  refine wpAny_truthy_bool ?_
  cases c with
  | true => exact hb pins s1 σ H1 Q I1 q1
  | false => exact ⟨.bl false, H1, I1, rfl, q1⟩
/-- a if t else b -/
def tIf (t : TT) (ta tb : TE) : TE := fun σ H Q => t σ H fun c H1 => if c = true then ta σ H1 Q else tb σ H1 Q
theorem pe_ifExp {c : Expr} (hc : PT X c tA) (ha : PE X a ta) (hb : PE X b tb) : PE X (.IfExp c a b pos) (tIf tA ta tb) := by
  intro pins s σ H Q I h
  refine wpAny_IfExp (thn (hc pins s σ H _ I h) fun d s1 ⟨H1, I1, q1⟩ => ?_)
  cases d with
  | true => exact ha pins s1 σ H1 Q I1 q1
  | false => exact hb pins s1 σ H1 Q I1 q1
end
end L2

namespace L2
open PySem PySem.Spec PyProof.Rows

/-! ### a list, a tuple that is read: tracked, frozen, or an object of the module -/
def SqL (K : PySem.W.Frag) (H : Hp) (a : Addr) (xs : List V) : Prop :=
  Rd H a (.lst xs) ∨
    ∃ (o : Obj) (its : Array Value) (n : Nat), K.lookup a = some o ∧ o.cls = .type "list" ∧ o.dict = none ∧ o.data = .seq its n ∧ its.size ≤ sizeLine ∧ Vals xs its.toList
def SqT (K : PySem.W.Frag) (H : Hp) (a : Addr) (xs : List V) : Prop :=
  Rd H a (.tup xs) ∨
    ∃ (o : Obj) (its : Array Value) (n : Nat), K.lookup a = some o ∧ o.cls = .type "tuple" ∧ o.data = .seq its n ∧ its.size ≤ sizeLine ∧ Vals xs its.toList
def absV : Value → Option V
  | .none => some .non
  | .bool b => some (.bl b)
  | .int i _ => some (.int i)
  | .str x _ => some (.str x)
  | .bytes b _ => some (.byt b)
  | .float b _ => some (.flt b)
  | .ref a => some (.ref a)
  | .type n => some (.ty n)
  | _ => none
theorem RelV.abs {x : V} {u : Value} (r : RelV x u) : absV u = some x := by
  cases x with
  | non => cases r; rfl
  | bl _ => cases r; rfl
  | int _ => obtain ⟨t, rfl⟩ := r; rfl
  | str _ => obtain ⟨t, rfl⟩ := r; rfl
  | byt _ => obtain ⟨t, rfl⟩ := r; rfl
  | flt _ => obtain ⟨t, rfl⟩ := r; rfl
  | ref _ => cases r; rfl
  | ty _ => cases r; rfl
theorem RelV.inj {x y : V} {u : Value} (r : RelV x u) (q : RelV y u) : x = y := Option.some.inj (r.abs.symm.trans q.abs)
theorem Vals.inj : ∀ {xs ys : List V} {us : List Value}, Vals xs us → Vals ys us → xs = ys
  | _, _, _, .nil, .nil => rfl
  | _, _, _, .cons r t, .cons r' t' => by rw [r.inj r', Vals.inj t t']
section
variable {X : Cx} {pins : List (Addr × Obj)} {σ : St} {H : Hp} {s : Shared} {a : Addr} {xs ys : List V}
theorem SqL.of {K : PySem.W.Frag} (h : H a = some (.lst xs)) : SqL K H a xs := .inl (.inl h)
theorem SqT.of {K : PySem.W.Frag} (h : H a = some (.tup xs)) : SqT K H a xs := .inl (.inl h)
theorem Inv.list (I : Inv X pins σ H s) (h : SqL X.K H a xs) : ∃ its : List Value, Vals xs its ∧ PlainL s.heap a its.toArray ∧ xs.length ≤ sizeLine := by
  rcases h with h | ⟨o, its, n, hk, hc, hd, hs, hz, r⟩
  · obtain ⟨z, its, n, r, e⟩ := h.ok I.hok
    exact ⟨its, r, ⟨_, n, e, rfl, rfl, rfl⟩, z⟩
  · refine ⟨its.toList, r, ⟨o, n, I.kIn a o hk, hc, hd, by simpa using hs⟩, ?_⟩
    have e := r.length
    simp only [Array.length_toList] at e
    omega
theorem Inv.tuple (I : Inv X pins σ H s) (h : SqT X.K H a xs) : ∃ its : List Value, Vals xs its ∧ IsTup s.heap a its.toArray ∧ xs.length ≤ sizeLine := by
  rcases h with h | ⟨o, its, n, hk, hc, hs, hz, r⟩
  · obtain ⟨z, its, r, p⟩ := h.ok I.hok
    exact ⟨its, r, p.tup, z⟩
  · refine ⟨its.toList, r, ⟨o, I.kIn a o hk, hc, n, by simpa using hs⟩, ?_⟩
    have e := r.length
    simp only [Array.length_toList] at e
    omega
theorem Inv.list_inj (I : Inv X pins σ H s) (h : SqL X.K H a xs) (h' : SqL X.K H a ys) : xs = ys := by
  obtain ⟨its, r, ⟨o, n, e, _, _, d⟩, _⟩ := I.list h
  obtain ⟨its', r', ⟨o', n', e', _, _, d'⟩, _⟩ := I.list h'
  rw [e] at e'; cases e'
  rw [d] at d'
  injection d' with d1 _
  have : its = its' := by simpa using congrArg Array.toList d1
  subst this
  exact r.inj r'
theorem Inv.tuple_inj (I : Inv X pins σ H s) (h : SqT X.K H a xs) (h' : SqT X.K H a ys) : xs = ys := by
  obtain ⟨its, r, ⟨o, e, _, n, d⟩, _⟩ := I.tuple h
  obtain ⟨its', r', ⟨o', e', _, n', d'⟩, _⟩ := I.tuple h'
  rw [e] at e'; cases e'
  rw [d] at d'
  injection d' with d1 _
  have : its = its' := by simpa using congrArg Array.toList d1
  subst this
  exact r.inj r'
end

/-! ### another wish about exceptions -/
abbrev Cx.wish (X : Cx) (E : Value → Shared → Prop) : Cx := { X with xe := E }
/-- no exception leaves -/
abbrev Cx.nox (X : Cx) : Cx := X.wish fun _ _ => False
theorem Cx.Ok.wish {X : Cx} (ok : X.Ok) (E : Value → Shared → Prop) : (X.wish E).Ok :=
  ⟨ok.mod, ok.kind, ok.glob, ok.blt, ok.above, ok.inj, ok.has, ok.cab, ok.hd, ok.frames, ok.stk, ok.exf, ok.bs, ok.bsz, ok.noex, ok.exfs, ok.funs, ok.frf⟩
theorem Cx.Ok.unwish {X : Cx} {E : Value → Shared → Prop} (ok : (X.wish E).Ok) : X.Ok :=
  ⟨ok.mod, ok.kind, ok.glob, ok.blt, ok.above, ok.inj, ok.has, ok.cab, ok.hd, ok.frames, ok.stk, ok.exf, ok.bs, ok.bsz, ok.noex, ok.exfs, ok.funs, ok.frf⟩
section
variable {X : Cx} {pins : List (Addr × Obj)} {σ : St} {H : Hp} {s : Shared} {E : Value → Shared → Prop}
theorem Inv.wish (I : Inv X pins σ H s) (E : Value → Shared → Prop) : Inv (X.wish E) pins σ H s := ⟨I.ok.wish E, I.os, I.bare, I.base, I.loc, I.cell, I.free, I.freeC, I.pin, I.hok, I.len⟩
theorem Inv.unwish (I : Inv (X.wish E) pins σ H s) : Inv X pins σ H s := ⟨I.ok.unwish, I.os, I.bare, I.base, I.loc, I.cell, I.free, I.freeC, I.pin, I.hok, I.len⟩
theorem SP.unwish {D : Ends} {f : Flow} {s' : Shared} (h : SP (X.wish E) pins D f s') : SP X pins D f s' := by
  cases f with
  | next => obtain ⟨σ', H', I, q⟩ := h; exact ⟨σ', H', I.unwish, q⟩
  | brk => obtain ⟨σ', H', I, q⟩ := h; exact ⟨σ', H', I.unwish, q⟩
  | cont => obtain ⟨σ', H', I, q⟩ := h; exact ⟨σ', H', I.unwish, q⟩
  | ret u => obtain ⟨v, σ', H', I, r, q⟩ := h; exact ⟨v, σ', H', I.unwish, r, q⟩
theorem PSs.nox {st : List Stmt} {t : TS} (h : PSs X.nox st t) : PSs X st t := fun pins s σ H D I hw =>
  wpAny_mono (h pins s σ H D (I.wish _) hw) (fun _ _ q => q.unwish) fun _ _ z => False.elim z
end

/-! ### blocks and small statements -/
section
variable {X : Cx} {st : Stmt} {rest : List Stmt} {t u : TS} {e : Expr} {te : TE} {pos : Pos}
def tNext : TS := fun D σ H => D.nx σ H
def tSeq (t u : TS) : TS := fun D σ H => t { D with nx := u D } σ H
theorem pss_nil : PSs X [] tNext := fun _ _ σ H _ I h => wpAny_execs_nil ⟨σ, H, I, h⟩
theorem pss_cons (h1 : PS X st t) (h2 : PSs X rest u) : PSs X (st :: rest) (tSeq t u) := by
  intro pins s σ H D I h
  refine wpAny_execs_cons (thn (h1 pins s σ H { D with nx := u D } I h) fun f s1 q => ?_)
  cases f with
  | next =>
    obtain ⟨σ', H', I', q⟩ := q
    exact h2 pins s1 σ' H' D I' q
  | ret v => exact q
  | brk => exact q
  | cont => exact q
theorem pss_one (h1 : PS X st t) : PSs X [st] t := by
  intro pins s σ H D I h
  refine wpAny_execs_cons (thn (h1 pins s σ H D I h) fun f s1 q => ?_)
  cases f with
  | next => exact wpAny_execs_nil q
  | ret v => exact q
  | brk => exact q
  | cont => exact q
/-- in a def's body nothing is shown -/
theorem Inv.quiet {pins : List (Addr × Obj)} {σ : St} {H : Hp} {s : Shared} (I : Inv X pins σ H s) : interactive X.env = false := by simp [interactive, I.ok.kind]
/-- an expression whose value is dropped -/
def tDrop (te : TE) : TS := fun D σ H => te σ H fun _ H1 => D.nx σ H1
theorem ps_expr (he : PE X e te) (hs : swapsWith e none pos.line X.env = pure false := by rfl) : PS X (.Expr e pos) (tDrop te) := by
  intro pins s σ H D I h
  exact wpAny_Expr_any (thn (he pins s σ H _ I h) fun v s1 ⟨x, H1, I1, r1, q1⟩ => ⟨σ, H1, I1, q1⟩) I.quiet hs
def tRet (te : TE) : TS := fun D σ H => te σ H D.rt
theorem ps_ret (he : PE X e te) : PS X (.Return (some e) pos) (tRet te) := by
  intro pins s σ H D I h
  exact wpAny_Return_some (thn (he pins s σ H _ I h) fun v s1 ⟨x, H1, I1, r1, q1⟩ => ⟨x, σ, H1, I1, r1, q1⟩)
def tIfS (c : TT) (t u : TS) : TS := fun D σ H => c σ H fun b H1 => if b = true then t D σ H1 else u D σ H1
theorem ps_if {c : Expr} {a b : List Stmt} {tc : TT} (hc : PT X c tc) (ha : PSs X a t) (hb : PSs X b u) : PS X (.If c a b pos) (tIfS tc t u) := by
  intro pins s σ H D I h
  refine wpAny_If (thn (hc pins s σ H _ I h) fun d s1 ⟨H1, I1, q1⟩ => ?_)
  cases d with
  | true => exact ha pins s1 σ H1 D I1 q1
  | false => exact hb pins s1 σ H1 D I1 q1
end

/-! ### targets -/
abbrev TG := V → St → Hp → (St → Hp → Prop) → Prop
abbrev TGs := List V → St → Hp → (St → Hp → Prop) → Prop
def PG (X : Cx) (target : Expr) (t : TG) : Prop :=
  ∀ (pins : List (Addr × Obj)) (s : Shared) (σ : St) (H : Hp) (v : V) (u : Value) (Q : St → Hp → Prop), Inv X pins σ H s → RelV v u → t v σ H Q →
    wpAny (model X.prog X.w) X.A (assign target X.env u) (fun _ s' => ∃ σ' H', Inv X pins σ' H' s' ∧ Q σ' H') X.xe s
/-- several targets, one after another -/
def PGs (X : Cx) (ts : List Expr) (t : TGs) : Prop :=
  ∀ (pins : List (Addr × Obj)) (s : Shared) (σ : St) (H : Hp) (vs : List V) (us : List Value) (Q : St → Hp → Prop), Inv X pins σ H s → Vals vs us → t vs σ H Q →
    wpAny (model X.prog X.w) X.A (assignInOrder ((assignEach ts X.env).map (·.2)) us) (fun _ s' => ∃ σ' H', Inv X pins σ' H' s' ∧ Q σ' H') X.xe s
/-- o[i] = v, by values -/
abbrev TSet := V → V → V → Hp → (Hp → Prop) → Prop
def PSet (X : Cx) (t : TSet) : Prop :=
  ∀ (pins : List (Addr × Obj)) (s : Shared) (σ : St) (H : Hp) (o i v : V) (ov iv u : Value) (Q : Hp → Prop), Inv X pins σ H s → RelV o ov → RelV i iv → RelV v u → t o i v H Q →
    wpAny (model X.prog X.w) X.A (setItem ov iv u) (fun _ s' => ∃ H', Inv X pins σ H' s' ∧ Q H') X.xe s
/-- a op= b, by values -/
abbrev TIp := V → V → Hp → VK → Prop
def PIp (X : Cx) (op : Operator) (t : TIp) : Prop :=
  ∀ (pins : List (Addr × Obj)) (s : Shared) (σ : St) (H : Hp) (x y : V) (v u : Value) (Q : VK), Inv X pins σ H s → RelV x v → RelV y u → t x y H Q →
    wpAny (model X.prog X.w) X.A (inplaceOp op v u) (EP X pins σ Q) X.xe s
section
variable {X : Cx} {pos : Pos}
def gName (i : Nat) : TG := fun v σ H Q => Q (σ.set i (some v)) H
theorem pg_name {i : Nat} {x : Str} (hN : X.N.Nodup) (hi : X.N[i]? = some x) (hx : Loc X.env.scope x) (hf : X.fn x = true ∨ X.env.scope.names.lookup x = some .local := by first | exact .inl rfl | exact .inr rfl | assumption) : PG X (.Name x pos) (gName i) := by
  intro pins s σ H v u Q I r h
  exact wpAny_assign_Name (store_ok I hN hi hx r (fun s' I' => ⟨_, H, I', h⟩) hf)
def gNil : TGs := fun vs σ H Q => vs = [] ∧ Q σ H
def gCons (t : TG) (u : TGs) : TGs := fun vs σ H Q => ∃ v r, vs = v :: r ∧ t v σ H fun σ' H' => u r σ' H' Q
theorem pgs_nil : PGs X [] gNil := by
  intro pins s σ H vs us Q I r h
  obtain ⟨e, h⟩ := h
  subst e
  cases r
  exact assignInOrder_nil ⟨σ, H, I, h⟩
theorem pgs_cons {e : Expr} {es : List Expr} {t : TG} {u : TGs} (h1 : PG X e t) (h2 : PGs X es u)
    (hs : (assignEach (e :: es) X.env).map (·.2) = assign e X.env :: (assignEach es X.env).map (·.2) := by rfl) : PGs X (e :: es) (gCons t u) := by
  intro pins s σ H vs us Q I r h
  obtain ⟨v, vr, e1, h⟩ := h
  subst e1
  cases r with
  | cons r rr =>
    rw [hs]
    refine assignInOrder_cons (thn (h1 pins s σ H _ _ _ I r h) fun _ s1 ⟨σ1, H1, I1, q1⟩ => ?_)
    exact h2 pins s1 σ1 H1 _ _ Q I1 rr q1
/-- (a, b, ..) = a tuple of that length -/
def gTup (K : PySem.W.Frag) (n : Nat) (t : TGs) : TG := fun v σ H Q => ∃ a xs, v = .ref a ∧ SqT K H a xs ∧ xs.length = n ∧ t xs σ H Q
theorem pg_tup {es : List Expr} {k : Nat} {t : TGs} {n : Nat} (hc : X.calm = true) (h : PGs X es t)
    (hn : (assignEach es X.env).length = n := by rfl) (hst : (assignEach es X.env).findIdx? (·.1) = none := by rfl) : PG X (.Tuple es k pos) (gTup X.K n t) := by
  intro pins s σ H v u Q I r hw
  obtain ⟨a, xs, e1, hq, hl, hw⟩ := hw
  subst e1
  cases r
  obtain ⟨its, rv, ht, hz⟩ := I.tuple hq
  refine assign_Tuple_tuple (I.ok.hd hc) ht (by simp [hn, ← hl, rv.length]) hst fun h' hx => ?_
  have I1 : Inv X pins σ H { s with heap := h' } := I.kept (t' := s.toks) fun b o e => hx b o (Nat.ne_of_lt (Heap.lt_size e)) e
  exact h pins _ σ H xs _ Q I1 (by simpa using rv) hw
/-- o[i] = .. -/
def gSub (to ti : TE) (t : TSet) : TG := fun v σ H Q => to σ H fun o H1 => ti σ H1 fun i H2 => t o i v H2 fun H3 => Q σ H3
theorem pg_sub {o i : Expr} {to ti : TE} {t : TSet} (ho : PE X o to) (hi : PE X i ti) (hs : PSet X t)
    (ha : ∀ v, assign (.Subscript o i pos) X.env v = (do
      let ov ← holding [v] (eval o X.env)
      let iv ← holding [v, ov] (eval i X.env)
      standAt pos
      holding [v, ov, iv] (setItem ov iv v)
      release [v, ov, iv] []) := by intro _; rfl) : PG X (.Subscript o i pos) (gSub to ti t) := by
  intro pins s σ H v u Q I r h
  rw [ha]
  refine wpAny_bind (wpAny_holding (thn (ho pins s σ H _ I h) fun ov s1 ⟨x, H1, I1, r1, q1⟩ => ?_))
  refine wpAny_bind (wpAny_holding (thn (hi pins s1 σ H1 _ I1 q1) fun iv s2 ⟨y, H2, I2, r2, q2⟩ => ?_))
  refine wpAny_bind (wpAny_standAt (wpAny_bind (wpAny_holding (thn (hs pins s2 σ H2 x y v ov iv u _ I2 r1 r2 r q2) fun _ s3 ⟨H3, I3, q3⟩ => ?_))))
  exact wpAny_release ⟨σ, H3, I3, q3⟩
/-- target = value -/
def tAsg (te : TE) (g : TG) : TS := fun D σ H => te σ H fun x H1 => g x σ H1 D.nx
theorem ps_asg {tg e : Expr} {te : TE} {g : TG} (he : PE X e te) (hg : PG X tg g) (hs : swapsWithSole [tg] e pos.line X.env = pure false := by rfl) (hw : swappedStores [tg] e X.env = pure none := by rfl)
    (h1 : (assignEach [tg] X.env).map (·.2) = [assign tg X.env] := by rfl) : PS X (.Assign [tg] e pos) (tAsg te g) := by
  intro pins s σ H D I h
  refine wpAny_Assign_stores (thn (he pins s σ H _ I h) fun v s1 ⟨x, H1, I1, r1, q1⟩ => ?_) hs hw
  rw [h1]
  exact thn (hg pins s1 σ H1 x v _ I1 r1 q1) fun _ s2 q => q
/-- name = value -/
theorem ps_set {i : Nat} {x : Str} {e : Expr} {te : TE} {pos' : Pos} (hN : X.N.Nodup) (hi : X.N[i]? = some x) (hx : Loc X.env.scope x) (he : PE X e te) (hs : swapsWith e (some (.Name x pos')) pos.line X.env = pure false := by rfl) (hf : X.fn x = true ∨ X.env.scope.names.lookup x = some .local := by first | exact .inl rfl | exact .inr rfl | assumption) :
    PS X (.Assign [.Name x pos'] e pos) (tAsg te (gName i)) := by
  intro pins s σ H D I h
  refine wpAny_Assign_Name (thn (he pins s σ H _ I h) fun v s1 ⟨y, H1, I1, r1, q1⟩ => ?_) hs
  exact store_ok I1 hN hi hx r1 (fun s2 I2 => ⟨_, H1, I2, q1⟩) hf
/-- name op= e -/
def tAug (i : Nat) (te : TE) (ti : TIp) : TS := fun D σ H => ∃ x, σ[i]? = some (some x) ∧ te σ H fun y H1 => ti x y H1 fun z H2 => D.nx (σ.set i (some z)) H2
theorem ps_aug {i : Nat} {x : Str} {e : Expr} {te : TE} {op : Operator} {ti : TIp} {pos' : Pos} (hN : X.N.Nodup) (hi : X.N[i]? = some x) (hx : Loc X.env.scope x) (he : PE X e te) (ho : PIp X op ti) (hf : X.fn x = true ∨ X.env.scope.names.lookup x = some .local := by first | exact .inl rfl | exact .inr rfl | assumption) :
    PS X (.AugAssign (.Name x pos') op e pos) (tAug i te ti) := by
  intro pins s σ H D I h
  obtain ⟨v, e1, h⟩ := h
  obtain ⟨m, hn, hl⟩ := I.loc
  have vis : Vis X.env.scope x := by rcases hx with k | k; exact .inl k; exact .inr (.inl k)
  obtain ⟨u, r, l⟩ := hl i x v hi e1 vis
  refine wpAny_AugAssign_Name ?_
  have go : wpAny (model X.prog X.w) X.A (eval e X.env) (fun w s₂ => wpAny (model X.prog X.w) X.A (inplaceOp op u w) (fun r s₃ => wpAny (model X.prog X.w) X.A (storeName X.env x r) (fun _ => SP X pins D .next) X.xe s₃) X.xe s₂) X.xe s := by
    refine thn (he pins s σ H _ I h) fun w s1 ⟨y, H1, I1, r1, q1⟩ => ?_
    refine thn (ho pins s1 σ H1 v y u w _ I1 r r1 q1) fun z s2 ⟨zv, H2, I2, r2, q2⟩ => ?_
    exact store_ok I2 hN hi hx r2 (fun s3 I3 => ⟨_, H2, I3, q2⟩) hf
  rcases l with ⟨hk, hm⟩ | ⟨hk, c, hc, hcell⟩
  · exact wpAny_loadName_local I.ok.kind hk hn hm go
  · rcases hk with hk | hk
    · exact wpAny_loadName_cell I.ok.kind hk hc hcell go
    · rcases hx with k | k
      · have : X.env.scope.names.lookup x = some .free := hk
        rw [k] at this; cases this
      · have : X.env.scope.names.lookup x = some .free := hk
        rw [k] at this; cases this
end

/-! ### while -/
section
variable {X : Cx} {pos : Pos}
/-- the invariant W with its measure -/
def tWhile (c : TT) (tb : TS) : TS := fun D σ H => ∃ W : Nat → St → Hp → Prop, (∃ m, W m σ H) ∧ ∀ m σ H, W m σ H →
  c σ H fun b H1 => if b = true then ∃ N : St → Hp → Prop, (∀ σ' H', N σ' H' → ∃ m', m' < m ∧ W m' σ' H') ∧ tb { D with nx := N, ct := N, bk := D.nx } σ H1 else D.nx σ H1
theorem ps_while {c : Expr} {body : List Stmt} {tc : TT} {tb : TS} (hp : PassesOwn (model X.prog X.w) X.A X.env X.xe) (hc : PT X c tc) (hb : PSs X body tb) : PS X (.While c body [] pos) (tWhile tc tb) := by
  intro pins s σ H D I h
  obtain ⟨W, ⟨m0, w0⟩, turn⟩ := h
  refine wpAny_While (codeAny_whileLoop (fun n s' => ∃ σ' H', Inv X pins σ' H' s' ∧ W n σ' H') ?_ m0 ⟨σ, H, I, w0⟩)
  rintro n s1 ⟨σ1, H1, I1, w1⟩
  refine wpAny_passesOwn hp (thn (hc pins s1 σ1 H1 _ I1 (turn n σ1 H1 w1)) fun b s2 ⟨H2, I2, q2⟩ => ?_)
  cases b with
  | true =>
    obtain ⟨N, hN, q2⟩ := q2
    rw [if_pos rfl]
    refine wpAny_passesOwn hp (thn (hb pins s2 σ1 H2 _ I2 q2) fun f s3 q3 => ?_)
    cases f with
    | next =>
      obtain ⟨σ3, H3, I3, n3⟩ := q3
      obtain ⟨m', hm, w3⟩ := hN σ3 H3 n3
      exact ⟨m', hm, σ3, H3, I3, w3⟩
    | cont =>
      obtain ⟨σ3, H3, I3, n3⟩ := q3
      obtain ⟨m', hm, w3⟩ := hN σ3 H3 n3
      exact ⟨m', hm, σ3, H3, I3, w3⟩
    | brk => exact q3
    | ret v => exact q3
  | false =>
    rw [if_neg Bool.false_ne_true]
    exact wpAny_execs_nil ⟨σ1, H2, I2, q2⟩
end

/-! ### what a loop or a comprehension walks -/
/-- at turn i: it yields x (the heap may grow), or it stops -/
structure It where
  go : Nat → Hp → Prop
  yld : Nat → Hp → V → Hp → Prop
  stop : Nat → Hp → Prop
/-- the iterator's own objects may turn: they are not the frame's, not pinned, younger than the entry (or a comprehension's own) -/
def FpOk (X : Cx) (pins : List (Addr × Obj)) (H : Hp) (b : Addr) : Prop :=
  H b = none ∧ b ≠ X.env.locals ∧ b ∉ X.fs ∧ (b ∈ X.ex ∨ X.s₀.heap.objs.size ≤ b) ∧ (∀ x c, X.env.cells.lookup x = some c → c ≠ b) ∧ ∀ p ∈ X.pn ++ pins, p.1 ≠ b
theorem Inv.fpOk {X : Cx} {pins : List (Addr × Obj)} {σ : St} {H H' : Hp} {s : Shared} {b : Addr} (I : Inv X pins σ H s) (hb : s.heap.objs.size ≤ b) (hn : H' b = none) : FpOk X pins H' b := by
  refine ⟨hn, Nat.ne_of_gt (Nat.lt_of_lt_of_le I.lt hb), I.nofs hb, .inr (Nat.le_trans I.sz hb), fun x c e z => ?_, fun p hp z => ?_⟩
  · obtain ⟨v, q⟩ := I.cell x c e
    exact absurd (Nat.lt_of_lt_of_le q.lt (by rw [z]; exact hb)) (Nat.lt_irrefl _)
  · exact absurd (Nat.lt_of_lt_of_le (Heap.lt_size (I.pin p hp).1) (by rw [z]; exact hb)) (Nat.lt_irrefl _)
structure Turn (P : Program) (w : World) (K : PySem.W.Frag) (tg : Expr) (J : It) (fp : List Addr) (it : Addr) (tn : Nat → Heap → Prop) : Prop where
  mem : it ∈ fp
  obj : ∀ i h, tn i h → ∀ b ∈ fp, ∃ o, h.get? b = some o ∧ ∀ v, o.data ≠ .cell v
  keep : ∀ i h h', tn i h → (∀ b ∈ fp, ∀ o, h.get? b = some o → h'.get? b = some o) → tn i h'
  item : ∀ (X : Cx), X.prog = P → X.w = w → X.K = K → X.calm = true → ∀ (i : Nat) (pins : List (Addr × Obj)) (s : Shared) (σ : St) (H : Hp) (E : Value → Shared → Prop), Inv X pins σ H s → (∀ b ∈ fp, FpOk X pins H b) → tn i s.heap → J.go i H →
    wpAny (model P w) X.A (pyNext (.ref it)) (fun r s1 => ∃ u, r = some u ∧
      wpAny (model P w) X.A (letOwnedTupleGo tg (.ref it) u) (fun _ s2 => ∃ x H', Inv X pins σ H' s2 ∧ RelV x u ∧ J.yld i H x H' ∧ tn (i + 1) s2.heap ∧ ∀ b ∈ fp, H' b = none) E s1) E s
  done : ∀ (X : Cx), X.prog = P → X.w = w → X.K = K → X.calm = true → ∀ (i : Nat) (pins : List (Addr × Obj)) (s : Shared) (σ : St) (H : Hp) (E : Value → Shared → Prop), Inv X pins σ H s → (∀ b ∈ fp, FpOk X pins H b) → tn i s.heap → J.stop i H →
    wpAny (model P w) X.A (pyNext (.ref it)) (fun r s1 => r = none ∧ Inv X pins σ H s1) E s
  self : ∀ (A : Around) (i : Nat) (s : Shared) (Q : Value → Shared → Prop) (E : Value → Shared → Prop), tn i s.heap → Q (.ref it) s → wpAny (model P w) A (pyIter (.ref it)) Q E s
abbrev TI := St → Hp → (It → Hp → Prop) → Prop
/-- an iterator has come -/
def PIE (X : Cx) (pins : List (Addr × Obj)) (σ : St) (tg : Expr) (R : It → Hp → Prop) (itv : Value) (s2 : Shared) : Prop :=
  ∃ (it : Addr) (fp : List Addr) (tn : Nat → Heap → Prop) (J : It) (H' : Hp), itv = .ref it ∧ Inv X pins σ H' s2 ∧ Turn X.prog X.w X.K tg J fp it tn ∧ tn 0 s2.heap ∧ (∀ b ∈ fp, FpOk X pins H' b) ∧ R J H'
def PI (X : Cx) (tg iter : Expr) (wi : TI) : Prop :=
  ∀ (pins : List (Addr × Obj)) (s : Shared) (σ : St) (H : Hp) (R : It → Hp → Prop), Inv X pins σ H s → wi σ H R →
    wpAny (model X.prog X.w) X.A (eval iter X.env) (fun v s1 => wpAny (model X.prog X.w) X.A (pyIter v) (PIE X pins σ tg R) X.xe s1) X.xe s

/-- the step ahead of the store is nothing for an iterator that keeps no tuple -/
theorem go_of {M : Model} {A : Around} {E : Value → Shared → Prop} {s : Shared} {tg : Expr} {it : Addr} {u : Value} {o : Obj} {n : String} {vs : Array Value} {Q : Unit → Shared → Prop} (ho : s.heap.get? it = some o) (hc : o.cls = .type n) (hd : o.data = .fields vs)
    (hn : ["enumerate", "zip", "dict_itemiterator", "dict_reverseitemiterator", "odict_iterator", "itertools.zip_longest", "itertools.pairwise"].contains n = false) (hQ : Q () s) : wpAny M A (letOwnedTupleGo tg (.ref it) u) Q E s := by
  unfold letOwnedTupleGo
  cases tg <;> first
    | exact wpAny_pure hQ
    | (cases u <;> first
        | exact wpAny_pure hQ
        | (refine wpAny_bind (wpAny_load ho ?_)
           rw [hc, hd]
           show wpAny M A (if (["enumerate", "zip", "dict_itemiterator", "dict_reverseitemiterator", "odict_iterator", "itertools.zip_longest", "itertools.pairwise"].contains n && vs[0]? == some (rawInt _)) = true then _ else _) Q E s
           rw [if_neg (by intro h; rw [hn, Bool.false_and] at h; cases h)]
           exact wpAny_pure hQ))

/-- the list at a, as it stands at each turn (a loop may append to it) -/
def Itl (K : PySem.W.Frag) (a : Addr) : It :=
  ⟨fun i H => ∃ xs x, SqL K H a xs ∧ xs[i]? = some x, fun i H x H' => H' = H ∧ ∀ xs, SqL K H a xs → xs[i]? = some x, fun i H => ∃ xs, SqL K H a xs ∧ xs.length ≤ i⟩
def Itt (K : PySem.W.Frag) (a : Addr) : It :=
  ⟨fun i H => ∃ xs x, SqT K H a xs ∧ xs[i]? = some x, fun i H x H' => H' = H ∧ ∀ xs, SqT K H a xs → xs[i]? = some x, fun i H => ∃ xs, SqT K H a xs ∧ xs.length ≤ i⟩
/-- lo, lo + 1, .. (n of them) -/
def Itr (lo : Int) (n : Nat) : It := ⟨fun i _ => i < n, fun i H x H' => H' = H ∧ x = .int (lo + i), fun i _ => n ≤ i⟩
theorem turn_list {P : Program} {w : World} {K : PySem.W.Frag} {tg : Expr} (a it : Addr) : Turn P w K tg (Itl K a) [it] it (fun i h => h.IsListIter it a i) where
  mem := by simp
  obj := fun i h st b hb => by
    have e : b = it := by simpa using hb
    subst e
    obtain ⟨o, e, c, d⟩ := st
    exact ⟨o, e, fun v z => by rw [d] at z; cases z⟩
  keep := fun i h h' st k => st.at fun o e => k it (by simp) o e
  item := by
    intro X hP hw hK hc i pins s σ H E I hf st hg
    subst hP hw hK
    obtain ⟨xs, x, hq, hx⟩ := hg
    obtain ⟨its, rv, p, hz⟩ := I.list hq
    obtain ⟨u, hu, ru⟩ := rv.get hx
    obtain ⟨f0, f1, f2, f3, f4, f5⟩ := hf it (by simp)
    refine wpAny_pyNext_list_item st p.isList (x := u) (by simpa using hu) fun h' st' sb => ?_
    have I1 : Inv X pins σ H { s with heap := h' } := I.turned (t' := s.toks) (fun b o hb e => (sb.2 b hb).trans e) f0 f1 f3 f4 f5
    obtain ⟨o, e, c, d⟩ := id st'
    exact ⟨u, rfl, go_of (s := { s with heap := h' }) e c d (by decide) ⟨x, H, I1, ru, ⟨rfl, fun ys hy => by rw [I.list_inj hy hq]; exact hx⟩, st', fun b hb => (hf b hb).1⟩⟩
  done := by
    intro X hP hw hK hc i pins s σ H E I hf st hg
    subst hP hw hK
    obtain ⟨xs, hq, hx⟩ := hg
    obtain ⟨its, rv, p, hz⟩ := I.list hq
    obtain ⟨f0, f1, f2, f3, f4, f5⟩ := hf it (by simp)
    have hl := rv.length
    exact wpAny_pyNext_list_end (I.ok.hd hc) st p.isList (by simp; omega) fun h' eb => ⟨rfl, I.turned (t' := s.toks) (fun b o hb e => eb b o hb e) f0 f1 f3 f4 f5⟩
  self := fun _ _ _ _ _ st h => wpAny_pyIter_listiter st h
theorem turn_tuple {P : Program} {w : World} {K : PySem.W.Frag} {tg : Expr} (a it : Addr) : Turn P w K tg (Itt K a) [it] it (fun i h => h.IsTupleIter it a i) where
  mem := by simp
  obj := fun i h st b hb => by
    have e : b = it := by simpa using hb
    subst e
    obtain ⟨o, e, c, d⟩ := st
    exact ⟨o, e, fun v z => by rw [d] at z; cases z⟩
  keep := fun i h h' st k => st.at fun o e => k it (by simp) o e
  item := by
    intro X hP hw hK hc i pins s σ H E I hf st hg
    subst hP hw hK
    obtain ⟨xs, x, hq, hx⟩ := hg
    obtain ⟨its, rv, p, hz⟩ := I.tuple hq
    obtain ⟨u, hu, ru⟩ := rv.get hx
    obtain ⟨f0, f1, f2, f3, f4, f5⟩ := hf it (by simp)
    refine wpAny_pyNext_tuple_item st (show s.heap.IsTuple a its.toArray from p) (x := u) (by simpa using hu) fun h' st' sb => ?_
    have I1 : Inv X pins σ H { s with heap := h' } := I.turned (t' := s.toks) (fun b o hb e => (sb.2 b hb).trans e) f0 f1 f3 f4 f5
    obtain ⟨o, e, c, d⟩ := id st'
    exact ⟨u, rfl, go_of (s := { s with heap := h' }) e c d (by decide) ⟨x, H, I1, ru, ⟨rfl, fun ys hy => by rw [I.tuple_inj hy hq]; exact hx⟩, st', fun b hb => (hf b hb).1⟩⟩
  done := by
    intro X hP hw hK hc i pins s σ H E I hf st hg
    subst hP hw hK
    obtain ⟨xs, hq, hx⟩ := hg
    obtain ⟨its, rv, p, hz⟩ := I.tuple hq
    obtain ⟨f0, f1, f2, f3, f4, f5⟩ := hf it (by simp)
    have hl := rv.length
    exact wpAny_pyNext_tuple_end (I.ok.hd hc) st (show s.heap.IsTuple a its.toArray from p) (by simp; omega) fun h' eb => ⟨rfl, I.turned (t' := s.toks) (fun b o hb e => eb b o hb e) f0 f1 f3 f4 f5⟩
  self := fun _ _ _ _ _ st h => wpAny_pyIter_tupleiter st h
theorem turn_range {P : Program} {w : World} {K : PySem.W.Frag} {tg : Expr} (it : Addr) (lo : Int) (n : Nat) : Turn P w K tg (Itr lo n) [it] it (fun i h => IsRangeIter h it (lo + (i : Nat) * 1) ((n : Int) - (i : Nat)) 1) where
  mem := by simp
  obj := fun i h st b hb => by
    have e : b = it := by simpa using hb
    subst e
    exact ⟨_, st, fun v z => by
      have z' : Data.fields _ = Data.cell v := z
      cases z'⟩
  keep := fun i h h' st k => k it (by simp) _ st
  item := by
    intro X hP hw hK hc i pins s σ H E I hf st hg
    subst hP hw hK
    obtain ⟨f0, f1, f2, f3, f4, f5⟩ := hf it (by simp)
    have W := Walks.range (prog := X.prog) (w := X.w) (I.ok.hd hc) it lo 1 n
    refine W.item i s _ _ hg st fun v h' tk hv st' kk => ?_
    obtain ⟨t, rfl⟩ := hv
    have I1 : Inv X pins σ H { s with heap := h', toks := tk } := I.turned (fun b o hb e => kk b o (by simpa using hb) e) f0 f1 f3 f4 f5
    refine ⟨_, rfl, go_of (s := { s with heap := h', toks := tk }) (n := "range_iterator") st' rfl rfl (by decide) ⟨.int (lo + i), H, I1, ⟨t, ?_⟩, ⟨rfl, rfl⟩, st', fun b hb => (hf b hb).1⟩⟩
    rw [Int.mul_one]
  done := by
    intro X hP hw hK hc i pins s σ H E I hf st hg
    subst hP hw hK
    obtain ⟨f0, f1, f2, f3, f4, f5⟩ := hf it (by simp)
    exact wpAny_pyNext_range_end (I.ok.hd hc) st (by have : n ≤ i := hg; omega) fun h' eb => ⟨rfl, I.turned (t' := s.toks) (fun b o hb e => eb b o hb e) f0 f1 f3 f4 f5⟩
  self := fun _ _ _ _ _ st h => wpAny_pyIter_rangeiter st h
end L2

namespace L2
open PySem PySem.Spec PyProof.Rows
section
variable {X : Cx} {tg : Expr}
def iList (K : PySem.W.Frag) (tl : TE) : TI := fun σ H R => tl σ H fun x H1 => ∃ a, x = .ref a ∧ (∃ xs, SqL K H1 a xs) ∧ R (Itl K a) H1
def iTup (K : PySem.W.Frag) (tl : TE) : TI := fun σ H R => tl σ H fun x H1 => ∃ a, x = .ref a ∧ (∃ xs, SqT K H1 a xs) ∧ R (Itt K a) H1
theorem pi_list {l : Expr} {tl : TE} (hl : PE X l tl) : PI X tg l (iList X.K tl) := by
  intro pins s σ H R I h
  refine thn (hl pins s σ H _ I h) fun v s1 ⟨x, H1, I1, r1, q1⟩ => ?_
  obtain ⟨a, e, ⟨xs, hq⟩, q⟩ := q1
  subst e
  cases r1
  obtain ⟨its, rv, p, hz⟩ := I1.list hq
  refine wpAny_pyIter_list p.isList ?_
  refine ⟨s1.heap.objs.size, [s1.heap.objs.size], _, _, H1, rfl, I1.kept (t' := s1.toks) fun b o e => Heap.get?_push_of_some _ e, turn_list a _, ⟨_, Heap.get?_push_size _ rfl, rfl, rfl⟩, fun b hb => ?_, q⟩
  have e : b = s1.heap.objs.size := by simpa using hb
  subst e
  exact I1.fpOk (Nat.le_refl _) (I1.hok.fresh (Nat.le_refl _))
theorem pi_tup {l : Expr} {tl : TE} (hl : PE X l tl) : PI X tg l (iTup X.K tl) := by
  intro pins s σ H R I h
  refine thn (hl pins s σ H _ I h) fun v s1 ⟨x, H1, I1, r1, q1⟩ => ?_
  obtain ⟨a, e, ⟨xs, hq⟩, q⟩ := q1
  subst e
  cases r1
  obtain ⟨its, rv, p, hz⟩ := I1.tuple hq
  refine wpAny_pyIter_tuple (show s1.heap.IsTuple a its.toArray from p) ?_
  refine ⟨s1.heap.objs.size, [s1.heap.objs.size], _, _, H1, rfl, I1.kept (t' := s1.toks) fun b o e => Heap.get?_push_of_some _ e, turn_tuple a _, ⟨_, Heap.get?_push_size _ rfl, rfl, rfl⟩, fun b hb => ?_, q⟩
  have e : b = s1.heap.objs.size := by simpa using hb
  subst e
  exact I1.fpOk (Nat.le_refl _) (I1.hok.fresh (Nat.le_refl _))
/-- a range object just made, walked -/
theorem range_it {pins : List (Addr × Obj)} {σ : St} {H : Hp} {s : Shared} {R : It → Hp → Prop} {E : Value → Shared → Prop} {lo hi : Int} {t u v : Tok} {tk : Nat} (I : Inv X pins σ H s) (h1 : -(2 ^ 62) ≤ lo) (h2 : lo < 2 ^ 62) (h3 : -(2 ^ 62) ≤ hi) (h4 : hi < 2 ^ 62)
    (q : R (Itr lo (hi - lo).toNat) H) : wpAny (model X.prog X.w) X.A (pyIter (.ref s.heap.objs.size)) (PIE X pins σ tg R) E { s with heap := s.heap.push { cls := .type "range", data := .fields #[.int lo t, .int hi u, .int 1 v] }, toks := tk } := by
  refine wpAny_pyIter_range (IsRange.new ..) (small_one h1 h2 h3 h4) ?_
  have I1 : Inv X pins σ H { s with heap := s.heap.push { cls := .type "range", data := .fields #[.int lo t, .int hi u, .int 1 v] }, toks := tk } := I.kept fun b o e => Heap.get?_push_of_some _ e
  refine ⟨(s.heap.push { cls := .type "range", data := .fields #[.int lo t, .int hi u, .int 1 v] }).objs.size, [(s.heap.push { cls := .type "range", data := .fields #[.int lo t, .int hi u, .int 1 v] }).objs.size], _, _, H, rfl,
    I1.kept (t' := tk) fun b o e => Heap.get?_push_of_some _ e, turn_range _ lo (hi - lo).toNat, ?_, fun b hb => ?_, q⟩
  · have e1 : lo + ((0 : Nat) : Int) * 1 = lo := by simp
    have e2 : (((hi - lo).toNat : Nat) : Int) - ((0 : Nat) : Int) = Builtin.Range.rangeSize lo hi 1 := by rw [rangeSize_one]; split <;> omega
    show IsRangeIter _ _ (lo + ((0 : Nat) : Int) * 1) ((((hi - lo).toNat : Nat) : Int) - ((0 : Nat) : Int)) 1
    rw [e1, e2]
    exact Heap.get?_push_size _ rfl
  · have e : b = (s.heap.push { cls := .type "range", data := .fields #[.int lo t, .int hi u, .int 1 v] }).objs.size := by simpa using hb
    subst e
    exact I1.fpOk (Nat.le_refl _) (I1.hok.fresh (Nat.le_refl _))
def iRng1 (ta : TA) : TI := fun σ H R => ta σ H fun vs H1 => ∃ j : Int, vs = [.int j] ∧ -(2 ^ 62) ≤ j ∧ j < 2 ^ 62 ∧ R (Itr 0 j.toNat) H1
def iRng2 (ta : TA) : TI := fun σ H R => ta σ H fun vs H1 => ∃ i j : Int, vs = [.int i, .int j] ∧ (-(2 ^ 62) ≤ i ∧ i < 2 ^ 62 ∧ -(2 ^ 62) ≤ j ∧ j < 2 ^ 62) ∧ R (Itr i (j - i).toNat) H1
theorem pi_range1 {a : Expr} {ta : TA} {p pos : Pos} (hg : Gl X "range") (hm : X.mg "range" = none) (ha : PA X [a] ta) (hs : starEach [a] X.env = [(false, eval a X.env)] := by rfl) : PI X tg (.Call (.Name "range" p) [a] [] pos) (iRng1 ta) := by
  intro pins s σ H R I h
  refine Call_ (ld_blt I hg hm boot_range (PyProof.Rows.callWith_type1 (thn (ha pos pins s σ H _ I h) fun us s1 ⟨vs, H1, I1, r1, q1⟩ => ?_) hs rfl))
  obtain ⟨j, e, q1, q2, q⟩ := q1
  subst e
  cases r1 with
  | cons r rr =>
    cases rr
    obtain ⟨t, rfl⟩ := r
    exact call_range_1 (range_it I1 (by omega) (by omega) q1 q2 (by simpa using q))
theorem pi_range2 {a b : Expr} {ta : TA} {p pos : Pos} (hg : Gl X "range") (hm : X.mg "range" = none) (ha : PA X [a, b] ta) (hs : starEach [a, b] X.env = [(false, eval a X.env), (false, eval b X.env)] := by rfl) (hs2 : starEach [b] X.env = [(false, eval b X.env)] := by rfl) :
    PI X tg (.Call (.Name "range" p) [a, b] [] pos) (iRng2 ta) := by
  intro pins s σ H R I h
  refine Call_ (ld_blt I hg hm boot_range (PyProof.Rows.callWith_type1 (thn (ha pos pins s σ H _ I h) fun us s1 ⟨vs, H1, I1, r1, q1⟩ => ?_) (by rw [hs, hs2]) (by rw [hs2]; rfl)))
  obtain ⟨i, j, e, ⟨q1, q2, q3, q4⟩, q⟩ := q1
  subst e
  cases r1 with
  | cons r rr =>
    cases rr with
    | cons r' rr =>
      cases rr
      obtain ⟨t, rfl⟩ := r
      obtain ⟨t', rfl⟩ := r'
      exact call_range_2 (range_it I1 q1 q2 q3 q4 q)

/-! ### for -/
/-- W: the invariant by the turn and a measure; N: what the body is to reach -/
def tFor (wi : TI) (g : TG) (tb : TS) : TS := fun D σ H => wi σ H fun J H1 => ∃ W : Nat → Nat → St → Hp → Prop, (∃ m, W 0 m σ H1) ∧ ∀ i m σ H, W i m σ H →
  (J.stop i H ∧ D.nx σ H) ∨ (J.go i H ∧ ∃ N : St → Hp → Prop, (∀ σ' H', N σ' H' → ∃ m', m' < m ∧ W (i + 1) m' σ' H') ∧ ∀ x H', J.yld i H x H' → g x σ H' fun σ2 H2 => tb { D with nx := N, ct := N, bk := D.nx } σ2 H2)
/-- the records at fp as they stand -/
def pinsAt (fp : List Addr) (h : Heap) : List (Addr × Obj) := fp.filterMap fun b => (h.get? b).map fun o => (b, o)
theorem mem_pinsAt {fp : List Addr} {h : Heap} {b : Addr} {o : Obj} (hb : b ∈ fp) (e : h.get? b = some o) : (b, o) ∈ pinsAt fp h := List.mem_filterMap.mpr ⟨b, hb, by rw [e]; rfl⟩
theorem of_pinsAt {fp : List Addr} {h : Heap} {p : Addr × Obj} (hp : p ∈ pinsAt fp h) : p.1 ∈ fp ∧ h.get? p.1 = some p.2 := by
  obtain ⟨b, hb, e⟩ := List.mem_filterMap.mp hp
  cases q : h.get? b with
  | none => rw [q] at e; cases e
  | some o =>
    rw [q] at e
    have e' : (b, o) = p := Option.some.inj e
    subst e'
    exact ⟨hb, q⟩
theorem Inv.pinned {pins : List (Addr × Obj)} {σ : St} {H : Hp} {s : Shared} {fp : List Addr} (I : Inv X pins σ H s) (hf : ∀ b ∈ fp, FpOk X pins H b) (ho : ∀ b ∈ fp, ∃ o, s.heap.get? b = some o ∧ ∀ v, o.data ≠ .cell v) : Inv X (pins ++ pinsAt fp s.heap) σ H s :=
  I.pins_of fun p hp => (List.mem_append.mp hp).elim (fun z => I.pin p (List.mem_append_right _ z)) fun z => by
    obtain ⟨hb, e⟩ := of_pinsAt z
    obtain ⟨f0, f1, f2, _⟩ := hf p.1 hb
    obtain ⟨o, e', d⟩ := ho p.1 hb
    rw [e] at e'; cases e'
    exact ⟨e, f0, f1, f2, d⟩
theorem Inv.unpinned {pins pl : List (Addr × Obj)} {σ : St} {H : Hp} {s : Shared} (I : Inv X (pins ++ pl) σ H s) : Inv X pins σ H s := I.pins_of fun p hp => I.pin p (List.mem_append_right _ (List.mem_append_left _ hp))
theorem ps_for {iter : Expr} {body : List Stmt} {wi : TI} {g : TG} {tb : TS} {pos : Pos} (hp : PassesOwn (model X.prog X.w) X.A X.env X.xe) (hc : X.calm = true) (hi : PI X tg iter wi) (hg : PG X tg g) (hb : PSs X body tb)
    (hs : ∀ x, foldedSetIterable iter X.env x = pure x := by intro _; rfl) : PS X (.For tg iter body [] pos) (tFor wi g tb) := by
  intro pins s σ H D I h
  refine wpAny_For (thn (hi pins s σ H _ I h) fun v s1 h1 => thn h1 fun itv s2 h2 => ?_) hs
  obtain ⟨it, fp, tn, J, H2, e, I2, T, st2, f2, W, ⟨m0, w0⟩, turn⟩ := h2
  subst e
  -- what stays true of the iterator's objects through the loop
  have stat : ∀ {H' : Hp}, (∀ b ∈ fp, H' b = none) → ∀ b ∈ fp, FpOk X pins H' b := fun hn b hb => ⟨hn b hb, (f2 b hb).2⟩
  refine codeAny_forLoop_any (fun n s' => ∃ i σ' H', Inv X pins σ' H' s' ∧ tn i s'.heap ∧ (∀ b ∈ fp, H' b = none) ∧ W i n σ' H') ?_ m0 ⟨0, σ, H2, I2, st2, fun b hb => (f2 b hb).1, w0⟩
  rintro n s3 ⟨i, σ3, H3, I3, st3, fr3, w3⟩
  rcases turn i n σ3 H3 w3 with ⟨stop, qn⟩ | ⟨go, N, hN, step⟩
  · refine wpAny_passesOwn hp (thn (T.done X rfl rfl rfl hc i pins s3 σ3 H3 X.xe I3 (stat fr3) st3 stop) fun r s4 ⟨hr, I4⟩ => ?_)
    subst hr
    exact wpAny_execs_nil ⟨σ3, H3, I4, qn⟩
  · refine wpAny_passesOwn hp (thn (T.item X rfl rfl rfl hc i pins s3 σ3 H3 X.xe I3 (stat fr3) st3 go) fun r s4 ⟨u, hr, h4⟩ => ?_)
    subst hr
    refine wpAny_passesOwn hp (thn h4 fun _ s5 ⟨x, H5, I5, r5, y5, st5, fr5⟩ => ?_)
    have I5' := I5.pinned (stat fr5) (T.obj _ _ st5)
    refine wpAny_passesOwn hp (thn (hg _ s5 σ3 H5 x u _ I5' r5 (step x H5 y5)) fun _ s6 ⟨σ6, H6, I6, q6⟩ => ?_)
    refine wpAny_passesOwn hp (thn (hb _ s6 σ6 H6 _ I6 q6) fun f s7 q7 => ?_)
    have again : ∀ {σ7 : St} {H7 : Hp}, Inv X (pins ++ pinsAt fp s5.heap) σ7 H7 s7 → N σ7 H7 → ∃ m, m < n ∧ ∃ i σ' H', Inv X pins σ' H' s7 ∧ tn i s7.heap ∧ (∀ b ∈ fp, H' b = none) ∧ W i m σ' H' := fun {σ7 H7} I7 n7 => by
      obtain ⟨m', hm, w7⟩ := hN σ7 H7 n7
      refine ⟨m', hm, i + 1, σ7, H7, I7.unpinned, T.keep _ _ _ st5 fun b hb o e => (I7.pin (b, o) (List.mem_append_right _ (List.mem_append_right _ (mem_pinsAt hb e)))).1, fun b hb => ?_, w7⟩
      obtain ⟨o, e, d⟩ := T.obj _ _ st5 b hb
      exact (I7.pin (b, o) (List.mem_append_right _ (List.mem_append_right _ (mem_pinsAt hb e)))).2.1
    cases f with
    | next => obtain ⟨σ7, H7, I7, n7⟩ := q7; exact again I7 n7
    | cont => obtain ⟨σ7, H7, I7, n7⟩ := q7; exact again I7 n7
    | brk => obtain ⟨σ7, H7, I7, q7⟩ := q7; exact ⟨σ7, H7, I7.unpinned, q7⟩
    | ret v => obtain ⟨x7, σ7, H7, I7, r7, q7⟩ := q7; exact ⟨x7, σ7, H7, I7.unpinned, r7, q7⟩
end

/-! ### the forms one uses -/
/-- over a list that the body leaves as it is -/
theorem for_list {K : PySem.W.Frag} {a : Addr} {xs : List V} {g : TG} {tb : TS} {D : Ends} {σ : St} {H : Hp} (Pv : Nat → St → Hp → Prop) (h0 : Pv 0 σ H) (hl : ∀ i σ H, i ≤ xs.length → Pv i σ H → SqL K H a xs)
    (hs : ∀ i x σ H, xs[i]? = some x → Pv i σ H → g x σ H fun σ2 H2 => tb { D with nx := Pv (i + 1), ct := Pv (i + 1), bk := D.nx } σ2 H2) (hd : ∀ σ H, Pv xs.length σ H → D.nx σ H) :
    ∃ W : Nat → Nat → St → Hp → Prop, (∃ m, W 0 m σ H) ∧ ∀ i m σ H, W i m σ H →
      ((Itl K a).stop i H ∧ D.nx σ H) ∨ ((Itl K a).go i H ∧ ∃ N : St → Hp → Prop, (∀ σ' H', N σ' H' → ∃ m', m' < m ∧ W (i + 1) m' σ' H') ∧ ∀ x H', (Itl K a).yld i H x H' → g x σ H' fun σ2 H2 => tb { D with nx := N, ct := N, bk := D.nx } σ2 H2) := by
  refine ⟨fun i m σ H => m = xs.length - i ∧ i ≤ xs.length ∧ Pv i σ H, ⟨xs.length, by simp, Nat.zero_le _, h0⟩, ?_⟩
  rintro i m σ H ⟨rfl, hi, p⟩
  have q := hl i σ H hi p
  by_cases hlt : i < xs.length
  · refine .inr ⟨⟨xs, xs[i], q, by simp [hlt]⟩, Pv (i + 1), fun σ' H' p' => ⟨xs.length - (i + 1), by omega, rfl, hlt, p'⟩, fun x H' y => ?_⟩
    obtain ⟨e, y⟩ := y
    subst e
    exact hs i x σ _ (y xs q) p
  · have e : i = xs.length := by omega
    subst e
    exact .inl ⟨⟨xs, q, Nat.le_refl _⟩, hd σ H p⟩
theorem for_tup {K : PySem.W.Frag} {a : Addr} {xs : List V} {g : TG} {tb : TS} {D : Ends} {σ : St} {H : Hp} (Pv : Nat → St → Hp → Prop) (h0 : Pv 0 σ H) (hl : ∀ i σ H, i ≤ xs.length → Pv i σ H → SqT K H a xs)
    (hs : ∀ i x σ H, xs[i]? = some x → Pv i σ H → g x σ H fun σ2 H2 => tb { D with nx := Pv (i + 1), ct := Pv (i + 1), bk := D.nx } σ2 H2) (hd : ∀ σ H, Pv xs.length σ H → D.nx σ H) :
    ∃ W : Nat → Nat → St → Hp → Prop, (∃ m, W 0 m σ H) ∧ ∀ i m σ H, W i m σ H →
      ((Itt K a).stop i H ∧ D.nx σ H) ∨ ((Itt K a).go i H ∧ ∃ N : St → Hp → Prop, (∀ σ' H', N σ' H' → ∃ m', m' < m ∧ W (i + 1) m' σ' H') ∧ ∀ x H', (Itt K a).yld i H x H' → g x σ H' fun σ2 H2 => tb { D with nx := N, ct := N, bk := D.nx } σ2 H2) := by
  refine ⟨fun i m σ H => m = xs.length - i ∧ i ≤ xs.length ∧ Pv i σ H, ⟨xs.length, by simp, Nat.zero_le _, h0⟩, ?_⟩
  rintro i m σ H ⟨rfl, hi, p⟩
  have q := hl i σ H hi p
  by_cases hlt : i < xs.length
  · refine .inr ⟨⟨xs, xs[i], q, by simp [hlt]⟩, Pv (i + 1), fun σ' H' p' => ⟨xs.length - (i + 1), by omega, rfl, hlt, p'⟩, fun x H' y => ?_⟩
    obtain ⟨e, y⟩ := y
    subst e
    exact hs i x σ _ (y xs q) p
  · have e : i = xs.length := by omega
    subst e
    exact .inl ⟨⟨xs, q, Nat.le_refl _⟩, hd σ H p⟩
theorem for_range {lo : Int} {n : Nat} {g : TG} {tb : TS} {D : Ends} {σ : St} {H : Hp} (Pv : Nat → St → Hp → Prop) (h0 : Pv 0 σ H)
    (hs : ∀ i σ H, i < n → Pv i σ H → g (.int (lo + i)) σ H fun σ2 H2 => tb { D with nx := Pv (i + 1), ct := Pv (i + 1), bk := D.nx } σ2 H2) (hd : ∀ σ H, Pv n σ H → D.nx σ H) :
    ∃ W : Nat → Nat → St → Hp → Prop, (∃ m, W 0 m σ H) ∧ ∀ i m σ H, W i m σ H →
      ((Itr lo n).stop i H ∧ D.nx σ H) ∨ ((Itr lo n).go i H ∧ ∃ N : St → Hp → Prop, (∀ σ' H', N σ' H' → ∃ m', m' < m ∧ W (i + 1) m' σ' H') ∧ ∀ x H', (Itr lo n).yld i H x H' → g x σ H' fun σ2 H2 => tb { D with nx := N, ct := N, bk := D.nx } σ2 H2) := by
  refine ⟨fun i m σ H => m = n - i ∧ i ≤ n ∧ Pv i σ H, ⟨n, by simp, Nat.zero_le _, h0⟩, ?_⟩
  rintro i m σ H ⟨rfl, hi, p⟩
  by_cases hlt : i < n
  · refine .inr ⟨hlt, Pv (i + 1), fun σ' H' p' => ⟨n - (i + 1), by omega, rfl, hlt, p'⟩, fun x H' y => ?_⟩
    obtain ⟨e, y⟩ := y
    subst e y
    exact hs i σ _ hlt p
  · have e : i = n := by omega
    subst e
    exact .inl ⟨Nat.le_refl _, hd σ H p⟩
end L2

namespace L2
open PySem PySem.Spec PyProof.Rows

abbrev R2 := V → V → Hp → VK → Prop
/-- a two-place operation on values: f is binaryOp op, inplaceOp op or compareOp op -/
def OpR (X : Cx) (f : Value → Value → Sem Value) (r : R2) : Prop :=
  ∀ (pins : List (Addr × Obj)) (s : Shared) (σ : St) (H : Hp) (x y : V) (v u : Value) (Q : VK), Inv X pins σ H s → RelV x v → RelV y u → r x y H Q →
    wpAny (model X.prog X.w) X.A (f v u) (EP X pins σ Q) X.xe s
/-- a one-place operation -/
def UnR (X : Cx) (f : Value → Sem Value) (r : V → Hp → VK → Prop) : Prop :=
  ∀ (pins : List (Addr × Obj)) (s : Shared) (σ : St) (H : Hp) (x : V) (v : Value) (Q : VK), Inv X pins σ H s → RelV x v → r x H Q →
    wpAny (model X.prog X.w) X.A (f v) (EP X pins σ Q) X.xe s
/-- a call of a value that is known (a builtin, a type) with values -/
def CallR (X : Cx) (f : Value) (r : List V → Hp → VK → Prop) : Prop :=
  ∀ (pins : List (Addr × Obj)) (s : Shared) (σ : St) (H : Hp) (xs : List V) (us : List Value) (Q : VK), Inv X pins σ H s → Vals xs us → r xs H Q →
    wpAny (model X.prog X.w) X.A (call f us) (EP X pins σ Q) X.xe s

def tOp (r : R2) (ta tb : TE) : TE := fun σ H Q => ta σ H fun x H1 => tb σ H1 fun y H2 => r x y H2 Q
def tUn (r : V → Hp → VK → Prop) (ta : TE) : TE := fun σ H Q => ta σ H fun x H1 => r x H1 Q
/-- ints in, under C, and a value out -/
def rI (C : Int → Int → Prop) (g : Int → Int → V) : R2 := fun x y H Q => ∃ i j, x = .int i ∧ y = .int j ∧ C i j ∧ Q (g i j) H
def rI0 (g : Int → Int → V) : R2 := fun x y H Q => ∃ i j, x = .int i ∧ y = .int j ∧ Q (g i j) H
def rU (g : Int → V) : V → Hp → VK → Prop := fun x H Q => ∃ i, x = .int i ∧ Q (g i) H

section
variable {X : Cx} {a b c : Expr} {ta tb tc : TE} {pos : Pos}

theorem binT (ha : PE X a ta) (hb : PE X b tb) {pins : List (Addr × Obj)} {s : Shared} {σ : St} {H : Hp} {R : V → V → Hp → Prop} (I : Inv X pins σ H s)
    (h : ta σ H fun x H1 => tb σ H1 fun y H2 => R x y H2) {Q : Value → Shared → Prop} {f : Value → Value → Sem Value}
    (hf : ∀ v u s2 x y H2, Inv X pins σ H2 s2 → RelV x v → RelV y u → R x y H2 → wpAny (model X.prog X.w) X.A (f v u) Q X.xe s2) :
    wpAny (model X.prog X.w) X.A (eval a X.env) (fun v s₁ => wpAny (model X.prog X.w) X.A (eval b X.env) (fun u s₂ => wpAny (model X.prog X.w) X.A (f v u) Q X.xe s₂) X.xe s₁) X.xe s := by
  refine thn (ha pins s σ H _ I h) fun v s1 ⟨x, H1, I1, r1, q1⟩ => ?_
  refine thn (hb pins s1 σ H1 _ I1 q1) fun u s2 ⟨y, H2, I2, r2, q2⟩ => ?_
  exact hf v u s2 x y H2 I2 r1 r2 q2

theorem pe_op {op : Operator} {r : R2} (ho : OpR X (binaryOp op) r) (ha : PE X a ta) (hb : PE X b tb) : PE X (.BinOp a op b pos) (tOp r ta tb) := by
  intro pins s σ H Q I h
  exact wpAny_BinOp (binT ha hb I h fun v u s2 x y H2 I2 rx ry q => ho pins s2 σ H2 x y v u Q I2 rx ry q)
theorem pe_un {op : UnaryOp} {r : V → Hp → VK → Prop} (ho : UnR X (unaryOp op) r) (ha : PE X a ta) : PE X (.UnaryOp op a pos) (tUn r ta) := by
  intro pins s σ H Q I h
  exact UnaryOp_ (thn (ha pins s σ H _ I h) fun v s1 ⟨x, H1, I1, r1, q1⟩ => ho pins s1 σ H1 x v Q I1 r1 q1)

/-! ### ints -/
theorem opI {f : Value → Value → Sem Value} {C : Int → Int → Prop} {g : Int → Int → Int}
    (rule : ∀ (i j : Int) (t u : Tok) (s : Shared) (Q : Value → Shared → Prop) (E : Value → Shared → Prop), C i j → Q (.int (g i j) s.toks) { s with toks := s.toks + 1 } → wpAny (model X.prog X.w) X.A (f (.int i t) (.int j u)) Q E s) :
    OpR X f (rI C fun i j => .int (g i j)) := by
  intro pins s σ H x y v u Q I rx ry h
  obtain ⟨i, j, rfl, rfl, hc, q⟩ := h
  obtain ⟨t, rfl⟩ := rx
  obtain ⟨t', rfl⟩ := ry
  exact rule i j t t' s _ _ hc ⟨.int (g i j), H, I.tok _, ⟨_, rfl⟩, q⟩
theorem opI0 {f : Value → Value → Sem Value} {g : Int → Int → Int}
    (rule : ∀ (i j : Int) (t u : Tok) (s : Shared) (Q : Value → Shared → Prop) (E : Value → Shared → Prop), Q (.int (g i j) s.toks) { s with toks := s.toks + 1 } → wpAny (model X.prog X.w) X.A (f (.int i t) (.int j u)) Q E s) :
    OpR X f (rI0 fun i j => .int (g i j)) := by
  intro pins s σ H x y v u Q I rx ry h
  obtain ⟨i, j, rfl, rfl, q⟩ := h
  obtain ⟨t, rfl⟩ := rx
  obtain ⟨t', rfl⟩ := ry
  exact rule i j t t' s _ _ ⟨.int (g i j), H, I.tok _, ⟨_, rfl⟩, q⟩
theorem opB0 {f : Value → Value → Sem Value} {g : Int → Int → Bool}
    (rule : ∀ (i j : Int) (t u : Tok) (s : Shared) (Q : Value → Shared → Prop) (E : Value → Shared → Prop), Q (.bool (g i j)) s → wpAny (model X.prog X.w) X.A (f (.int i t) (.int j u)) Q E s) :
    OpR X f (rI0 fun i j => .bl (g i j)) := by
  intro pins s σ H x y v u Q I rx ry h
  obtain ⟨i, j, rfl, rfl, q⟩ := h
  obtain ⟨t, rfl⟩ := rx
  obtain ⟨t', rfl⟩ := ry
  exact rule i j t t' s _ _ ⟨.bl (g i j), H, I, rfl, q⟩

def CDiv (i j : Int) : Prop := 0 < j ∧ j < 1073741824
def CPow (i j : Int) : Prop := 0 ≤ j ∧ j ≤ 1000000 ∧ i.natAbs < 2 ^ 64
def CMul (i j : Int) : Prop := (-(2 ^ 64) < i ∧ i < 2 ^ 64) ∨ (-(2 ^ 64) < j ∧ j < 2 ^ 64)
theorem CMul.ok {i j : Int} (h : CMul i j) : IntMulOk i j := by
  rcases h with ⟨h1, h2⟩ | ⟨h1, h2⟩
  · exact .of_left (intBits_le_64 h1 h2)
  · exact .of_right (intBits_le_64 h1 h2)

theorem op_add : OpR X (binaryOp .Add) (rI0 fun i j => .int (i + j)) := opI0 fun _ _ _ _ _ _ _ q => add_int q
theorem op_sub : OpR X (binaryOp .Sub) (rI0 fun i j => .int (i - j)) := opI0 fun _ _ _ _ _ _ _ q => sub_int q
theorem op_mul : OpR X (binaryOp .Mult) (rI CMul fun i j => .int (i * j)) := opI fun _ _ _ _ _ _ _ hc q => mul_int q hc.ok
/-- // by a positive divisor -/
theorem op_fdiv : OpR X (binaryOp .FloorDiv) (rI CDiv fun i j => .int (i / j)) := opI fun i j _ _ _ _ _ hc q => by
  have h1 : (0 : Int) < j := hc.1
  have h2 : j < 1073741824 := hc.2
  exact floordiv_int (by omega) (by rw [Int.fdiv_eq_ediv_of_nonneg i (by omega)]; exact q) (.inl (PyProof.noPylong_small (by omega)))
/-- % by a positive divisor of any size -/
theorem op_mod : OpR X (binaryOp .Mod) (rI (fun _ j => 0 < j) fun i j => .int (i % j)) := opI fun i j _ _ _ _ _ hc q => by
  have h1 : (0 : Int) < j := hc
  exact mod_int' (by omega) (by rw [Int.fmod_eq_emod_of_nonneg i (by omega)]; exact q)
theorem op_pow : OpR X (binaryOp .Pow) (rI CPow fun i j => .int (i ^ j.toNat)) := opI fun _ _ _ _ _ _ _ hc q => pow_int_small hc.1 hc.2.1 hc.2.2 q

theorem iop_add : OpR X (inplaceOp .Add) (rI0 fun i j => .int (i + j)) := opI0 fun _ _ _ _ _ _ _ q => iadd_int q

theorem unI {f : Value → Sem Value} {g : Int → Int}
    (rule : ∀ (i : Int) (t : Tok) (s : Shared) (Q : Value → Shared → Prop) (E : Value → Shared → Prop), Q (.int (g i) s.toks) { s with toks := s.toks + 1 } → wpAny (model X.prog X.w) X.A (f (.int i t)) Q E s) :
    UnR X f (rU fun i => .int (g i)) := by
  intro pins s σ H x v Q I rx h
  obtain ⟨i, rfl, q⟩ := h
  obtain ⟨t, rfl⟩ := rx
  exact rule i t s _ _ ⟨.int (g i), H, I.tok _, ⟨_, rfl⟩, q⟩
theorem un_neg : UnR X (unaryOp .USub) (rU fun i => .int (-i)) := unI fun _ _ _ _ _ q => neg_int q

/-! ### bools among ints: n += (a < b) -/
end

/-! ### comparisons -/
/-- the scalars that == tells apart as data does -/
def scal : V → V → Bool
  | .non, .non => true | .non, .int _ => true | .int _, .non => true | .non, .bl _ => true | .bl _, .non => true | .non, .str _ => true | .str _, .non => true
  | .int _, .int _ => true | .bl _, .bl _ => true | .str _, .str _ => true | .byt _, .byt _ => true
  | .int _, .str _ => true | .str _, .int _ => true | .bl _, .str _ => true | .str _, .bl _ => true
  | _, _ => false
def rEq : R2 := fun x y H Q => scal x y = true ∧ Q (.bl (decide (x = y))) H
def rNe : R2 := fun x y H Q => scal x y = true ∧ Q (.bl (!decide (x = y))) H

theorem dec_int {i j : Int} : decide (V.int i = V.int j) = (i == j) := by
  rw [Bool.eq_iff_iff]
  simp
theorem dec_bl {i j : Bool} : decide (V.bl i = V.bl j) = (i == j) := by
  rw [Bool.eq_iff_iff]
  simp
theorem dec_str {i j : Str} : decide (V.str i = V.str j) = (i == j) := by
  rw [Bool.eq_iff_iff]
  simp
theorem dec_byt {i j : Array UInt8} : decide (V.byt i = V.byt j) = (i.toList == j.toList) := by
  rw [Bool.eq_iff_iff]
  cases i
  cases j
  simp

section
variable {X : Cx} {a b c : Expr} {ta tb tc : TE} {pos : Pos}
theorem fin_bl {pins : List (Addr × Obj)} {σ : St} {H : Hp} {s : Shared} {Q : VK} {k k' : Bool} (I : Inv X pins σ H s) (q : Q (.bl k) H) (e : k = k') : EP X pins σ Q (.bool k') s := by
  subst e
  exact ⟨.bl k, H, I, rfl, q⟩
theorem op_eq : OpR X (compareOp .Eq) rEq := by
  intro pins s σ H x y v u Q I rx ry h
  obtain ⟨hs, q⟩ := h
  cases x with
  | non =>
    cases rx
    cases y with
    | non => cases ry; exact PySem.EqNone.eq_none_none (fin_bl I q (by simp))
    | bl j => cases ry; exact PySem.EqNone.eq_none_bool (fin_bl I q (by simp))
    | int j => obtain ⟨t', rfl⟩ := ry; exact PySem.EqNone.eq_none_int (fin_bl I q (by simp))
    | str j => obtain ⟨t', rfl⟩ := ry; exact PySem.EqNone.eq_none_str (fin_bl I q (by simp))
    | _ => exact absurd (show false = true from hs) Bool.false_ne_true
  | bl i =>
    cases rx
    cases y with
    | non => cases ry; exact PySem.EqNone.eq_bool_none (fin_bl I q (by simp))
    | bl j => cases ry; exact eq_bool (fin_bl I q dec_bl)
    | str j => obtain ⟨t', rfl⟩ := ry; exact PySem.EqMixed.eq_bool_str (fin_bl I q (by simp))
    | _ => exact absurd (show false = true from hs) Bool.false_ne_true
  | int i =>
    obtain ⟨t, rfl⟩ := rx
    cases y with
    | non => cases ry; exact PySem.EqNone.eq_int_none (fin_bl I q (by simp))
    | int j => obtain ⟨t', rfl⟩ := ry; exact eq_int (fin_bl I q dec_int)
    | str j => obtain ⟨t', rfl⟩ := ry; exact PySem.EqMixed.eq_int_str (fin_bl I q (by simp))
    | _ => exact absurd (show false = true from hs) Bool.false_ne_true
  | str i =>
    obtain ⟨t, rfl⟩ := rx
    cases y with
    | non => cases ry; exact PySem.EqNone.eq_str_none (fin_bl I q (by simp))
    | bl j => cases ry; exact PySem.EqMixed.eq_str_bool (fin_bl I q (by simp))
    | int j => obtain ⟨t', rfl⟩ := ry; exact PySem.EqMixed.eq_str_int (fin_bl I q (by simp))
    | str j => obtain ⟨t', rfl⟩ := ry; exact eq_str (fin_bl I q dec_str)
    | _ => exact absurd (show false = true from hs) Bool.false_ne_true
  | byt i =>
    obtain ⟨t, rfl⟩ := rx
    cases y with
    | byt j => obtain ⟨t', rfl⟩ := ry; exact PySem.W.eq_bytes (fin_bl I q dec_byt)
    | _ => exact absurd (show false = true from hs) Bool.false_ne_true
  | _ => cases y <;> exact absurd (show false = true from hs) Bool.false_ne_true
theorem op_ne : OpR X (compareOp .NotEq) rNe := by
  intro pins s σ H x y v u Q I rx ry h
  obtain ⟨hs, q⟩ := h
  cases x with
  | non =>
    cases rx
    cases y with
    | non => cases ry; exact PySem.EqNone.ne_none_none (fin_bl I q (by simp))
    | bl j => cases ry; exact PySem.EqNone.ne_none_bool (fin_bl I q (by simp))
    | int j => obtain ⟨t', rfl⟩ := ry; exact PySem.EqNone.ne_none_int (fin_bl I q (by simp))
    | str j => obtain ⟨t', rfl⟩ := ry; exact PySem.EqNone.ne_none_str (fin_bl I q (by simp))
    | _ => exact absurd (show false = true from hs) Bool.false_ne_true
  | bl i =>
    cases rx
    cases y with
    | non => cases ry; exact PySem.EqNone.ne_bool_none (fin_bl I q (by simp))
    | bl j => cases ry; exact ne_bool (fin_bl I q (congrArg not dec_bl))
    | str j => obtain ⟨t', rfl⟩ := ry; exact PySem.EqMixed.ne_bool_str (fin_bl I q (by simp))
    | _ => exact absurd (show false = true from hs) Bool.false_ne_true
  | int i =>
    obtain ⟨t, rfl⟩ := rx
    cases y with
    | non => cases ry; exact PySem.EqNone.ne_int_none (fin_bl I q (by simp))
    | int j => obtain ⟨t', rfl⟩ := ry; exact ne_int (fin_bl I q (congrArg not dec_int))
    | str j => obtain ⟨t', rfl⟩ := ry; exact PySem.EqMixed.ne_int_str (fin_bl I q (by simp))
    | _ => exact absurd (show false = true from hs) Bool.false_ne_true
  | str i =>
    obtain ⟨t, rfl⟩ := rx
    cases y with
    | non => cases ry; exact PySem.EqNone.ne_str_none (fin_bl I q (by simp))
    | bl j => cases ry; exact PySem.EqMixed.ne_str_bool (fin_bl I q (by simp))
    | int j => obtain ⟨t', rfl⟩ := ry; exact PySem.EqMixed.ne_str_int (fin_bl I q (by simp))
    | str j => obtain ⟨t', rfl⟩ := ry; exact ne_str (fin_bl I q (congrArg not dec_str))
    | _ => exact absurd (show false = true from hs) Bool.false_ne_true
  | byt i =>
    obtain ⟨t, rfl⟩ := rx
    cases y with
    | byt j => obtain ⟨t', rfl⟩ := ry; exact PySem.W.ne_bytes (fin_bl I q (congrArg not dec_byt))
    | _ => exact absurd (show false = true from hs) Bool.false_ne_true
  | _ => cases y <;> exact absurd (show false = true from hs) Bool.false_ne_true

theorem op_lt : OpR X (compareOp .Lt) (rI0 fun i j => .bl (decide (i < j))) := opB0 fun _ _ _ _ _ _ _ q => lt_int q
theorem op_gt : OpR X (compareOp .Gt) (rI0 fun i j => .bl (decide (j < i))) := opB0 fun _ _ _ _ _ _ _ q => gt_int q




theorem nomark (b : Expr) {op : CmpOp} (h : op ≠ .In := by decide) (h2 : op ≠ .NotIn := by decide) : behindInMarks op b = false := by
  have e1 : (op == CmpOp.In) = false := by cases op <;> first | rfl | exact absurd rfl h
  have e2 : (op == CmpOp.NotIn) = false := by cases op <;> first | rfl | exact absurd rfl h2
  cases b <;> simp [behindInMarks, e1, e2]
/-- a reading of a value as a test -/
def tTest (t : TE) : TT := fun σ H Q => t σ H fun x H' => ∃ k, x = .bl k ∧ Q k H'
theorem pt_cmpR {op : CmpOp} {r : R2} (ho : OpR X (compareOp op) r) (ha : PE X a ta) (hb : PE X b tb) (hm : behindInMarks op b = false) : PT X (.Compare a [op] [b] pos) (tTest (tOp r ta tb)) := by
  intro pins s σ H Q I h
  refine wpAny_isTrue_Compare1 (thn (ha pins s σ H _ I h) fun v s1 ⟨x, H1, I1, r1, q1⟩ => thn (hb pins s1 σ H1 _ I1 q1) fun u s2 ⟨y, H2, I2, r2, q2⟩ =>
    thn (ho pins s2 σ H2 x y v u _ I2 r1 r2 q2) fun c s3 ⟨z, H3, I3, r3, k, e, q3⟩ => ?_) hm
  subst e
  cases r3
  exact wpAny_truthy_bool ⟨H3, I3, q3⟩

/-! ### truth -/
theorem line63 : (sizeLine : Nat) < 2 ^ 63 := by rw [sizeLine_eq]; decide

/-! ### strs and bytes -/
theorem op_add_str : OpR X (binaryOp .Add) (fun x y H Q => ∃ i j, x = .str i ∧ y = .str j ∧ i.length + j.length ≤ sizeLine ∧ Q (.str (i ++ j)) H) := by
  intro pins s σ H x y v u Q I rx ry h
  obtain ⟨i, j, rfl, rfl, hz, q⟩ := h
  obtain ⟨t, rfl⟩ := rx
  obtain ⟨t', rfl⟩ := ry
  exact add_str (fun t' tk => ⟨.str (i ++ j), H, I.tok _, ⟨_, rfl⟩, q⟩) hz


/-! ### scalar builtins, by CallR -/
theorem vals1 {x : V} {us : List Value} (r : Vals [x] us) : ∃ u, us = [u] ∧ RelV x u := by
  cases r with
  | cons r1 r2 => cases r2; exact ⟨_, rfl, r1⟩
theorem vals2 {x y : V} {us : List Value} (r : Vals [x, y] us) : ∃ u w', us = [u, w'] ∧ RelV x u ∧ RelV y w' := by
  cases r with
  | cons r1 r2 =>
    cases r2 with
    | cons r3 r4 => cases r4; exact ⟨_, _, rfl, r1, r3⟩
theorem call_str_int : CallR X (.type "str") (fun xs H Q => ∃ i, xs = [.int i] ∧ i.natAbs.log2 < 1920 ∧ Q (.str (toString i)) H) := by
  intro pins s σ H xs us Q I r h
  obtain ⟨i, rfl, hz, q⟩ := h
  obtain ⟨u, rfl, t, rfl⟩ := vals1 r
  exact PySem.P.str_of_int hz ⟨.str _, H, I.tok _, ⟨_, rfl⟩, q⟩
end
end L2

namespace L2
open PySem PySem.Spec PyProof.Rows

/-! ### an instance, its attributes a map -/
structure ObjM (h : Heap) (x dx C : Addr) (mA : Str → Option Value) : Prop where
  obj : h.get? x = some (PySem.W.instObj C dx)
  ns : h.Ns1 dx mA
  ne : dx ≠ x

theorem lookIn_ns {h : Heap} {dx : Addr} {mA : Str → Option Value} (n : h.Ns1 dx mA) : ∃ od, h.get? dx = some od ∧ ∀ name, PySem.W.lookIn name od = some (mA name) := by
  obtain ⟨o, es, ep, ho, hd, hk, _, hm⟩ := n
  refine ⟨o, ho, fun name => ?_⟩
  have e := hm name
  unfold nsFind findBy at e
  rw [← Array.find?_toList] at e
  unfold PySem.W.lookIn
  rw [hd]
  dsimp only
  split
  · rename_i y q
    rw [q] at e
    exact congrArg some e
  · rename_i q
    rw [q] at e
    have a : es.toList.any (·.refKey) = false := by
      rw [List.any_eq_false]
      intro y hy
      obtain ⟨z, t, hkey⟩ := hk y (Array.mem_toList_iff.mp hy)
      simp [DictEntry.refKey, hkey]
    have a' : ¬ es.toList.any (·.refKey) = true := by rw [a]; exact Bool.false_ne_true
    rw [if_neg a']
    exact congrArg some e

theorem ObjM.look {h : Heap} {x dx C : Addr} {mA : Str → Option Value} (I : ObjM h x dx C mA) : ∃ od, PySem.W.InstAt h x (PySem.W.instObj C dx) C (some od) ∧ ∀ name, PySem.W.lookIn name od = some (mA name) :=
  let ⟨od, ho, hl⟩ := lookIn_ns I.ns
  ⟨od, ⟨I.obj, rfl, rfl, ho⟩, hl⟩

section
variable {prog : Program} {w : World} {A : Around} {E : Value → Shared → Prop} {s : Shared} {K : PySem.W.Frag} {x dx C f : Addr} {mA : Str → Option Value} {name : Str} {v : Value}





end

/-! ### the attributes as a list of pairs -/

theorem RelO.some_of {v : V} {o : Option Value} (r : RelO (some v) o) : ∃ u, o = some u ∧ RelV v u := by
  cases o with
  | none => exact (show False from r).elim
  | some u => exact ⟨u, rfl, r⟩

section
variable {P : Program} {w : World} {H H' : Hp} {h h' : Heap} {a C dx : Addr} {fs fs' : List (Str × V)}
theorem ins_get (hok : HOk P w H h) (e : H a = some (.ins C dx fs)) : ∃ mA, ObjM h a dx C mA ∧ (∀ f, RelO (fs.lookup f) (mA f)) ∧ PySem.Within mA (fs.map (·.1)) ∧ fs.length ≤ 1000 ∧ H dx = some (.own a) := by
  obtain ⟨d, z, ne, ob, mA, n, r, q⟩ := (show ObjOk P w H h a (.ins C dx fs) from hok a _ e)
  exact ⟨mA, ⟨ob, n, ne⟩, r, q, z, d⟩
end

/-! ### what of the text a class must have -/
structure Cls (K : PySem.W.Frag) (C : Addr) : Prop where
  pg : PySem.W.plainGet K C Str.empty = true
  hd : PySem.W.hasDictIn K C = true
  po : PySem.W.plainOver K C = true
  sa : PySem.W.findIn K (.ref C) "__setattr__" = some (some (.builtin "object.__setattr__"))
theorem Cls.get {K : PySem.W.Frag} {C : Addr} (c : Cls K C) (f : Str) : PySem.W.plainGet K C f = true := c.pg

section
variable {X : Cx} {pins : List (Addr × Obj)} {σ : St} {H : Hp} {s : Shared} {a C dx : Addr} {fs : List (Str × V)} {f : Str} {v : V} {A : Around} {E : Value → Shared → Prop}






end

/-! ### readings and rules -/

section
variable {X : Cx} {o e value : Expr} {f : Str} {pos pos' tpos : Pos} {ta tv : TE}

end

/-! ### isinstance -/
section
variable {X : Cx} {pins : List (Addr × Obj)} {σ : St} {H : Hp} {s : Shared} {A : Around} {E : Value → Shared → Prop} {Q : Value → Shared → Prop} {c : Value} {b : Bool}
/-- the type of a value, as the fragment's deciders take it; for an instance its class -/
inductive TyOf (K : PySem.W.Frag) (H : Hp) : V → Value → Prop where
  | non : TyOf K H .non (.type "NoneType")
  | bl (x : Bool) : TyOf K H (.bl x) (.type "bool")
  | int (i : Int) : TyOf K H (.int i) (.type "int")
  | str (x : Str) : TyOf K H (.str x) (.type "str")
  | flt (x : UInt64) : TyOf K H (.flt x) (.type "float")
  | lst {a : Addr} {xs : List V} (e : H a = some (.lst xs)) : TyOf K H (.ref a) (.type "list")
  | frz {a : Addr} {o : Obj} {xs : List V} (e : H a = some (.frz o (.lst xs))) : TyOf K H (.ref a) (.type "list")
  | tup {a : Addr} {xs : List V} (e : H a = some (.tup xs)) : TyOf K H (.ref a) (.type "tuple")
  | dK {a : Addr} {kvs : List (Key × V)} (e : H a = some (.dK kvs)) : TyOf K H (.ref a) (.type "dict")
  | dT {a : Addr} {kvs : List (List Key × V)} (e : H a = some (.dT kvs)) : TyOf K H (.ref a) (.type "dict")
  | ins {a C dx : Addr} {fs : List (Str × V)} (e : H a = some (.ins C dx fs)) (cl : Cls K C) (ha : PySem.W.findIn K (.ref C) "__class__" = some (some (.builtin "object.__class__")))
      (hn : PySem.W.specialIn K (.builtin "object.__class__") "__get__" = some (some (.builtin "getset_descriptor.__get__"))) (htk : PySem.W.takesIn K (.builtin "object.__class__") = some true)
      (hm : PySem.W.mroIn K C (.type "object") = some true) : TyOf K H (.ref a) (.ref C)
/-- isinstance(x, c) for one class c, a built-in or an own one: kitOne's answer -/
theorem isinst_ok {x : V} {u t : Value} (I : Inv X pins σ H s) (rx : RelV x u) (ty : TyOf X.K H x t) (e : PySem.W.kitOne X.K t c = some b) (h : ∀ tk, Q (.bool b) { s with toks := tk }) :
    wpAny (model X.prog X.w) A (call (.builtin "isinstance") [u, c]) Q E s := by
  cases ty with
  | non => cases (show u = Value.none from rx); exact PySem.W.kia_one PySem.W.kitx_none I.kIn True.intro e (fun z => nomatch z) h
  | bl y => cases (show u = Value.bool y from rx); exact PySem.W.kia_one PySem.W.kitx_bool I.kIn True.intro e (fun z => nomatch z) h
  | int i => obtain ⟨t, q⟩ := (show ∃ t, u = Value.int i t from rx); cases q; exact PySem.W.kia_one PySem.W.kitx_int I.kIn True.intro e (fun z => nomatch z) h
  | str y => obtain ⟨t, q⟩ := (show ∃ t, u = Value.str y t from rx); cases q; exact PySem.W.kia_one PySem.W.kitx_str I.kIn True.intro e (fun z => nomatch z) h
  | flt y => obtain ⟨t, q⟩ := (show ∃ t, u = Value.float y t from rx); cases q; exact PySem.W.kia_one PySem.W.kitx_float I.kIn True.intro e (fun z => nomatch z) h
  | @lst a xs ea =>
    cases (show u = Value.ref a from rx)
    obtain ⟨_, _, n, _, h1⟩ := (show ObjOk X.prog X.w H s.heap a (.lst xs) from I.hok a _ ea)
    exact PySem.W.kia_one PySem.W.kitx_list I.kIn ⟨_, h1, rfl⟩ e (fun z => nomatch z) h
  | @frz a ob xs ea =>
    cases (show u = Value.ref a from rx)
    obtain ⟨_, _, _, n, _, h1⟩ := (show ObjOk X.prog X.w H s.heap a (.frz ob (.lst xs)) from I.hok a _ ea)
    exact PySem.W.kia_one PySem.W.kitx_list I.kIn ⟨_, h1, rfl⟩ e (fun z => nomatch z) h
  | @tup a xs ea =>
    cases (show u = Value.ref a from rx)
    obtain ⟨_, _, _, p⟩ := (show ObjOk X.prog X.w H s.heap a (.tup xs) from I.hok a _ ea)
    obtain ⟨o, h1, h2, _⟩ := p
    exact PySem.W.kia_one PySem.W.kitx_tuple I.kIn ⟨o, h1, h2⟩ e (fun z => nomatch z) h
  | @dK a kvs ea =>
    cases (show u = Value.ref a from rx)
    obtain ⟨_, _, vs, _, p⟩ := (show ObjOk X.prog X.w H s.heap a (.dK kvs) from I.hok a _ ea)
    obtain ⟨o, es, ep, h1, h2, _⟩ := p
    exact PySem.W.kia_one PySem.W.kitx_dict I.kIn ⟨o, h1, h2.1⟩ e (fun z => nomatch z) h
  | @dT a kvs ea =>
    cases (show u = Value.ref a from rx)
    obtain ⟨_, _, xs, _, o, es, ep, h1, h2, _⟩ := (show ObjOk X.prog X.w H s.heap a (.dT kvs) from I.hok a _ ea)
    exact PySem.W.kia_one PySem.W.kitx_dict I.kIn ⟨o, h1, h2.1⟩ e (fun z => nomatch z) h
  | @ins a C dx fs ea cl ha hn htk hm =>
    cases (show u = Value.ref a from rx)
    obtain ⟨mA, O, _⟩ := ins_get I.hok ea
    obtain ⟨od, J, _⟩ := O.look
    exact PySem.W.kia_one (PySem.W.kitx_own (cl.get _) cl.hd ha hn htk hm) I.kIn J e (fun z => nomatch z) h
end
end L2

namespace L2
open PySem PySem.Spec PyProof.Rows

/-! ### room -/
structure Room (k : Nat) (A : Around) : Prop where
  hd : A.handled = none
  dp : A.depth + 3 * k + 5 < recursionLimit
  un : A.units + 16 * k + 200 < cLine
theorem Room.mono {j k : Nat} {A : Around} (r : Room k A) (h : j ≤ k) : Room j A := ⟨r.hd, by have := r.dp; omega, by have := r.un; omega⟩
theorem Room.deeper {k : Nat} {A : Around} (r : Room (k + 1) A) (env : Env) : Room k (A.deeper env) :=
  ⟨r.hd, by have := r.dp; show A.depth + 1 + 3 * k + 5 < _; omega, by have := r.un; show A.units + 3 + 16 * k + 200 < _; omega⟩
theorem Room.depth {k : Nat} {A : Around} (r : Room k A) : A.depth < recursionLimit := by have := r.dp; omega
theorem Room.units {k : Nat} {A : Around} (r : Room k A) : A.units + 64 < cLine := by have := r.un; omega

/-! ### argument lists and displays -/
def tNil : TA := fun _ H Q => Q [] H
def tCons (ta : TE) (tr : TA) : TA := fun σ H Q => ta σ H fun x H1 => tr σ H1 fun xs H2 => Q (x :: xs) H2
section
variable {X : Cx} {e : Expr} {es : List Expr} {te : TE} {t : TA} {pos : Pos}
theorem pa_nil : PA X [] tNil := fun _ _ _ _ H Q I h => Calls.spliced_nil ⟨[], H, I, .nil, h⟩
theorem pa_cons (ha : PE X e te) (hr : PA X es t) (hs : starEach (e :: es) X.env = (false, eval e X.env) :: starEach es X.env := by rfl) : PA X (e :: es) (tCons te t) := by
  intro pos pins s σ H Q I h
  rw [hs]
  show wpAny _ _ (spliced ((false, eval e X.env) :: backTo pos (starEach es X.env))) _ _ s
  refine Calls.spliced_cons (thn (ha pins s σ H _ I h) fun u s1 ⟨x, H1, I1, r1, q1⟩ => ?_)
  exact thn (hr pos pins s1 σ H1 _ I1 q1) fun us s2 ⟨xs, H2, I2, r2, q2⟩ => ⟨x :: xs, H2, I2, .cons r1 r2, q2⟩

/-- a tuple, a list of written items -/
def tTup (t : TA) : TE := fun σ H Q => t σ H fun xs H1 => xs.length ≤ sizeLine ∧ ∀ p, H1 p = none → Q (.ref p) (upd H1 p (.tup xs))
def tLst (t : TA) : TE := fun σ H Q => t σ H fun xs H1 => xs.length ≤ sizeLine ∧ ∀ p, H1 p = none → Q (.ref p) (upd H1 p (.lst xs))
theorem pe_tup {x1} (h : PA X es t) : PE X (.Tuple es x1 pos) (tTup t) := by
  intro pins s σ H Q I hq
  refine wpAny_Tuple_spliced (thn (h pos pins s σ H _ I hq) fun us s1 ⟨xs, H1, I1, r, z, q⟩ => ⟨by rw [← r.length]; exact z, ?_⟩)
  have hf : H1 s1.heap.objs.size = none := I1.hok.fresh (Nat.le_refl _)
  refine ⟨.ref s1.heap.objs.size, upd H1 s1.heap.objs.size (.tup xs), I1.laid (t' := s1.toks) (fun b u e => Heap.get?_push_of_some _ e) (Nat.le_refl _) ?_, rfl, q _ hf⟩
  exact ⟨z, us, r, TupN.new _ _⟩
theorem pe_lst (h : PA X es t) : PE X (.List es pos) (tLst t) := by
  intro pins s σ H Q I hq
  refine wpAny_List_spliced (thn (h pos pins s σ H _ I hq) fun us s1 ⟨xs, H1, I1, r, z, q⟩ => ⟨by rw [← r.length]; exact z, ?_⟩)
  have hf : H1 s1.heap.objs.size = none := I1.hok.fresh (Nat.le_refl _)
  refine ⟨.ref s1.heap.objs.size, upd H1 s1.heap.objs.size (.lst xs), I1.laid (t' := s1.toks) (fun b u e => Heap.get?_push_of_some _ e) (Nat.le_refl _) ?_, rfl, q _ hf⟩
  exact ⟨z, us, 0, r, Heap.get?_push_size _ rfl⟩
end

/-! ### what a def promises -/
/-- a def's promise: the bound arguments in the parameters' order, the heap, the wanted end, the wanted exception -/
abbrev Sp := List V → Hp → VK → XK → Prop
/-- how an exception lies behind a call (file 08 gives it): the callers' frames, abstract heap and state ahead of the call, the wish, the exception, the state -/
abbrev CXT := List Env → Hp → Shared → XK → Value → Shared → Prop

/-- the state at a call -/
structure Env0 (P : Program) (w : World) (K : PySem.W.Frag) (mg : Str → Option Value) (base : Heap) (A : Around) (outer : List Env) (s : Shared) (H : Hp) : Prop where
  frames : A.frames = some outer
  mod : Mod K mg base
  bs : ∀ b o, base.get? b = some o → s.heap.get? b = some o ∧ H b = none
  bsz : base.objs.size ≤ s.heap.objs.size
  funs : s.heap.FunFrames base outer
  frf : ∀ b ∈ frs outer, H b = none
  hok : HOk P w H s.heap
  bare : AllBare s.gens
/-- a call's end -/
def CE (outer : List Env) (P : Program) (w : World) (H : Hp) (s : Shared) (Q : VK) (u : Value) (s' : Shared) : Prop :=
  ∃ v H', s'.os = s.os ∧ AllBare s'.gens ∧ Un (frs outer) [] H H' s.heap s'.heap ∧ HOk P w H' s'.heap ∧ RelV v u ∧ Q v H'
def CR (CX : CXT) (outer : List Env) (P : Program) (w : World) (H : Hp) (s : Shared) (Q : VK) (E : XK) (r : Result) (s' : Shared) : Prop :=
  match r with
  | .ok (.ret u) => CE outer P w H s Q u s'
  | .ok _ => False
  | .error e => CX outer H s E e s'
structure FnOk (P : Program) (w : World) (K : PySem.W.Frag) (mg : Str → Option Value) (base : Heap) (CX : CXT) (k : Nat) (f : Addr) (fd : FuncData) (ps : List Str) (sp : Sp) : Prop where
  len : ∀ vs H Q E, sp vs H Q E → vs.length = ps.length
  run : ∀ (A : Around) (outer : List Env) (s : Shared) (H : Hp) (args : Args) (us : List Value) (vs : List V) (Q : VK) (E : XK), Room k A → Env0 P w K mg base A outer s H → BindsTo s fd args (ps.zip us) → Vals vs us → sp vs H Q E →
    codeAny (model P w) A (.call (.ref f) args) (CR CX outer P w H s Q E) s
theorem FnOk.mono {P : Program} {w : World} {K : PySem.W.Frag} {mg : Str → Option Value} {base : Heap} {CX : CXT} {j k : Nat} {f : Addr} {fd : FuncData} {ps : List Str} {sp : Sp} (F : FnOk P w K mg base CX j f fd ps sp) (h : j ≤ k) :
    FnOk P w K mg base CX k f fd ps sp := ⟨F.len, fun A outer s H args us vs Q E hr => F.run A outer s H args us vs Q E (hr.mono h)⟩


section
variable {X : Cx} {pins : List (Addr × Obj)} {σ : St} {H : Hp} {s s' : Shared}
/-- from a body: what a callee wants -/
theorem Inv.env0 (I : Inv X pins σ H s) : Env0 X.prog X.w X.K X.mg X.base X.A X.stack s H :=
  ⟨I.ok.frames, I.ok.mod, I.bs, Nat.le_trans I.ok.bsz I.sz, I.stack, I.stkFree, I.hok, I.bare⟩
/-- behind a call -/
theorem Inv.after {Q : VK} {u : Value} (I : Inv X pins σ H s) (h : CE X.stack X.prog X.w H s Q u s') : EP X pins σ Q u s' := by
  obtain ⟨v, H', os, bare, un, hok, r, q⟩ := h
  obtain ⟨hh, g, d, t, os'⟩ := s'
  obtain rfl : os' = s.os := os
  exact ⟨v, H', I.call (h' := hh) (g' := g) (d' := d) (t' := t) (ch := []) un hok bare (fun b z => absurd z (by simp)), r, q⟩
end

/-! ### calls -/
/-- f(..): the written arguments, then the defaults dvs; E: what is wanted of an exception -/
def tCall (sp : Sp) (dvs : List V) (E : XK) (t : TA) : TE := fun σ H Q => t σ H fun vs H1 => sp (vs ++ dvs) H1 Q E

/-- how the parameters are bound: us the positional arguments, kw the keywords' values by name, ds the defaults that fill up -/
def Binds (K : PySem.W.Frag) (fd : FuncData) (ps : List Str) (ds : List Value) : Prop :=
  ∀ (s : Shared) (us : List Value), K.In s.heap → (us ++ ds).length = ps.length → BindsTo s fd ⟨us, []⟩ (ps.zip (us ++ ds))
/-- every parameter is given -/
theorem Binds.all {K : PySem.W.Frag} {fd : FuncData} {ps : List Str} (h : ∀ us : List Value, us.length = ps.length → bindArgs fd ⟨us, []⟩ = pure (ps.zip us)) : Binds K fd ps [] := fun s us _ hl => by
  rw [List.append_nil] at hl ⊢
  exact .of_eq (h us hl)

/-- an exception of a callee reaches what this body wants of exceptions -/
def Passes (CX : CXT) (X : Cx) (E : XK) : Prop := ∀ (pins : List (Addr × Obj)) (σ : St) (H : Hp) (s : Shared) (e : Value) (s' : Shared), Inv X pins σ H s → CX X.stack H s E e s' → X.xe e s'

section
variable {X : Cx} {CX : CXT} {k : Nat} {f C : Addr} {fd : FuncData} {ps : List Str} {sp : Sp} {dvs : List V} {ds : List Value} {E : XK} {x m : Str} {p pos apos : Pos} {e o : Expr} {es : List Expr} {ta : TE} {t : TA}

/-- the callee runs -/
theorem run_fn {pins : List (Addr × Obj)} {σ : St} {H : Hp} {s : Shared} {Q : VK} {us : List Value} {vs : List V} (F : FnOk X.prog X.w X.K X.mg X.base CX k f fd ps sp) (hr : Room k X.A) (hb : Binds X.K fd ps ds) (hd : Vals dvs ds) (hx : Passes CX X E)
    (I : Inv X pins σ H s) (r : Vals vs us) (h : sp (vs ++ dvs) H Q E) : wpAny (model X.prog X.w) X.A (call (.ref f) us) (EP X pins σ Q) X.xe s := by
  have r2 : Vals (vs ++ dvs) (us ++ ds) := r.append hd
  have hl : (us ++ ds).length = ps.length := by rw [← r2.length]; exact F.len _ _ _ _ h
  refine wpAny_call (codeAny_mono (F.run X.A X.stack s H ⟨us, []⟩ (us ++ ds) (vs ++ dvs) Q E hr I.env0 (hb s us I.kIn hl) r2 h) fun r s' hq => ?_)
  cases r with
  | error e => exact hx pins σ H s e s' I hq
  | ok fl =>
    cases fl with
    | ret u => exact I.after hq
    | next => exact False.elim hq
    | brk => exact False.elim hq
    | cont => exact False.elim hq

theorem pe_call (F : FnOk X.prog X.w X.K X.mg X.base CX k f fd ps sp) (hr : Room k X.A) (hg : Gl X x) (hm : X.mg x = some (.ref f)) (hk : PySem.W.keepIn X.K (.ref f) = true) (hb : Binds X.K fd ps ds) (hd : Vals dvs ds) (hx : Passes CX X E)
    (ha : PA X (e :: es) t) (hdb : (x == ("__debug__" : Str)) = false := by decide) (he : starEach (e :: es) X.env = (false, eval e X.env) :: starEach es X.env := by rfl) (hpl : (backTo pos (starEach es X.env)).any (·.1) = false := by rfl) :
    PE X (.Call (.Name x p) (e :: es) [] pos) (tCall sp dvs E t) := by
  intro pins s σ H Q I h
  refine wpAny_Call_Name_kw (ld_glob I hg hm ?_ hdb)
  refine PySem.W.callWith_K (h₀ := X.base) I.ok.mod.kin hk (thn (ha pos pins s σ H _ I h) fun us s1 ⟨vs, H1, I1, r, q⟩ => ⟨I1.kIn, ?_⟩) he hpl
  exact run_fn F hr hb hd hx I1 r q



end

/-! ### keywords -/
section
variable {X : Cx} {CX : CXT} {k : Nat} {f C : Addr} {fd : FuncData} {ps ks : List Str} {sp : Sp} {E : XK} {x m : Str} {p pos apos kpos : Pos} {e o : Expr} {es : List Expr} {kws : List Keyword} {te ta : TE} {t tk : TA} {nm : Option Str}

variable {g : List Value → List Value → List Value} {gV : List V → List V → List V}
end

/-! ### a def's body keeps its promise -/
/-- names: the parameters first -/
structure FnScope (N P : List Str) (sc : Scope) : Prop where
  kind : sc.kind = .function
  co : sc.isCoroutine = false
  gen : sc.isGenerator = false
  nd : N.Nodup
  pre : N.take P.length = P
  par : ∀ x ∈ P, sc.names.lookup x = some .local ∨ sc.names.lookup x = some .cell
  nofree : ∀ y ∈ sc.names, y.2 ≠ .free

theorem bindL_out {kindOf : Str → Option NameKind} {x : Str} : ∀ {binds : List (Str × Value)} {m : Str → Option Value}, (∀ v, (x, v) ∉ binds) → bindL kindOf binds m x = m x
  | [], _, _ => rfl
  | (n, v) :: r, m, h => by
    unfold bindL
    rw [bindL_out fun w hw => h w (List.mem_cons_of_mem _ hw)]
    split
    · have : x ≠ n := by rintro rfl; exact h v List.mem_cons_self
      simp [this]
    · rfl
theorem bindC_out {kindOf : Str → Option NameKind} {x : Str} : ∀ {binds : List (Str × Value)} {m : Str → Option Value}, (∀ v, (x, v) ∉ binds) → bindC kindOf binds m x = m x
  | [], _, _ => rfl
  | (n, v) :: r, m, h => by
    unfold bindC
    rw [bindC_out fun w hw => h w (List.mem_cons_of_mem _ hw)]
    split
    · rfl
    · have : x ≠ n := by rintro rfl; exact h v List.mem_cons_self
      simp [this]
theorem bindL_get {kindOf : Str → Option NameKind} {x : Str} {v : Value} : ∀ {P : List Str} {vs : List Value} {i : Nat} {m : Str → Option Value}, P.Nodup → P[i]? = some x → vs[i]? = some v → kindOf x = some .local →
    bindL kindOf (P.zip vs) m x = some v
  | [], _, _, _, _, h, _, _ => by simp at h
  | _ :: _, [], _, _, _, _, h, _ => by simp at h
  | p :: P, w :: vs, 0, m, nd, h1, h2, hk => by
    simp at h1 h2; subst h1; subst h2
    show bindL kindOf ((p, w) :: P.zip vs) m p = _
    unfold bindL
    rw [bindL_out fun v hv => (List.nodup_cons.mp nd).1 (List.of_mem_zip hv).1, if_pos hk]
    simp
  | p :: P, w :: vs, i + 1, m, nd, h1, h2, hk => by
    show bindL kindOf ((p, w) :: P.zip vs) m x = _
    unfold bindL
    exact bindL_get (i := i) (List.nodup_cons.mp nd).2 (by simpa using h1) (by simpa using h2) hk
theorem bindC_get {kindOf : Str → Option NameKind} {x : Str} {v : Value} : ∀ {P : List Str} {vs : List Value} {i : Nat} {m : Str → Option Value}, P.Nodup → P[i]? = some x → vs[i]? = some v → kindOf x ≠ some .local →
    bindC kindOf (P.zip vs) m x = some v
  | [], _, _, _, _, h, _, _ => by simp at h
  | _ :: _, [], _, _, _, _, h, _ => by simp at h
  | p :: P, w :: vs, 0, m, nd, h1, h2, hk => by
    simp at h1 h2; subst h1; subst h2
    show bindC kindOf ((p, w) :: P.zip vs) m p = _
    unfold bindC
    rw [bindC_out fun v hv => (List.nodup_cons.mp nd).1 (List.of_mem_zip hv).1, if_neg hk]
    simp
  | p :: P, w :: vs, i + 1, m, nd, h1, h2, hk => by
    show bindC kindOf ((p, w) :: P.zip vs) m x = _
    unfold bindC
    exact bindC_get (i := i) (List.nodup_cons.mp nd).2 (by simpa using h1) (by simpa using h2) hk

/-- the names' values at the entry -/
def start (N : List Str) (vs : List V) : St := vs.map some ++ List.replicate (N.length - vs.length) none

/-- the context of a def's body, at its entry; an exception leaves the frame, then lies as CX says -/
def cxOf (CX : CXT) (P : Program) (w : World) (K : PySem.W.Frag) (mg : Str → Option Value) (base : Heap) (N : List Str) (qual : Str) (scope : Scope) (f : Addr) (cd : Value) (A : Around) (outer : List Env) (s : Shared) (H : Hp) (E : XK) : Cx where
  prog := P
  w := w
  K := K
  mg := mg
  base := base
  A := A.deeper (envOfC qual scope s.heap.objs.size f cd)
  N := N
  s₀ := s
  H₀ := H
  env := envOfC qual scope s.heap.objs.size f cd
  outer := outer
  stack := envOfC qual scope s.heap.objs.size f cd :: outer
  ex := []
  calm := true
  fn := fun _ => true
  pn := []
  xe := fun e s' => wpAny (model P w) (A.deeper (envOfC qual scope s.heap.objs.size f cd)) (leaving (envOfC qual scope s.heap.objs.size f cd) e) (fun _ s'' => CX outer H s E e s'') (fun e' s'' => CX outer H s E e' s'') s'

theorem cell_has {sc : Scope} {n : Nat} {x : Str} (h : sc.names.lookup x = some .cell) : ∃ c, (cellsFrom n sc.names []).lookup x = some c := by
  have q := PySem.W.cellsFrom_some sc.names n [] (.inl h)
  exact Option.isSome_iff_exists.mp q

theorem inv_start {CX : CXT} {P : Program} {w : World} {K : PySem.W.Frag} {mg : Str → Option Value} {base : Heap} {N ps : List Str} {qual : Str} {scope : Scope} {f : Addr} {cd : Value} {A : Around} {outer : List Env} {s s1 : Shared} {H : Hp} {E : XK} {us : List Value} {vs : List V}
    (S : FnScope N ps scope) (hd : A.handled = none) (e0 : Env0 P w K mg base A outer s H) (hl : vs.length = ps.length) (r : Vals vs us)
    (x : InCallC s s.heap.objs.size (bindL (envOfC qual scope s.heap.objs.size f cd).kindOf (ps.zip us) fun _ => none) (cellsFrom (s.heap.objs.size + 1) scope.names []) (bindC (envOfC qual scope s.heap.objs.size f cd).kindOf (ps.zip us) fun _ => none) s1) :
    Inv (cxOf CX P w K mg base N qual scope f cd A outer s H E) [] (start N vs) H s1 := by
  have hpl : ps.length ≤ N.length := by have := congrArg List.length S.pre; rw [List.length_take] at this; omega
  obtain ⟨h1, tk, rfl, hk⟩ := x.done
  have noA : ∀ b : Addr, b ∉ (cxOf CX P w K mg base N qual scope f cd A outer s H E).ex := fun b z => absurd (show b ∈ ([] : List Addr) from z) (by simp)
  refine ⟨⟨e0.mod, S.kind, rfl, rfl, Nat.le_refl _, fun y z c h1 h2 => ?_, fun y hy => ?_, fun y c _ h => ?_, fun _ => hd, Around.frames_deeper e0.frames, .inr ⟨rfl, rfl⟩, fun b z => absurd z (noA b), e0.bs, e0.bsz, fun b _ _ => noA b, fun b z => absurd z (noA b), e0.funs, e0.frf⟩,
    rfl, e0.bare, Un.kept hk, ⟨_, x.toInCall.ns, fun i y v h1 h2 h3 => ?_⟩, fun y c h => ⟨_, x.cell y c h⟩, e0.hok.fresh (Nat.le_refl _), fun y c h => ?_, fun p hp => absurd (show p ∈ ([] : List (Addr × Obj)) from hp) (by simp), e0.hok.kept hk, ?_⟩
  · exact name_of_addr x.apart (PySem.mem_of_lookup h1) (PySem.mem_of_lookup h2)
  · have hy : scope.names.lookup y = some .cell ∨ scope.names.lookup y = some .free := hy
    rcases hy with hy | hy
    · exact cell_has hy
    · exact absurd rfl (S.nofree _ (PySem.mem_of_lookup hy))
  · exact Nat.le_of_lt (x.above y c (PySem.mem_of_lookup h))
  · have hi : i < vs.length := by
      unfold start at h2
      by_cases hi : i < vs.length
      · exact hi
      · rw [List.getElem?_append_right (by simpa using hi)] at h2
        rw [List.getElem?_replicate] at h2
        split at h2 <;> cases h2
    have ha : vs[i]? = some v := by
      unfold start at h2
      rw [List.getElem?_append_left (by simpa using hi), List.getElem?_map] at h2
      cases e : vs[i]? with
      | none => rw [e] at h2; cases h2
      | some a => rw [e] at h2; cases h2; rfl
    obtain ⟨u, hu, rv⟩ := r.get ha
    have hp : ps[i]? = some y := by
      rw [← S.pre, List.getElem?_take_of_lt (by omega)]; exact h1
    have ndP : ps.Nodup := by rw [← S.pre]; exact S.nd.sublist (List.take_sublist _ _)
    refine ⟨u, rv, ?_⟩
    rcases S.par y (List.mem_of_getElem? hp) with k | k
    · exact .inl ⟨k, bindL_get ndP hp hu k⟩
    · obtain ⟨c, e⟩ := cell_has (n := s.heap.objs.size + 1) k
      refine .inr ⟨.inl k, c, e, ?_⟩
      have q := x.cell y c e
      rw [bindC_get ndP hp hu (by show scope.names.lookup y ≠ _; rw [k]; decide)] at q
      exact q
  · exact e0.hok.fresh (Nat.le_of_lt (x.above y c (PySem.mem_of_lookup h)))
  · unfold start
    show _ = N.length
    rw [List.length_append, List.length_map, List.length_replicate]
    omega

/-- THE RULE: a def (or a method) of the text, by its body. The body's reading t is chosen for each entry; it is run at the parameters' values -/
theorem fn_of {CX : CXT} {P : Program} {w : World} {K : PySem.W.Frag} {mg : Str → Option Value} {base : Heap} {k : Nat} {f : Addr} {name qual : Str} {params : Arguments} {body : List Stmt} {scope : Scope} {dV kV doc pm cdv ct oc : Value} {an od : Option Addr}
    {osl : Array (Option Value)} {N ps : List Str} {sp : Sp} (lk : K.lookup f = some ⟨oc, od, .func (PySem.W.fnOf name qual params body scope dV kV doc pm an cdv ct), osl⟩) (hcd : PySem.W.codeIn K cdv qual = true) (S : FnScope N ps scope)
    (len : ∀ vs H Q E, sp vs H Q E → vs.length = ps.length)
    (hbody : ∀ (A : Around) (outer : List Env) (s : Shared) (H : Hp) (vs : List V) (Q : VK) (E : XK), Room k (A.deeper (envOfC qual scope s.heap.objs.size f cdv)) → sp vs H Q E →
      ∃ t, PSs (cxOf CX P w K mg base N qual scope f cdv A outer s H E) body t ∧ t { nx := fun _ H' => Q .non H', rt := Q } (start N vs) H) :
    FnOk P w K mg base CX (k + 1) f (PySem.W.fnOf name qual params body scope dV kV doc pm an cdv ct) ps sp := by
  refine ⟨len, fun A outer s H args us vs Q E hr e0 hb r hsp => ?_⟩
  have hl := len _ _ _ _ hsp
  have KX : K.In s.heap := e0.mod.kin.keeps fun b o e => (e0.bs b o e).1
  have lim : s.heap.NoLimit := e0.mod.nolimit.keeps fun b o e => (e0.bs b o e).1
  have hkind : ∀ y ∈ ps.zip us, scope.names.lookup y.1 = some .local ∨ (scope.names.lookup y.1 = some .cell ∧ ((cellsFrom (s.heap.objs.size + 1) scope.names []).lookup y.1).isSome = true) := fun ⟨n, v⟩ hy => by
    rcases S.par n (List.of_mem_zip hy).1 with q | q
    · exact .inl q
    · exact .inr ⟨q, PySem.W.cellsFrom_some _ _ _ (.inl q)⟩
  refine codeAny_call_function hr.depth (KX _ _ lk) rfl S.co S.gen rfl (PySem.W.codeRec_of KX hcd) (hb _ _ _ _ ?_)
  refine wpAny_newFunctionEnv_cells S.kind hkind fun env he s1 x => ?_
  subst he
  refine ⟨lim.keeps x.toInCall.keep, codeAny_func ?_⟩
  obtain ⟨t, ht, hq⟩ := hbody A outer s H vs Q E (hr.deeper _) hsp
  have I : Inv (cxOf CX P w K mg base N qual scope f cdv A outer s H E) [] (start N vs) H s1 := inv_start S hr.hd e0 hl r x
  refine wpAny_mono (ht [] s1 (start N vs) H _ I hq) (fun fl s' hs => ?_) fun e s' hs => hs
  have fin : ∀ {σ' : St} {H' : Hp} {v : V} {u : Value}, Inv (cxOf CX P w K mg base N qual scope f cdv A outer s H E) [] σ' H' s' → RelV v u → Q v H' → CE outer P w H s Q u s' :=
    fun {σ' H' v u} J rv q => ⟨v, H', J.os, J.bare, J.base, J.hok, rv, q⟩
  cases fl with
  | ret u =>
    obtain ⟨v, σ', H', J, rv, q⟩ := hs
    exact fin J rv q
  | next =>
    obtain ⟨σ', H', J, q⟩ := hs
    exact fin (v := V.non) (u := Value.none) J rfl q
  | brk =>
    obtain ⟨_, _, _, q⟩ := hs
    exact False.elim q
  | cont =>
    obtain ⟨_, _, _, q⟩ := hs
    exact False.elim q
end L2

namespace L2
open PySem PySem.Spec PyProof.Rows
section
variable {X : Cx} {x : Str} {p pos : Pos} {e : Expr} {es : List Expr} {t : TA} {id T : String} {r : List V → Hp → VK → Prop}

def tCB (r : List V → Hp → VK → Prop) (t : TA) : TE := fun σ H Q => t σ H fun vs H1 => r vs H1 Q
/-- f(e, ..), f a built-in function -/
theorem pe_callB (hc : CallR X (.builtin id) r) (hg : Gl X x) (hm : X.mg x = none) (hv : bootBuiltins x = some (.builtin id)) (ha : PA X (e :: es) t) (hn : x ≠ "__name__" := by decide) (hdb : (x == ("__debug__" : Str)) = false := by decide)
    (he : starEach (e :: es) X.env = (false, eval e X.env) :: starEach es X.env := by rfl) (hpl : (backTo pos (starEach es X.env)).any (·.1) = false := by rfl) : PE X (.Call (.Name x p) (e :: es) [] pos) (tCB r t) := by
  intro pins s σ H Q I h
  refine wpAny_Call_Name_kw (ld_blt I hg hm hv ?_ hn hdb)
  exact PyProof.Rows.callWith_builtin1 (thn (ha pos pins s σ H _ I h) fun us s1 ⟨vs, H1, I1, r1, q1⟩ => hc pins s1 σ H1 vs us Q I1 r1 q1) he hpl
/-- T(e, ..), T a built-in type -/
theorem pe_callTy (hc : CallR X (.type T) r) (hg : Gl X x) (hm : X.mg x = none) (hv : bootBuiltins x = some (.type T)) (ha : PA X (e :: es) t) (hn : x ≠ "__name__" := by decide) (hdb : (x == ("__debug__" : Str)) = false := by decide)
    (he : starEach (e :: es) X.env = (false, eval e X.env) :: starEach es X.env := by rfl) (hpl : (backTo pos (starEach es X.env)).any (·.1) = false := by rfl) : PE X (.Call (.Name x p) (e :: es) [] pos) (tCB r t) := by
  intro pins s σ H Q I h
  refine wpAny_Call_Name_kw (ld_blt I hg hm hv ?_ hn hdb)
  exact PyProof.Rows.callWith_type1 (thn (ha pos pins s σ H _ I h) fun us s1 ⟨vs, H1, I1, r1, q1⟩ => hc pins s1 σ H1 vs us Q I1 r1 q1) he hpl
end
end L2

namespace HT
open PySem PyProof.Rows



section
open PySem.SeqAt
open PySem.AutoSeq1 (wpAny_loadPart')
open PySem.MeetsSeq PySem.MeetsSeq2 PySem.MeetsSeq3

end

section
variable {prog : Program} {w : World} {A : Around} {E : Value → Shared → Prop} {s : Shared}


/-- t + u, t not empty -/
theorem cat_tup {t b : Addr} {vs ws : List Value} {Q : Value → Shared → Prop} (ht : IsTup s.heap t vs.toArray) (hb : IsTup s.heap b ws.toArray) (hv : vs ≠ [])
    (h1 : ws = [] → Q (.ref t) s) (h2 : ws ≠ [] → Q (.ref s.heap.objs.size) { s with heap := s.heap.push { cls := .type "tuple", data := .seq (vs ++ ws).toArray } })
    (hsz : vs.length + ws.length ≤ sizeLine) : wpAny (model prog w) A (binaryOp .Add (.ref t) (.ref b)) Q E s := by
  obtain ⟨⟨cls, dd, data, sl⟩, ho, hc, n, hd⟩ := id ht
  obtain ⟨⟨cls2, dd2, data2, sl2⟩, ho2, hc2, n2, hd2⟩ := id hb
  simp only at hc hd hc2 hd2
  subst hc hd hc2 hd2
  have e : vs.toArray ++ ws.toArray = (vs ++ ws).toArray := by simp
  by_cases hw : ws = []
  · exact concat_meets ⟨_, ho, rfl⟩ ⟨_, ho2, rfl⟩ noFill_tuple_add seq_tuple_add PySem.F.slot_tuple_add PySem.F.entry_tuple_add (PySem.F.args_tuple_add_2 _ _)
      (tuple_addW1 t b vs.toArray ws.toArray n n2 dd dd2 sl sl2 (by simpa using hv) (by simp [hw])) ⟨ho, ho2, h1 hw⟩
  · refine concat_meets ⟨_, ho, rfl⟩ ⟨_, ho2, rfl⟩ noFill_tuple_add seq_tuple_add PySem.F.slot_tuple_add PySem.F.entry_tuple_add (PySem.F.args_tuple_add_2 _ _)
      (tuple_addW2 t b vs.toArray ws.toArray n n2 dd dd2 sl sl2 (by simpa using hv) (by simpa using hw) (by rw [List.size_toArray, List.size_toArray]; exact hsz)) ⟨ho, ho2, ?_⟩
    rw [e]
    exact h2 hw

/-! ### t[a:b], not the whole -/
/-- a slice's bound as a place among n (d where it is left out) -/
def sIx (n d : Nat) : Option Int → Nat
  | none => d
  | some v => if v < 0 then (v + (n : Int)).toNat else min v.toNat n
theorem sIx_none (n d : Nat) : sIx n d none = d := rfl
theorem sIx_nat (n d k : Nat) : sIx n d (some (k : Int)) = min k n := by
  show (if (k : Int) < 0 then ((k : Int) + (n : Int)).toNat else min (k : Int).toNat n) = min k n
  rw [if_neg (by omega), Int.toNat_natCast]
theorem sIx_le (n d : Nat) (hd : d ≤ n) (o : Option Int) : sIx n d o ≤ n := by
  cases o with
  | none => exact hd
  | some v =>
    show (if v < 0 then (v + (n : Int)).toNat else min v.toNat n) ≤ n
    by_cases hv : v < 0
    · rw [if_pos hv]; omega
    · rw [if_neg hv]; exact Nat.min_le_right _ _
theorem clip_eq (v : Int) (n d : Nat) : (if v < 0 then max (v + (n : Int)) 0 else min v (n : Int)) = ((sIx n d (some v) : Nat) : Int) := by
  show (if v < 0 then max (v + (n : Int)) 0 else min v (n : Int)) = (((if v < 0 then (v + (n : Int)).toNat else min v.toNat n) : Nat) : Int)
  by_cases hv : v < 0
  · simp only [if_pos hv]; omega
  · simp only [if_neg hv]; omega
theorem adjust_gen (lo hi : Option Int) (n : Nat) : Builtin.Slice.sliceAdjust lo hi 1 (n : Int) = (((sIx n 0 lo : Nat) : Int), ((sIx n n hi : Nat) : Int)) := by
  have h1 : ¬ ((1 : Int) < 0) := by omega
  unfold Builtin.Slice.sliceAdjust
  simp only [h1, if_false]
  refine Prod.ext ?_ ?_
  · cases lo with
    | none => rfl
    | some v => exact clip_eq v n 0
  · cases hi with
    | none => rfl
    | some v => exact clip_eq v n n
theorem places_gen (i j : Nat) : Builtin.Slice.slicePlaces (i : Int) (j : Int) 1 = j - i := by
  unfold Builtin.Slice.slicePlaces
  have h1 : (1 : Int) > 0 := by omega
  simp only [h1, if_true, Int.ediv_one]
  split <;> omega
theorem slicePart_ {v : Value} {o : Option Int} {Q : Option Int → Shared → Prop} (p : IsPart v o) (h : Q o s) : wpAny (model prog w) A (Builtin.Slice.slicePartIndex v) Q E s := by
  cases p with
  | none => exact slicePart_none h
  | int i t => exact slicePart_int h
theorem sliceApplied_gen {sl : Addr} {vl vu : Value} {lo hi : Option Int} {n : Nat} {Q : Int × Int × Nat → Shared → Prop} (hs : s.heap.IsSliceOf sl vl vu .none) (pl : IsPart vl lo) (pu : IsPart vu hi)
    (h : Q (((sIx n 0 lo : Nat) : Int), 1, sIx n n hi - sIx n 0 lo) s) : wpAny (model prog w) A (Builtin.Slice.sliceApplied (.ref sl) (pure (n : Int))) Q E s := by
  obtain ⟨os, hos, hcs, hds⟩ := id hs
  unfold Builtin.Slice.sliceApplied Builtin.Slice.sliceFields
  refine wpAny_bind (wpAny_bind (wpAny_field hos hds (x := vl) rfl (wpAny_bind (wpAny_field hos hds (x := vu) rfl (wpAny_bind (wpAny_field hos hds (x := .none) rfl (wpAny_pure ?_)))))))
  refine wpAny_bind (slicePart_none ?_)
  show wpAny _ _ (if ((1 : Int) == 0) = true then _ else _) _ _ s
  rw [if_neg (by decide)]
  refine wpAny_bind (slicePart_ pl (wpAny_bind (slicePart_ pu (wpAny_bind (wpAny_pure ?_)))))
  show wpAny _ _ (match Builtin.Slice.sliceAdjust lo hi 1 (n : Int) with | (lo, hi) => pure (lo, (1 : Int), Builtin.Slice.slicePlaces lo hi 1)) _ _ s
  rw [adjust_gen lo hi n]
  show wpAny _ _ (pure (((sIx n 0 lo : Nat) : Int), (1 : Int), Builtin.Slice.slicePlaces ((sIx n 0 lo : Nat) : Int) ((sIx n n hi : Nat) : Int) 1)) _ _ s
  rw [places_gen]
  exact wpAny_pure h
theorem pick_gen (xs : Array Value) (i k : Nat) : ((List.range k).filterMap fun (m : Nat) => xs[((i : Int) + (m : Int) * 1).toNat]?).toArray = ((xs.toList.drop i).take k).toArray := by
  have e : (fun (m : Nat) => xs[((i : Int) + (m : Int) * 1).toNat]?) = fun m => xs[i + m]? := by
    funext m
    have : ((i : Int) + (m : Int) * 1).toNat = i + m := by omega
    rw [this]
  rw [e]
  have := pick_run xs i k
  rw [List.filterMap_map] at this
  have e2 : ((fun x => xs[x]?) ∘ fun x => i + x) = fun m => xs[i + m]? := rfl
  rw [e2] at this
  rw [this]

theorem getItem_tuple_cut {t sl : Addr} {items : Array Value} {vl vu : Value} {lo hi : Option Int} {Q : Value → Shared → Prop} (ht : IsTup s.heap t items) (hs : s.heap.IsSliceOf sl vl vu .none) (pl : IsPart vl lo) (pu : IsPart vu hi)
    (hw : ¬ (sIx items.size 0 lo = 0 ∧ sIx items.size items.size hi = items.size))
    (h : Q (.ref s.heap.objs.size) { s with heap := s.heap.push { cls := .type "tuple", data := .seq ((items.toList.drop (sIx items.size 0 lo)).take (sIx items.size items.size hi - sIx items.size 0 lo)).toArray } })
    (hsz : items.size ≤ sizeLine) : wpAny (model prog w) A (getItem (.ref t) (.ref sl)) Q E s := by
  have htake : sizeOk (.seq ((items.toList.drop (sIx items.size 0 lo)).take (sIx items.size items.size hi - sIx items.size 0 lo)).toArray) := by
    show ((items.toList.drop (sIx items.size 0 lo)).take (sIx items.size items.size hi - sIx items.size 0 lo)).toArray.size ≤ sizeLine
    rw [List.size_toArray, List.length_take, List.length_drop, Array.length_toList]
    omega
  have hj : sIx items.size items.size hi ≤ items.size := sIx_le _ _ (Nat.le_refl _) hi
  obtain ⟨os, hos, hcs, hds⟩ := id hs
  have hTs : s.TypeIs (.ref sl) "slice" := ⟨os, hos, hcs⟩
  unfold getItem
  try with_reducible refine wpAny_holding ?_
  first | refine wpAny_bind (wpAny_pure ?_) | skip
  refine wpAny_bind (wpAny_sequenceKey ht.typeIs (by decide) ?_)
  refine wpAny_bind (wpAny_callSpecial?_slot (name := Str.ofString "__getitem__") ht.typeIs PyProof.Rows.slot_tuple_getitem
    (wpAny_call_entry PyProof.Rows.slot_tuple_getitem ht.typeIs entry_tuple_getitem ?_ (args_tuple_getitem _ _)))
  show wpAny _ _ (Builtin.Tuple.tupleItemsOf (.ref t) >>= _) _ _ s
  refine wpAny_bind (tupleItemsOf_ ht ?_)
  refine wpAny_bind (wpAny_typeOf hTs ?_)
  rw [if_pos (by decide)]
  refine wpAny_bind (sliceApplied_gen hs pl pu ?_)
  have hno : ¬ ((((sIx items.size 0 lo : Nat) : Int) == 0 && (1 : Int) == 1 && (sIx items.size items.size hi - sIx items.size 0 lo) == items.size) = true) := by
    intro q
    rw [Bool.and_eq_true, Bool.and_eq_true] at q
    have q1 : ((sIx items.size 0 lo : Nat) : Int) = 0 := eq_of_beq q.1.1
    have q2 : sIx items.size items.size hi - sIx items.size 0 lo = items.size := eq_of_beq q.2
    exact hw ⟨by omega, by omega⟩
  show wpAny _ _ (if (((sIx items.size 0 lo : Nat) : Int) == 0 && (1 : Int) == 1 && (sIx items.size items.size hi - sIx items.size 0 lo) == items.size) = true then _ else _) _ _ s
  rw [if_neg hno, pick_gen]
  first
    | exact wpAny_bind (m := Builtin.Tuple.tupleExact _) (wpAny_newObj_type (wpAny_pure ⟨_, rfl, wpAny_pure h⟩) htake)
    | exact wpAny_bind (m := Builtin.Tuple.tupleExact _) (wpAny_newObj_type (wpAny_bind (wpAny_pure (wpAny_pure ⟨_, rfl, wpAny_pure h⟩))) htake)
    | exact wpAny_bind (wpAny_bind (m := Builtin.Tuple.tupleExact _) (wpAny_newObj_type (wpAny_pure (wpAny_pure ⟨_, rfl, wpAny_pure h⟩)) htake))
    | exact wpAny_bind (wpAny_bind (m := Builtin.Tuple.tupleExact _) (wpAny_newObj_type (wpAny_pure ⟨_, rfl, wpAny_pure h⟩) htake))
end
end HT

namespace L2
open PySem PySem.Spec PyProof.Rows

/-! ### the parts of a slice -/
abbrev TO := St → Hp → (Option Int → Hp → Prop) → Prop
/-- a slice's part (left out, or an int) -/
def PO (X : Cx) (e : Option Expr) (t : TO) : Prop :=
  ∀ (pins : List (Addr × Obj)) (s : Shared) (σ : St) (H : Hp) (Q : Option Int → Hp → Prop), Inv X pins σ H s → t σ H Q →
    wpAny (model X.prog X.w) X.A (evalPart e X.env) (fun u s' => ∃ o H', Inv X pins σ H' s' ∧ IsPart u o ∧ Q o H') X.xe s
def tNoPart : TO := fun _ H Q => Q none H
def tPart (t : TE) : TO := fun σ H Q => t σ H fun x H1 => ∃ i, x = .int i ∧ Q (some i) H1

theorem intsAre_of {ns : List Int} : ∀ {us : List Value}, Vals (ns.map V.int) us → IntsAre us ns := by
  induction ns with
  | nil => intro us r; rw [List.map_nil] at r; cases r; exact .nil
  | cons n ns ih =>
    intro us r
    rw [List.map_cons] at r
    cases r with
    | cons r1 r2 =>
      obtain ⟨t, e⟩ := r1
      subst e
      exact .cons n t (ih r2)

section
variable {X : Cx} {e : Expr} {te : TE} {lo hi : Option Expr} {tl th : TO} {pos p2 : Pos}

theorem po_none : PO X none tNoPart := by
  intro pins s σ H Q I h
  rw [evalPart_none]
  exact wpAny_pure ⟨none, H, I, .none, h⟩
theorem po_some (h : PE X e te) : PO X (some e) (tPart te) := by
  intro pins s σ H Q I hw
  rw [evalPart_some]
  refine thn (h pins s σ H _ I hw) fun u s1 ⟨x, H1, I1, r1, q1⟩ => ?_
  obtain ⟨i, rfl, q⟩ := q1
  obtain ⟨t, rfl⟩ := r1
  exact ⟨some i, H1, I1, .int i t, q⟩

/-- what a slice of a value is, by values: the slice object stands at sl -/
def SlR (X : Cx) (r : V → Option Int → Option Int → Hp → VK → Prop) : Prop :=
  ∀ (pins : List (Addr × Obj)) (s : Shared) (σ : St) (H : Hp) (x : V) (v vl vu : Value) (lo hi : Option Int) (sl : Addr) (Q : VK), Inv X pins σ H s → RelV x v → s.heap.IsSliceOf sl vl vu .none → IsPart vl lo → IsPart vu hi → r x lo hi H Q →
    ∃ T id, typeLookup (.type T) "__getitem__" = pure (some (.builtin id)) ∧ s.TypeIs v T ∧ wpAny (model X.prog X.w) X.A (getItem v (.ref sl)) (EP X pins σ Q) X.xe s
def tSl (r : V → Option Int → Option Int → Hp → VK → Prop) (te : TE) (tl th : TO) : TE := fun σ H Q => te σ H fun x H1 => tl σ H1 fun l H2 => th σ H2 fun u H3 => r x l u H3 Q
/-- a[lo:hi], any a -/
theorem pe_slice {r : V → Option Int → Option Int → Hp → VK → Prop} (hr : SlR X r) (he : PE X e te) (hl : PO X lo tl) (hu : PO X hi th) : PE X (.Subscript e (.Slice lo hi none p2) pos) (tSl r te tl th) := by
  intro pins s σ H Q I h
  refine Subscript_ (thn (he pins s σ H _ I h) fun v s1 ⟨x, H1, I1, r1, q1⟩ => ?_)
  refine wpAny_Slice (thn (hl pins s1 σ H1 _ I1 q1) fun vl s2 ⟨l, H2, I2, pl, q2⟩ => thn (hu pins s2 σ H2 _ I2 q2) fun vu s3 ⟨u, H3, I3, pu, q3⟩ => ?_)
  rw [evalPart_none]
  refine wpAny_pure ?_
  have I4 : Inv X pins σ H3 { s3 with heap := s3.heap.push { cls := .type "slice", data := .fields #[vl, vu, .none] } } := I3.kept (t' := s3.toks) fun b ob q => Heap.get?_push_of_some _ q
  obtain ⟨T, id, hT, ht, hg⟩ := hr pins { s3 with heap := s3.heap.push { cls := .type "slice", data := .fields #[vl, vu, .none] } } σ H3 x v vl vu l u s3.heap.objs.size Q I4 r1 (Heap.IsSliceOf.new ..) pl pu q3
  show wpAny (model X.prog X.w) X.A (subscriptTail e (.Slice lo hi none p2) v (.ref s3.heap.objs.size)) (EP X pins σ Q) X.xe { s3 with heap := s3.heap.push { cls := .type "slice", data := .fields #[vl, vu, .none] } }
  exact tail_any (ops := [.ref s3.heap.objs.size, v]) ht hT hg (by with_unfolding_all rfl)

/-- the items of xs[lo:hi] -/
def cutV (xs : List V) (lo hi : Option Int) : List V := (xs.drop (HT.sIx xs.length 0 lo)).take (HT.sIx xs.length xs.length hi - HT.sIx xs.length 0 lo)
theorem cutV_length (xs : List V) (lo hi : Option Int) : (cutV xs lo hi).length ≤ xs.length := by
  unfold cutV
  rw [List.length_take, List.length_drop]
  omega
/-- t[lo:hi], not the whole of it (the whole would be t itself) -/
def rSlT (K : PySem.W.Frag) : V → Option Int → Option Int → Hp → VK → Prop := fun x lo hi H Q => ∃ a xs, x = .ref a ∧ SqT K H a xs ∧
  ¬ (HT.sIx xs.length 0 lo = 0 ∧ HT.sIx xs.length xs.length hi = xs.length) ∧ ∀ p, H p = none → Q (.ref p) (upd H p (.tup (cutV xs lo hi)))
theorem sl_tup : SlR X (rSlT X.K) := by
  intro pins s σ H x v vl vu lo hi sl Q I rx hs pl pu h
  obtain ⟨a, xs, rfl, hx, hw, q⟩ := h
  cases rx
  obtain ⟨its, r, ht, hz⟩ := I.tuple hx
  have hlen : its.toArray.size = xs.length := by rw [List.size_toArray]; exact r.length.symm
  refine ⟨"tuple", _, PyProof.Rows.slot_tuple_getitem.lookup, ht.typeIs, ?_⟩
  refine HT.getItem_tuple_cut ht hs pl pu (by rw [hlen]; exact hw) ?_ (by rw [hlen]; exact hz)
  rw [hlen]
  refine ⟨.ref s.heap.objs.size, _, I.laid (t' := s.toks) (o := .tup (cutV xs lo hi)) (fun b ob q => Heap.get?_push_of_some _ q) (Nat.le_refl _) ?_, rfl, q _ (I.hok.fresh (Nat.le_refl _))⟩
  exact ⟨Nat.le_trans (cutV_length xs lo hi) hz, _, (r.drop (HT.sIx xs.length 0 lo)).take (HT.sIx xs.length xs.length hi - HT.sIx xs.length 0 lo), TupN.new _ _⟩

/-! ### t < u, t + u -/
/-- t + u, t not empty: u empty gives t itself -/
def rCatT (K : PySem.W.Frag) : R2 := fun x y H Q => ∃ a b xs ys, x = .ref a ∧ y = .ref b ∧ SqT K H a xs ∧ SqT K H b ys ∧ xs ≠ [] ∧ xs.length + ys.length ≤ sizeLine ∧
  (ys = [] → Q (.ref a) H) ∧ (ys ≠ [] → ∀ p, H p = none → Q (.ref p) (upd H p (.tup (xs ++ ys))))
theorem Vals.nil_iff {xs : List V} {us : List Value} (r : Vals xs us) : us = [] ↔ xs = [] := by
  cases r with
  | nil => simp
  | cons _ _ => simp
theorem op_catT : OpR X (binaryOp .Add) (rCatT X.K) := by
  intro pins s σ H x y v u Q I rx ry h
  obtain ⟨a, b, xs, ys, rfl, rfl, ha, hb, hx, hz, q1, q2⟩ := h
  cases rx
  cases ry
  obtain ⟨its, r1, p1, _⟩ := I.tuple ha
  obtain ⟨its2, r2, p2, _⟩ := I.tuple hb
  refine HT.cat_tup p1 p2 (fun z => hx (r1.nil_iff.mp z)) (fun z => ⟨.ref a, H, I, rfl, q1 (r2.nil_iff.mp z)⟩) (fun z => ?_) (by rw [← r1.length, ← r2.length]; exact hz)
  refine ⟨.ref s.heap.objs.size, _, I.laid (t' := s.toks) (o := .tup (xs ++ ys)) (fun b ob q => Heap.get?_push_of_some _ q) (Nat.le_refl _) ?_, rfl, q2 (fun w => z (r2.nil_iff.mpr w)) _ (I.hok.fresh (Nat.le_refl _))⟩
  exact ⟨by rw [List.length_append]; exact hz, _, r1.append r2, TupN.new _ _⟩
end
end L2

namespace L2
open PySem PySem.Spec PyProof.Rows

/-! ### places -/
/-- the place that an index of any sign means -/
def ixN (n : Nat) (i : Int) : Option Nat := if 0 ≤ i then (if i < n then some i.toNat else none) else if -(n : Int) ≤ i then some (i + n).toNat else none
def atI {α : Type} (xs : List α) (i : Int) : Option α := (ixN xs.length i).bind fun j => xs[j]?
theorem ixN_seq {n : Nat} {i : Int} {j : Nat} (h : ixN n i = some j) : seqIndex? i n = some j ∧ j < n ∧ -(n : Int) ≤ i ∧ i < n := by
  unfold ixN at h
  by_cases h0 : 0 ≤ i
  · rw [if_pos h0] at h
    by_cases h1 : i < n
    · rw [if_pos h1] at h
      have e : i.toNat = j := Option.some.inj h
      exact ⟨by rw [seqIndex_of h0 h1, e], by omega, by omega, h1⟩
    · rw [if_neg h1] at h; cases h
  · rw [if_neg h0] at h
    by_cases h1 : -(n : Int) ≤ i
    · rw [if_pos h1] at h
      have e : (i + n).toNat = j := Option.some.inj h
      exact ⟨by rw [seqIndex_neg (by omega) h1, e], by omega, h1, by omega⟩
    · rw [if_neg h1] at h; cases h
theorem atI_get {α : Type} {xs : List α} {i : Int} {v : α} (h : atI xs i = some v) : ∃ j, seqIndex? i xs.length = some j ∧ xs[j]? = some v ∧ j < xs.length ∧ -(xs.length : Int) ≤ i ∧ i < xs.length := by
  unfold atI at h
  cases e : ixN xs.length i with
  | none => rw [e] at h; cases h
  | some j =>
    rw [e] at h
    obtain ⟨h1, h2, h3, h4⟩ := ixN_seq e
    exact ⟨j, h1, h, h2, h3, h4⟩
theorem atI_nat {α : Type} {xs : List α} {j : Nat} {v : α} (h : xs[j]? = some v) : atI xs (j : Int) = some v := by
  have hj : j < xs.length := (List.getElem?_eq_some_iff.mp h).1
  have e : ixN xs.length (j : Int) = some j := by
    unfold ixN
    rw [if_pos (by omega), if_pos (by omega)]; simp
  unfold atI; rw [e]; exact h

/-! ### what may be subscripted -/
/-- what stands as an index of a plain subscript -/
def PlainIx (b : Expr) : Prop := ∀ o i, subscripted b false o i = operate [o, i] (getItem o i)
/-- a subscript by values -/
def IxR (X : Cx) (r : R2) : Prop :=
  ∀ (value slice : Expr) (pins : List (Addr × Obj)) (s : Shared) (σ : St) (H : Hp) (x y : V) (v u : Value) (Q : VK), Inv X pins σ H s → RelV x v → RelV y u → r x y H Q →
    subscripted slice false v u = operate [v, u] (getItem v u) → wpAny (model X.prog X.w) X.A (subscriptTail value slice v u) (EP X pins σ Q) X.xe s
/-- a call of a builtin's method by values: the receiver, the arguments -/
def MtR (X : Cx) (id : String) (r : V → List V → Hp → VK → Prop) : Prop :=
  ∀ (pins : List (Addr × Obj)) (s : Shared) (σ : St) (H : Hp) (x : V) (xs : List V) (v : Value) (us : List Value) (Q : VK), Inv X pins σ H s → RelV x v → Vals xs us → r x xs H Q →
    wpAny (model X.prog X.w) X.A (call (.builtin id) (v :: us)) (EP X pins σ Q) X.xe s
section
variable {X : Cx} {a b : Expr} {ta tb : TE} {pos : Pos}
/-- a[b] -/
theorem pe_ix {r : R2} (hr : IxR X r) (ha : PE X a ta) (hb : PE X b tb) (hs : PlainIx b) : PE X (.Subscript a b pos) (tOp r ta tb) := by
  intro pins s σ H Q I h
  exact Subscript_ (binT ha hb I h fun v u s2 x y H2 I2 rx ry q => hr a b pins s2 σ H2 x y v u Q I2 rx ry q (hs _ _))

def rIxL (K : PySem.W.Frag) : R2 := fun x y H Q => ∃ p xs i v, x = .ref p ∧ y = .int i ∧ SqL K H p xs ∧ atI xs i = some v ∧ Q v H
def rIxT (K : PySem.W.Frag) : R2 := fun x y H Q => ∃ p xs i v, x = .ref p ∧ y = .int i ∧ SqT K H p xs ∧ atI xs i = some v ∧ Q v H
def rIxS : R2 := fun x y H Q => ∃ z i c, x = .str z ∧ y = .int i ∧ z.length ≤ sizeLine ∧ atI z.cps.toList i = some c ∧ Q (.str ⟨#[c]⟩) H
theorem ix_list : IxR X (rIxL X.K) := by
  intro value slice pins s σ H x y v u Q I rx ry h hs
  obtain ⟨p, xs, i, z, rfl, rfl, hq, he, q⟩ := h
  cases rx
  obtain ⟨t, rfl⟩ := ry
  obtain ⟨its, r, pl, hz⟩ := I.list hq
  obtain ⟨j, h1, h2, h3, h4, h5⟩ := atI_get he
  obtain ⟨w, ew, rw'⟩ := r.get h2
  have hl := r.length
  have hn := line63
  have fin : EP X pins σ Q w s := ⟨z, H, I, rw', q⟩
  by_cases h0 : 0 ≤ i
  · have hj : i.toNat = j := by
      rw [seqIndex_of h0 h5] at h1
      exact Option.some.inj h1
    exact item_listR pl.isList h0 (by omega) (by rw [hj]; simpa using ew) fin hs
  · have hj : (i + (its.toArray.size : Int)).toNat = j := by
      rw [seqIndex_neg (by omega) h4] at h1
      rw [List.size_toArray, ← hl]
      exact Option.some.inj h1
    exact subscriptTail_builtinR (x := w) pl.isList.typeIs slot_list_getitem.lookup
      (wpAny_getItem_list_neg (Q := fun r s' => r = w ∧ EP X pins σ Q r s') pl.isList (by omega) (by rw [List.size_toArray] <;> omega) (by omega) (by rw [hj]; simpa using ew) ⟨rfl, fin⟩) hs
theorem ix_tup : IxR X (rIxT X.K) := by
  intro value slice pins s σ H x y v u Q I rx ry h hs
  obtain ⟨p, xs, i, z, rfl, rfl, hq, he, q⟩ := h
  cases rx
  obtain ⟨t, rfl⟩ := ry
  obtain ⟨its, r, pl, hz⟩ := I.tuple hq
  obtain ⟨j, h1, h2, h3, h4, h5⟩ := atI_get he
  obtain ⟨w, ew, rw'⟩ := r.get h2
  have hl := r.length
  have hn := line63
  have fin : EP X pins σ Q w s := ⟨z, H, I, rw', q⟩
  exact subscriptTail_builtinR (x := w) pl.typeIs slot_tuple_getitem.lookup
    (getItem_tuple (j := j) (Q := fun r s' => r = w ∧ EP X pins σ Q r s') pl (by omega) (by omega) (by rw [List.size_toArray, ← hl]; exact h1) (by simpa using ew) ⟨rfl, fin⟩) hs
theorem ix_str : IxR X rIxS := by
  intro value slice pins s σ H x y v u Q I rx ry h hs
  obtain ⟨z, i, c, rfl, rfl, hz, he, q⟩ := h
  obtain ⟨t, rfl⟩ := rx
  obtain ⟨t', rfl⟩ := ry
  obtain ⟨j, h1, h2, h3, h4, h5⟩ := atI_get he
  have hl : z.cps.toList.length = z.length := by simp [Str.length]
  rw [hl] at h1 h4 h5
  have hn := line63
  exact tail_any (typeIs_str s z t) slot_str_getitem.lookup (getItem_str (c := c) (by
    have e1 : decide (i < -(2 ^ 63 : Int)) = false := decide_eq_false (by omega)
    have e2 : decide (i ≥ 2 ^ 63) = false := decide_eq_false (by omega)
    rw [e1, e2, Bool.or_false]) (by rw [h1]; simpa using h2) ⟨.str ⟨#[c]⟩, H, I.tok _, ⟨_, rfl⟩, q⟩) hs

/-! ### xs[i] = v, any sign -/
/-- the list's object behind a store -/
theorem mapSeq_set (its : List Value) (n j : Nat) (u : Value) : Obj.mapSeq (·.setIfInBounds j u) { cls := .type "list", data := .seq its.toArray n } = { cls := .type "list", data := .seq (its.set j u).toArray n } := by
  simp [Obj.mapSeq]
theorem Inv.lst {pins : List (Addr × Obj)} {σ : St} {H : Hp} {s : Shared} {p : Addr} {xs : List V} (I : Inv X pins σ H s) (h : H p = some (.lst xs)) :
    ∃ (its : List Value) (n : Nat), Vals xs its ∧ s.heap.get? p = some { cls := .type "list", data := .seq its.toArray n } ∧ xs.length ≤ sizeLine := by
  obtain ⟨z, its, n, r, e⟩ := I.hok p _ h
  exact ⟨its, n, r, e, z⟩
/-- the list at p is written by an update of its object -/
theorem Inv.lstUpd {pins : List (Addr × Obj)} {σ : St} {H : Hp} {s : Shared} {p : Addr} {xs ys : List V} {its its' : List Value} {n n' : Nat} {f : Obj → Obj} (I : Inv X pins σ H s) (h : H p = some (.lst xs))
    (ho : s.heap.get? p = some { cls := .type "list", data := .seq its.toArray n }) (hf : f { cls := .type "list", data := .seq its.toArray n } = { cls := .type "list", data := .seq its'.toArray n' }) (r : Vals ys its') (hz : ys.length ≤ sizeLine) (t : Nat) :
    Inv X pins σ (upd H p (.lst ys)) { s with heap := s.heap.update p f, toks := t } := by
  have e : (s.heap.update p f).get? p = some { cls := .type "list", data := .seq its'.toArray n' } := by
    rw [Heap.get?_update_self f ho (by rw [hf] <;> rfl), hf]
  refine I.write (x := p) (e := p) (by rw [h]; trivial) (.inl rfl) (fun b u hb q => (Heap.get?_update_other _ _ (Ne.symm hb)).trans q) ⟨_, e⟩ ?_
  exact ⟨hz, its', n', r, e⟩
def rSetL : V → V → V → Hp → (Hp → Prop) → Prop := fun o i v H Q => ∃ p xs k j, o = .ref p ∧ i = .int k ∧ H p = some (.lst xs) ∧ ixN xs.length k = some j ∧ Q (upd H p (.lst (xs.set j v)))
theorem set_list : PSet X rSetL := by
  intro pins s σ H o i v ov iv u Q I ro ri rv h
  obtain ⟨p, xs, k, j, rfl, rfl, hp, hj, q⟩ := h
  cases ro
  obtain ⟨t, rfl⟩ := ri
  obtain ⟨its, n, r, ho, hz⟩ := I.lst hp
  obtain ⟨h1, h2, h3, h4⟩ := ixN_seq hj
  have hl := r.length
  have hn := line63
  have I' : Inv X pins σ (upd H p (.lst (xs.set j v))) { s with heap := s.heap.update p (Obj.mapSeq (·.setIfInBounds j u)) } :=
    I.lstUpd hp ho (mapSeq_set its n j u) (r.set rv j) (by rw [List.length_set]; exact hz) s.toks
  by_cases h0 : 0 ≤ k
  · have hk : k.toNat = j := by
      rw [seqIndex_of h0 h4] at h1
      exact Option.some.inj h1
    exact PySem.W.ki_setAt ho h0 (by omega) (by rw [List.size_toArray, ← hl]; exact h4) (by rw [hk]; exact ⟨_, I', q⟩)
  · have hk : (k + (its.toArray.size : Int)).toNat = j := by
      rw [seqIndex_neg (by omega) h3] at h1
      rw [List.size_toArray, ← hl]
      exact Option.some.inj h1
    exact PySem.W.ki_setBack ho (by omega) (by rw [List.size_toArray, ← hl]; exact h3) (by omega) (by rw [hk]; exact ⟨_, I', q⟩)

/-! ### slices -/
theorem slice_bounds (lo hi : Option Int) (n : Nat) : (sliceBounds lo hi none n).1 = ((HT.sIx n 0 lo : Nat) : Int) ∧ (sliceBounds lo hi none n).2.1 = ((HT.sIx n n hi : Nat) : Int) ∧ (sliceBounds lo hi none n).2.2 = 1 := by
  refine ⟨?_, ?_, rfl⟩
  · cases lo with
    | none => simp [sliceBounds, HT.sIx]
    | some i =>
      simp only [sliceBounds, HT.sIx, Option.getD_none, show (1 : Int) > 0 by decide, if_true]
      by_cases h : i < 0
      · simp only [h, if_true] <;> omega
      · simp only [h, if_false] <;> omega
  · cases hi with
    | none => simp [sliceBounds, HT.sIx]
    | some i =>
      simp only [sliceBounds, HT.sIx, Option.getD_none, show (1 : Int) > 0 by decide, if_true]
      by_cases h : i < 0
      · simp only [h, if_true] <;> omega
      · simp only [h, if_false] <;> omega
theorem slicePick_cut (its : List Value) (lo hi : Option Int) : slicePick its.toArray lo hi none = ((its.drop (HT.sIx its.length 0 lo)).take (HT.sIx its.length its.length hi - HT.sIx its.length 0 lo)).toArray := by
  obtain ⟨h1, h2, h3⟩ := slice_bounds lo hi its.toArray.size
  unfold slicePick
  rw [h1, h2, h3]
  simp only [sliceRange_one, pick_run, List.size_toArray] <;> rfl
/-- xs[lo:hi] of a list: a new list -/
def rSlL (K : PySem.W.Frag) : V → Option Int → Option Int → Hp → VK → Prop := fun x lo hi H Q => ∃ a xs, x = .ref a ∧ SqL K H a xs ∧ ∀ p, H p = none → Q (.ref p) (upd H p (.lst (cutV xs lo hi)))
theorem sl_list : SlR X (rSlL X.K) := by
  intro pins s σ H x v vl vu lo hi sl Q I rx hs pl pu h
  obtain ⟨a, xs, rfl, hx, q⟩ := h
  cases rx
  obtain ⟨its, r, ht, hz⟩ := I.list hx
  have hlen := r.length
  refine ⟨"list", _, slot_list_getitem.lookup, ht.isList.typeIs, ?_⟩
  refine wpAny_getItem_list_slice ht.isList hs pl pu .none (by simp) ?_ (by rw [List.size_toArray] <;> omega)
  rw [slicePick_cut, ← hlen]
  refine ⟨.ref s.heap.objs.size, _, I.laid (t' := s.toks) (o := .lst (cutV xs lo hi)) (fun b ob q => Heap.get?_push_of_some _ q) (Nat.le_refl _) ?_, rfl, q _ (I.hok.fresh (Nat.le_refl _))⟩
  exact ⟨Nat.le_trans (cutV_length xs lo hi) hz, _, 0, (r.drop (HT.sIx xs.length 0 lo)).take (HT.sIx xs.length xs.length hi - HT.sIx xs.length 0 lo), Heap.get?_push_size _ rfl⟩

/-! ### in, not in: flat items -/
def flatV : V → Bool
  | .non => true
  | .bl _ => true
  | .int _ => true
  | .str _ => true
  | _ => false
/-- == of flat values -/
def eqV : V → V → Bool
  | .non, .non => true
  | .bl a, .bl b => a == b
  | .bl a, .int b => (if a then 1 else 0) == b
  | .int a, .bl b => a == (if b then 1 else 0)
  | .int a, .int b => a == b
  | .str a, .str b => a == b
  | _, _ => false
theorem eqAt_V {A : Around} {s : Shared} {y x : V} {u v : Value} (ry : RelV y u) (rx : RelV x v) (fy : flatV y = true) (fx : flatV x = true) : SeqAt.EqAt A s u v (eqV y x) := by
  cases y with
  | non =>
    cases ry
    cases x with
    | non => cases rx; exact SeqAt.EqAt.same _
    | bl b => cases rx; exact SeqAt.EqAt.none_bool b
    | int b => obtain ⟨t, rfl⟩ := rx; exact SeqAt.EqAt.none_int b t
    | str b => obtain ⟨t, rfl⟩ := rx; exact SeqAt.EqAt.none_str b t
    | _ => exact absurd (show false = true from fx) Bool.false_ne_true
  | bl a =>
    cases ry
    cases x with
    | non => cases rx; exact SeqAt.EqAt.bool_none a
    | bl b => cases rx; exact SeqAt.EqAt.bool_bool a b
    | int b => obtain ⟨t, rfl⟩ := rx; exact SeqAt.EqAt.bool_int a b t
    | str b => obtain ⟨t, rfl⟩ := rx; exact SeqAt.EqAt.bool_str a b t
    | _ => exact absurd (show false = true from fx) Bool.false_ne_true
  | int a =>
    obtain ⟨t', rfl⟩ := ry
    cases x with
    | non => cases rx; exact SeqAt.EqAt.int_none a t'
    | bl b => cases rx; exact SeqAt.EqAt.int_bool a t' b
    | int b => obtain ⟨t, rfl⟩ := rx; exact SeqAt.EqAt.int_int a t' b t
    | str b => obtain ⟨t, rfl⟩ := rx; exact SeqAt.EqAt.int_str a t' b t
    | _ => exact absurd (show false = true from fx) Bool.false_ne_true
  | str a =>
    obtain ⟨t', rfl⟩ := ry
    cases x with
    | non => cases rx; exact SeqAt.EqAt.str_none a t'
    | bl b => cases rx; exact SeqAt.EqAt.str_bool a t' b
    | int b => obtain ⟨t, rfl⟩ := rx; exact SeqAt.EqAt.str_int a t' b t
    | str b => obtain ⟨t, rfl⟩ := rx; exact SeqAt.EqAt.str_str a t' b t
    | _ => exact absurd (show false = true from fx) Bool.false_ne_true
  | _ => exact absurd (show false = true from fy) Bool.false_ne_true
/-- the items' answers, read off the values (a value's own answer does not lean on its token) -/
def eqU (x : V) (u : Value) : Bool := match u with
  | .none => eqV .non x
  | .bool b => eqV (.bl b) x
  | .int i _ => eqV (.int i) x
  | .str z _ => eqV (.str z) x
  | _ => false
theorem eqU_of {x y : V} {u : Value} (r : RelV y u) (f : flatV y = true) : eqU x u = eqV y x := by
  cases y with
  | non => cases r; rfl
  | bl b => cases r; rfl
  | int i => obtain ⟨t, rfl⟩ := r; rfl
  | str z => obtain ⟨t, rfl⟩ := r; rfl
  | _ => exact absurd (show false = true from f) Bool.false_ne_true
theorem any_eqU {x : V} : ∀ {xs : List V} {us : List Value}, Vals xs us → xs.all flatV = true → us.any (eqU x) = xs.any fun y => eqV y x
  | _, _, .nil, _ => rfl
  | y :: xs, u :: us, .cons r t, f => by
    rw [List.all_cons, Bool.and_eq_true] at f
    rw [List.any_cons, List.any_cons, eqU_of r f.1, any_eqU t f.2]
theorem mem_eqAt {A : Around} {s : Shared} {x : V} {v : Value} (rx : RelV x v) (fx : flatV x = true) : ∀ {xs : List V} {us : List Value}, Vals xs us → xs.all flatV = true → ∀ u ∈ us, SeqAt.EqAt A s u v (eqU x u)
  | _, _, .nil, _ => fun u hu => by cases hu
  | y :: xs, u :: us, .cons r t, f => fun u' hu => by
    rw [List.all_cons, Bool.and_eq_true] at f
    rcases List.mem_cons.mp hu with rfl | hu
    · rw [eqU_of r f.1]; exact eqAt_V r rx f.1 fx
    · exact mem_eqAt rx fx t f.2 u' hu
def inV (x : V) (xs : List V) : Bool := xs.any fun y => eqV y x
/-- x in a list or tuple of flat items -/
def rIn (K : PySem.W.Frag) (neg : Bool) : R2 := fun x y H Q => ∃ p xs, y = .ref p ∧ (SqL K H p xs ∨ SqT K H p xs) ∧ flatV x = true ∧ xs.all flatV = true ∧ Q (.bl (if neg then !inV x xs else inV x xs)) H
theorem op_in_seq : OpR X (compareOp .In) (rIn X.K false) := by
  intro pins s σ H x y v u Q I rx ry h
  obtain ⟨p, xs, rfl, hq, fx, fs, q⟩ := h
  cases ry
  rcases hq with hq | hq
  · obtain ⟨its, r, pl, hz⟩ := I.list hq
    refine SeqAt.in_listAt (eqU x) pl.isList (fun w hw => mem_eqAt rx fx r fs w (by simpa using hw)) ⟨.bl _, H, I, rfl, ?_⟩
    rw [show its.toArray.any (eqU x) = its.any (eqU x) by simp, any_eqU r fs]
    exact q
  · obtain ⟨its, r, pl, hz⟩ := I.tuple hq
    refine SeqAt.in_tupleAt (eqU x) pl (fun w hw => mem_eqAt rx fx r fs w (by simpa using hw)) ⟨.bl _, H, I, rfl, ?_⟩
    rw [show its.toArray.any (eqU x) = its.any (eqU x) by simp, any_eqU r fs]
    exact q

/-! ### len, list(x), tuple(x) of any list or tuple that is read -/
theorem call_len_seq : CallR X (.builtin "len") (fun xs H Q => ∃ p ys, xs = [.ref p] ∧ (SqL X.K H p ys ∨ SqT X.K H p ys) ∧ Q (.int ys.length) H) := by
  intro pins s σ H xs us Q I r h
  obtain ⟨p, ys, rfl, hq, q⟩ := h
  obtain ⟨u, rfl, rx⟩ := vals1 r
  cases rx
  have hn := line63
  rcases hq with hq | hq
  · obtain ⟨its, r', pl, hz⟩ := I.list hq
    have hlen := r'.length
    exact Calls.call_len_list pl.isList (by simp only [List.size_toArray] <;> omega) ⟨.int ys.length, H, I.tok _, ⟨s.toks + 1, by rw [List.size_toArray, hlen]⟩, q⟩
  · obtain ⟨its, r', pl, hz⟩ := I.tuple hq
    have hlen := r'.length
    exact len_tuple pl (by simp only [List.size_toArray] <;> omega) ⟨.int ys.length, H, I.tok _, ⟨s.toks + 1, by rw [List.size_toArray, hlen]⟩, q⟩
theorem call_list_of : CallR X (.type "list") (fun xs H Q => ∃ p ys, xs = [.ref p] ∧ (SqL X.K H p ys ∨ SqT X.K H p ys) ∧ ∀ l, H l = none → Q (.ref l) (upd H l (.lst ys))) := by
  intro pins s σ H xs us Q I r h
  obtain ⟨p, ys, rfl, hq, q⟩ := h
  obtain ⟨u, rfl, rx⟩ := vals1 r
  cases rx
  have fin : ∀ (its : List Value), Vals ys its → ys.length ≤ sizeLine → ∀ (h' : Heap) (c' : Nat), (∀ b o', s.heap.get? b = some o' → h'.get? b = some o') →
      h'.get? s.heap.objs.size = some { cls := .type "list", dict := none, data := .seq its.toArray c', slots := #[] } → EP X pins σ Q (.ref s.heap.objs.size) { s with heap := h' } := fun its r' hz h' c' kp e =>
    ⟨.ref s.heap.objs.size, _, I.laid (t' := s.toks) kp (Nat.le_refl _) (show ObjOk X.prog X.w _ h' _ (.lst ys) from ⟨hz, its, c', r', e⟩), rfl, q _ (I.hok.fresh (Nat.le_refl _))⟩
  rcases hq with hq | hq
  · obtain ⟨its, r', pl, hz⟩ := I.list hq
    have hlen := r'.length
    obtain ⟨o, ho, hc, n, hd⟩ := pl.isList
    exact call_list_seq p (.inl rfl) ho hc hd (fun h' c' kp e => fin its r' hz h' c' kp e) (by simp only [List.size_toArray] <;> omega)
  · obtain ⟨its, r', pl, hz⟩ := I.tuple hq
    have hlen := r'.length
    obtain ⟨o, ho, hc, n, hd⟩ := pl
    exact call_list_seq p (.inr rfl) ho hc hd (fun h' c' kp e => fin its r' hz h' c' kp e) (by simp only [List.size_toArray] <;> omega)
theorem call_tuple_of : CallR X (.type "tuple") (fun xs H Q => ∃ p ys, xs = [.ref p] ∧ ((SqL X.K H p ys ∧ ∀ l, H l = none → Q (.ref l) (upd H l (.tup ys))) ∨ (SqT X.K H p ys ∧ Q (.ref p) H))) := by
  intro pins s σ H xs us Q I r h
  obtain ⟨p, ys, rfl, h⟩ := h
  obtain ⟨u, rfl, rx⟩ := vals1 r
  cases rx
  rcases h with ⟨hq, q⟩ | ⟨hq, q⟩
  · obtain ⟨its, r', pl, hz⟩ := I.list hq
    have hlen := r'.length
    refine call_tuple_list pl.isList (fun h' kp => ?_) (by simp only [List.size_toArray] <;> omega)
    have I1 : Inv X pins σ H { s with heap := h' } := I.kept (t' := s.toks) kp
    have I2 : Inv X pins σ (upd H h'.objs.size (.tup ys)) { s with heap := h'.push { cls := .type "tuple", data := .seq its.toArray } } :=
      I1.laid (t' := s.toks) (fun b o e => Heap.get?_push_of_some _ e) (Nat.le_refl _) (show ObjOk X.prog X.w _ _ _ (.tup ys) from ⟨hz, its, r', TupN.new _ _⟩)
    exact ⟨.ref h'.objs.size, _, I2, rfl, q _ (I1.hok.fresh (Nat.le_refl _))⟩
  · obtain ⟨its, r', pl, hz⟩ := I.tuple hq
    exact call_tuple_same pl ⟨.ref p, H, I, rfl, q⟩

/-! ### the call of a builtin's method: o.m(..) -/
/-- the value is of that builtin type -/
def tyV (K : PySem.W.Frag) (T : String) (x : V) (H : Hp) : Prop := match x with
  | .str _ => T = "str"
  | .int _ => T = "int"
  | .ref p => (T = "list" ∧ ∃ xs, SqL K H p xs) ∨ (T = "tuple" ∧ ∃ o, K.lookup p = some o ∧ o.cls = .type "tuple" ∧ o.dict = none) ∨
      (T = "dict" ∧ ((∃ kvs, H p = some (.dK kvs)) ∨ ∃ kvs, H p = some (.dT kvs))) ∨ (T = "set" ∧ ∃ S n, H p = some (.set S n))
  | _ => False
theorem tyV_is {pins : List (Addr × Obj)} {σ : St} {H : Hp} {s : Shared} {T : String} {x : V} {v : Value} (I : Inv X pins σ H s) (r : RelV x v) (ty : tyV X.K T x H) :
    s.TypeIs v T ∧ ∀ a, v = .ref a → ∃ ob, s.heap.get? a = some ob ∧ ob.dict = none := by
  cases x with
  | str z =>
    obtain ⟨t, rfl⟩ := r
    cases (show T = "str" from ty)
    exact ⟨typeIs_str s z t, fun _ e => nomatch e⟩
  | int i =>
    obtain ⟨t, rfl⟩ := r
    cases (show T = "int" from ty)
    exact ⟨typeIs_int s i t, fun _ e => nomatch e⟩
  | ref p =>
    cases r
    rcases ty with ⟨rfl, xs, hq⟩ | ⟨rfl, o, hk, hc, hd⟩ | ⟨rfl, hk⟩ | ⟨rfl, S, n, hk⟩
    · obtain ⟨its, _, pl, _⟩ := I.list hq
      refine ⟨pl.isList.typeIs, fun a e => ?_⟩
      cases e
      obtain ⟨o, n, e, c, hd, _⟩ := pl
      exact ⟨o, e, hd⟩
    · refine ⟨⟨o, I.kIn p o hk, hc⟩, fun a e => ?_⟩
      cases e
      exact ⟨o, I.kIn _ o hk, hd⟩
    · have z : ∃ o, s.heap.get? p = some o ∧ o.ExactDict := by
        rcases hk with ⟨kvs, hk⟩ | ⟨kvs, hk⟩
        · obtain ⟨_, _, _, _, o, _, _, e, ex, _⟩ := I.hok p _ hk
          exact ⟨o, e, ex⟩
        · obtain ⟨_, _, _, _, o, _, _, e, ex, _⟩ := I.hok p _ hk
          exact ⟨o, e, ex⟩
      obtain ⟨o, e, ex⟩ := z
      refine ⟨⟨o, e, ex.1⟩, fun a e2 => ?_⟩
      cases e2
      exact ⟨o, e, ex.2.1⟩
    · obtain ⟨o, _, _, _, e, ex, _⟩ := I.hok p _ hk
      refine ⟨⟨o, e, ex.1⟩, fun a e2 => ?_⟩
      cases e2
      exact ⟨o, e, ex.2.1⟩
  | _ => exact False.elim ty
def tBM0 (K : PySem.W.Frag) (T : String) (r : V → List V → Hp → VK → Prop) (to : TE) : TE := fun σ H Q => to σ H fun x H1 => tyV K T x H1 ∧ r x [] H1 Q
def tBM (K : PySem.W.Frag) (T : String) (r : V → List V → Hp → VK → Prop) (to : TE) (t : TA) : TE := fun σ H Q => to σ H fun x H1 => tyV K T x H1 ∧ t σ H1 fun xs H2 => r x xs H2 Q
variable {o e : Expr} {es : List Expr} {to : TE} {t : TA} {name : Str} {apos cpos : Pos} {T id : String} {r : V → List V → Hp → VK → Prop}
theorem pe_bm0 (pa : PlainAttrs T) (slot : Slot T name id) (hty : typeOf (.builtin id) = pure (.type "method_descriptor")) (hm : MtR X id r) (ho : PE X o to)
    (hbase : attributeBase o name X.env (eval o X.env) = eval o X.env := by rfl) (hline : (apos.endLine == cpos.line) = true := by rfl) : PE X (.Call (.Attribute o name apos) [] [] cpos) (tBM0 X.K T r to) := by
  intro pins s σ H Q I h
  refine wpAny_Call_method0_late hbase hline (thn (ho pins s σ H _ I h) fun v s1 ⟨x, H1, I1, r1, ty, q1⟩ => ?_)
  obtain ⟨h1, h2⟩ := tyV_is I1 r1 ty
  exact ⟨T, id, pa, slot, hty, h1, h2, Calls.callWith_builtin rfl (PySem.evalArgs_none (hm pins s1 σ H1 x [] v [] Q I1 r1 .nil q1))⟩
theorem pe_bm (pa : PlainAttrs T) (slot : Slot T name id) (hty : typeOf (.builtin id) = pure (.type "method_descriptor")) (hm : MtR X id r) (ho : PE X o to) (ha : PA X (e :: es) t)
    (hbase : attributeBase o name X.env (eval o X.env) = eval o X.env := by rfl)
    (hfew : ((backTo cpos (starEach (e :: es) X.env)).all (fun x => !x.1) && (backToKw cpos (keywordEach [] X.env)).all (fun x => x.1.isSome)
      && decide ((e :: es).length + ([] : List Keyword).length + (if ([] : List Keyword).isEmpty then 0 else 1) < 30)) = true := by rfl)
    (hline : (apos.endLine == cpos.line) = true := by rfl) (hs : starEach (e :: es) X.env = (false, eval e X.env) :: starEach es X.env := by rfl) (hplain : (backTo cpos (starEach es X.env)).any (·.1) = false := by rfl) :
    PE X (.Call (.Attribute o name apos) (e :: es) [] cpos) (tBM X.K T r to t) := by
  intro pins s σ H Q I h
  refine wpAny_Call_method_late hbase hfew hline rfl (thn (ho pins s σ H _ I h) fun v s1 ⟨x, H1, I1, r1, ty, q1⟩ => ?_)
  obtain ⟨h1, h2⟩ := tyV_is I1 r1 ty
  refine ⟨T, id, pa, slot, hty, h1, h2, ?_⟩
  have hA := ha cpos pins s1 σ H1 _ I1 q1
  rw [hs] at hA ⊢
  refine Calls.callWith_builtin (by show (false || (backTo cpos (starEach es X.env)).any (·.1)) = false; rw [hplain] <;> rfl) (Calls.evalArgs_plain ?_)
  exact thn hA fun us s2 ⟨vs, H2, I2, r2, q2⟩ => hm pins s2 σ H2 x vs v us Q I2 r1 r2 q2
/- xs.append(e), list.index on a module's tuple .. are MtR facts of 06m -/
end
end L2

namespace L2
open PySem PySem.Spec PyProof.Rows

def MtM (X : Cx) (id : String) (r : V → List V → Hp → VK → Prop) : Prop :=
  ∀ (pins : List (Addr × Obj)) (s : Shared) (σ : St) (H : Hp) (x : V) (xs : List V) (v : Value) (us : List Value) (Q : VK), Inv X pins σ H s → RelV x v → Vals xs us → r x xs H Q →
    wpAny (model X.prog X.w) X.A (call (.builtin id) (v :: us)) (EP X pins σ Q) X.xe s

/-! ### lists of values -/
theorem Vals.one : ∀ {x : V} {us : List Value}, Vals [x] us → ∃ u, us = [u] ∧ RelV x u
  | _, _, .cons r .nil => ⟨_, rfl, r⟩
theorem Vals.two : ∀ {x y : V} {us : List Value}, Vals [x, y] us → ∃ u v, us = [u, v] ∧ RelV x u ∧ RelV y v
  | _, _, _, .cons r (.cons q .nil) => ⟨_, _, rfl, r, q⟩
theorem Vals.zero : ∀ {us : List Value}, Vals [] us → us = []
  | _, .nil => rfl
theorem Vals.dropLast {xs : List V} {us : List Value} (h : Vals xs us) : Vals xs.dropLast us.dropLast := by
  induction h with
  | nil => exact .nil
  | cons r t ih =>
    cases t with
    | nil => exact .nil
    | cons q t' => exact .cons r ih
theorem Vals.rep {xs : List V} {us : List Value} (h : Vals xs us) : ∀ k : Nat, Vals (List.replicate k xs).flatten (List.replicate k us).flatten
  | 0 => .nil
  | k + 1 => by
    rw [List.replicate_succ, List.replicate_succ, List.flatten_cons, List.flatten_cons]
    exact Vals.append h (Vals.rep h k)
theorem erase_last {α : Type} (l : List α) : l.eraseIdx (l.length - 1) = l.dropLast := by
  induction l with
  | nil => rfl
  | cons a r ih =>
    cases r with
    | nil => rfl
    | cons b r =>
      have e : (a :: b :: r).length - 1 = ((b :: r).length - 1) + 1 := by
        have h1 : (a :: b :: r).length = r.length + 2 := rfl
        have h2 : (b :: r).length = r.length + 1 := rfl
        omega
      rw [e, List.eraseIdx_cons_succ, ih]
      all_goals rfl
theorem foldl_rep (its : List Value) : ∀ (k : Nat) (acc : List Value),
    List.foldl (fun x1 x2 => x1 ++ x2) acc.toArray (List.replicate k its.toArray) = (acc ++ (List.replicate k its).flatten).toArray
  | 0, acc => by simp
  | k + 1, acc => by
    have e : acc.toArray ++ its.toArray = (acc ++ its).toArray := by simp
    have e2 : (acc ++ its) ++ (List.replicate k its).flatten = acc ++ (List.replicate (k + 1) its).flatten := by
      rw [List.replicate_succ, List.flatten_cons, List.append_assoc]
    rw [← e2, ← foldl_rep its k (acc ++ its), ← e, List.replicate_succ, List.foldl_cons]

section
variable {X : Cx} {pins : List (Addr × Obj)} {σ : St} {H : Hp} {s : Shared} {l b : Addr} {xs ys zs : List V}

/-! ### the two steps: a tracked list is rewritten, a new list is laid -/
theorem Inv.lset {its its' : List Value} {n : Nat} {f : Array Value → Array Value} {t' : Nat} (I : Inv X pins σ H s) (hH : H l = some (.lst xs))
    (e : s.heap.get? l = some { cls := .type "list", data := .seq its.toArray n }) (hf : f its.toArray = its'.toArray) (hv : Vals ys its') (hz : ys.length ≤ sizeLine) :
    Inv X pins σ (upd H l (.lst ys)) { s with heap := s.heap.update l (Obj.mapSeq f), toks := t' } := by
  have q := PySem.IsL.update e f
  rw [hf] at q
  refine I.write (x := l) (e := l) (by rw [hH]; exact trivial) (.inl rfl) (fun b' u hb hu => (Heap.get?_update_other s.heap (Obj.mapSeq f) (Ne.symm hb)).trans hu) ⟨_, q⟩ ?_
  exact ⟨hz, its', _, hv, q⟩
theorem Inv.lnew {its : List Value} {t' : Nat} (I : Inv X pins σ H s) (hv : Vals ys its) (hz : ys.length ≤ sizeLine) :
    Inv X pins σ (upd H s.heap.objs.size (.lst ys)) { s with heap := s.heap.push { cls := .type "list", data := .seq its.toArray }, toks := t' } :=
  I.laid (fun _ _ q => Heap.get?_push_of_some _ q) (Nat.le_refl _) ⟨hz, its, 0, hv, Heap.get?_push_size _ rfl⟩
theorem Inv.fresh (I : Inv X pins σ H s) : H s.heap.objs.size = none := I.hok.fresh (Nat.le_refl _)
theorem Inv.lstM (I : Inv X pins σ H s) (hH : H l = some (.lst xs)) : xs.length ≤ sizeLine ∧ ∃ (its : List Value) (n : Nat), Vals xs its ∧ xs.length = its.length ∧ s.heap.get? l = some { cls := .type "list", data := .seq its.toArray n } := by
  obtain ⟨z, its, n, r, e⟩ := I.hok l _ hH
  exact ⟨z, its, n, r, r.length, e⟩

theorem notLongL {n : Nat} (h : n ≤ sizeLine) : Builtin.List.listTooLong n = false := by
  unfold Builtin.List.listTooLong
  exact decide_eq_false (by omega)
end

section
variable {X : Cx}

/-! ### methods -/
def rAppend : V → List V → Hp → VK → Prop := fun x vs H Q => ∃ l xs y, x = .ref l ∧ vs = [y] ∧ H l = some (.lst xs) ∧ xs.length < sizeLine ∧ Q .non (upd H l (.lst (xs ++ [y])))
theorem mt_append : MtM X "list.append" rAppend := by
  intro pins s σ H x vs v us Q I rx rv h
  obtain ⟨l, xs, y, rfl, rfl, hH, hz, q⟩ := h
  cases rx
  obtain ⟨u, rfl, ru⟩ := rv.one
  obtain ⟨z, its, n, r, hl, e⟩ := I.lstM hH
  refine call_meets F.slot_list_append ⟨_, e, rfl⟩ F.entry_list_append (F.args_list_append_2 _ _) (PySem.list_append l its.toArray n u (by rw [List.size_toArray]; omega)) ⟨e, ?_⟩
  refine ⟨.non, _, I.lset (its' := its ++ [u]) hH e (by simp) (r.append (.cons ru .nil)) ?_, rfl, q⟩
  rw [List.length_append, List.length_singleton]
  omega

def rExtend : V → List V → Hp → VK → Prop := fun x vs H Q => ∃ l b xs zs, x = .ref l ∧ vs = [.ref b] ∧ H l = some (.lst xs) ∧ H b = some (.lst zs) ∧ xs.length + zs.length ≤ sizeLine ∧ Q .non (upd H l (.lst (xs ++ zs)))
theorem mt_extend : MtM X "list.extend" rExtend := by
  intro pins s σ H x vs v us Q I rx rv h
  obtain ⟨l, b, xs, zs, rfl, rfl, hH, hB, hz, q⟩ := h
  cases rx
  obtain ⟨u, rfl, ru⟩ := rv.one
  cases ru
  obtain ⟨z, its, n, r, hl, e⟩ := I.lstM hH
  obtain ⟨z2, its2, n2, r2, hl2, e2⟩ := I.lstM hB
  have hsz : its.toArray.size + its2.toArray.size ≤ sizeLine := by rw [List.size_toArray, List.size_toArray]; omega
  have hlong : ¬ (!its.toArray.isEmpty && Builtin.List.listTooLong (its.toArray.size + its2.toArray.size)) = true := by
    rw [notLongL hsz, Bool.and_false]
    exact Bool.false_ne_true
  refine call_meets F.slot_list_extend ⟨_, e, rfl⟩ F.entry_list_extend (F.args_list_extend_2 _ _)
    (AutoSeq1.list_extend_list_list_0 l its.toArray n b its2.toArray n2 hlong (by rw [List.size_toArray]; omega) (by omega)) ⟨e, e2, ?_⟩
  refine ⟨.non, _, I.lset (its' := its ++ its2) hH e (by simp) (r.append r2) ?_, rfl, q⟩
  rw [List.length_append]
  omega

def rPop : V → List V → Hp → VK → Prop := fun x vs H Q => ∃ l xs y, x = .ref l ∧ vs = [] ∧ H l = some (.lst xs) ∧ xs[xs.length - 1]? = some y ∧ Q y (upd H l (.lst xs.dropLast))
theorem mt_pop : MtM X "list.pop" rPop := by
  intro pins s σ H x vs v us Q I rx rv h
  obtain ⟨l, xs, y, rfl, rfl, hH, hy, q⟩ := h
  cases rx
  have hus := rv.zero
  subst hus
  obtain ⟨z, its, n, r, hl, e⟩ := I.lstM hH
  obtain ⟨u, hu, ru⟩ := r.get hy
  have hy' : its.toArray[its.toArray.size - 1]? = some u := by
    show its.toArray[its.length - 1]? = some u
    rw [← Array.getElem?_toList, ← hl]
    exact hu
  refine call_meets F.slot_list_pop ⟨_, e, rfl⟩ F.entry_list_pop (F.args_list_pop_1 _) (MeetsSeq.list_pop_last l its.toArray n u hy' (by rw [List.size_toArray]; omega)) ⟨e, ?_⟩
  refine ⟨y, _, I.lset (its' := its.dropLast) hH e ?_ r.dropLast ?_, ru, q⟩
  · show its.toArray.eraseIdxIfInBounds (its.toArray.size - 1) = its.dropLast.toArray
    rw [List.size_toArray, List.eraseIdxIfInBounds_toArray, erase_last]
  · rw [List.length_dropLast]
    omega




/-! ### list + list, list += list, list * int -/
def rCat : R2 := fun x y H Q => ∃ l b xs zs, x = .ref l ∧ y = .ref b ∧ H l = some (.lst xs) ∧ H b = some (.lst zs) ∧ xs.length + zs.length ≤ sizeLine ∧ ∀ p, H p = none → Q (.ref p) (upd H p (.lst (xs ++ zs)))
theorem op_cat : OpR X (binaryOp .Add) rCat := by
  intro pins s σ H x y v u Q I rx ry h
  obtain ⟨l, b, xs, zs, rfl, rfl, hH, hB, hz, q⟩ := h
  cases rx
  cases ry
  obtain ⟨z, its, n, r, hl, e⟩ := I.lstM hH
  obtain ⟨z2, its2, n2, r2, hl2, e2⟩ := I.lstM hB
  refine PySem.P.add_list e e2 ?_ (by rw [List.size_toArray, List.size_toArray]; omega)
  have ea : its.toArray ++ its2.toArray = (its ++ its2).toArray := by simp
  rw [ea]
  exact ⟨.ref _, _, I.lnew (t' := s.toks) (r.append r2) (by rw [List.length_append]; omega), rfl, q _ I.fresh⟩
/-- a list times an int (a negative one is nothing) -/
def rRep : R2 := fun x y H Q => ∃ l k xs, x = .ref l ∧ y = .int k ∧ H l = some (.lst xs) ∧ -(2 ^ 63) ≤ k ∧ k < 2 ^ 63 ∧ xs.length * k.toNat ≤ sizeLine ∧
  ∀ p, H p = none → Q (.ref p) (upd H p (.lst (List.replicate k.toNat xs).flatten))
theorem len_rep {α : Type} (xs : List α) (k : Nat) : (List.replicate k xs).flatten.length = k * xs.length := by
  induction k with
  | zero => simp
  | succ k ih => rw [List.replicate_succ, List.flatten_cons, List.length_append, ih, Nat.succ_mul, Nat.add_comm]
theorem op_rep : OpR X (binaryOp .Mult) rRep := by
  intro pins s σ H x y v u Q I rx ry h
  obtain ⟨l, k, xs, rfl, rfl, hH, h1, h2, hz, q⟩ := h
  cases rx
  obtain ⟨t, rfl⟩ := ry
  obtain ⟨z, its, n, r, hl, e⟩ := I.lstM hH
  have hlen : its.toArray.size * k.toNat ≤ sizeLine := by rw [List.size_toArray, ← hl]; exact hz
  have hcap : ¬ its.toArray.size * k.toNat > (2 ^ 63 - 1) / 8 := by
    have : (sizeLine : Nat) ≤ (2 ^ 63 - 1) / 8 := by decide
    omega
  have hfit : ¬ (!Builtin.List.listFitsIndex k) = true := by
    rw [fitsIndex_both h1 h2]
    exact Bool.false_ne_true
  have hlong : ¬ Builtin.List.listTooLong (its.toArray.size * k.toNat) = true := by
    rw [notLongL hlen]
    exact Bool.false_ne_true
  have hnew : List.foldl (fun x1 x2 => x1 ++ x2) #[] (List.replicate (if its.toArray.isEmpty = true then 0 else k.toNat) its.toArray) = (List.replicate k.toNat its).flatten.toArray := by
    have f0 : ∀ m : Nat, List.foldl (fun x1 x2 => x1 ++ x2) #[] (List.replicate m its.toArray) = (List.replicate m its).flatten.toArray := fun m => by
      have := foldl_rep its m []
      rw [List.nil_append] at this
      exact this
    rw [f0]
    cases its with
    | nil => simp
    | cons a r' => rw [if_neg (by simp)]
  refine wpAny_binaryOp_repeat_ref (T := "list") (U := "int") (by decide) ⟨_, e, rfl⟩ (fun s' => typeIs_int s' k t) noFill_list_mul F.fills_int_mul F.slot_int_rmul repeat_list F.slot_int_index.lookup
    (call_meets F.slot_int_rmul (typeIs_int s k t) F.entry_int_rmul (F.args_int_rmul_2 _ _) (int___rmul___int_list k t l its.toArray n)
      ⟨e, rfl, ⟨_, e, rfl⟩, call_meets F.slot_list_mul ⟨_, e, rfl⟩ F.entry_list_mul (F.args_list_mul_2 _ _) (AutoListH.list___mul___list_int_3 l its.toArray n k t hfit hcap hlong) ⟨e, ?_⟩⟩)
  rw [hnew]
  exact ⟨.ref _, _, I.lnew (t' := s.toks) (r.rep k.toNat) (by rw [len_rep, Nat.mul_comm]; exact hz), rfl, q _ I.fresh⟩

/-! ### del xs[i] -/
end

/-! ### xs[a:b] = ys -/
section
variable {prog : Program} {w : World} {A : Around} {E : Value → Shared → Prop} {s : Shared}
end

section
variable {X : Cx}
end
end L2

namespace Att
open PySem PySem.W PySem.Calls PyProof.Rows

/-! ### the script -/
theorem ints_of_wellAll {P : Params} {h : Heap} : ∀ (ns : List Int) (vs : List Value), WellAll P h vs (ns.map WData.int) → IntsAre vs ns := by
  intro ns
  induction ns with
  | nil =>
    intro vs w
    rw [List.map_nil] at w
    cases w
    exact .nil
  | cons n ns ih =>
    intro vs w
    rw [List.map_cons] at w
    cases w with
    | cons a b =>
      cases a
      exact .cons _ _ (ih _ b)

theorem script_of {l : OpenLaw} {n : Nat} (hn : l.most = some n) {P : Params} {h : Heap} {args : List WData} {vals : List Value}
    (hpre : l.row.toRowW.claim.pre args = true) (hwl : WellAll P h vals args) :
    ∃ a vs ns, vals = [Value.ref a] ∧ args = [WData.list (ns.map WData.int)] ∧ h.get? a = some { cls := .type "list", data := .seq vs.toArray } ∧ IntsAre vs ns ∧ ns.length ≤ n := by
  have hsh : WShape.hasAll [] args [.list .int] = true := (pre_splitW hpre).1
  have hc : l.pre.holds [] { args := args } = true := (pre_splitW hpre).2
  obtain ⟨d, r, rfl, h1, h2⟩ := hasAllW_cons hsh
  obtain rfl := hasAllW_nil h2
  obtain ⟨xs, rfl, h3⟩ := hasW_list h1
  obtain ⟨ns, rfl⟩ := items_int h3
  have hlen : ns.length ≤ n := by
    unfold OpenLaw.pre at hc
    have h4 : (WTm.not (.lt (.lit (.int (n : Int))) (.len (.arg 0)))).holds [] { args := [.list (ns.map .int)] } = true := by
      have h4 := (holds_andW hc).1
      rw [hn] at h4
      exact h4
    have h5 := condW_of h4 (w_not (w_lt w_lit (w_len_list (w_arg rfl))))
    rw [List.length_map] at h5
    refine Nat.le_of_not_lt fun q => ?_
    have q' : (n : Int) < ((ns.length : Nat) : Int) := by omega
    first
      | (rw [decide_eq_true q'] at h5; exact absurd h5 (by decide))
      | (simp at h5; omega)
  cases hwl with
  | cons w1 w2 =>
    cases w2
    cases w1 with
    | list ho hall => exact ⟨_, _, ns, rfl, rfl, ho, ints_of_wellAll ns _ hall, hlen⟩

theorem post_true (l : OpenLaw) (args : List WData) : l.row.toRowW.claim.post args (.bool true) args = true :=
  postW_of (r := l.row.toRowW) (X := (true == true))
    (show WShape.has [] (.bool true) .bool = true by first | rfl | decide | simp [WShape.has, WShape.arms, WShape.armsAll])
    (show (WTm.eq .res (.lit (.bool true))).value [] { args := args, res := some (.bool true), after := args } = some (.bool (true == true)) from w_eq_bool (w_res rfl) w_lit) rfl

/-! ### the attachment: holds_open's last premise (the goal 'hc' behind k_head) from a wpAny of the law's body -/

/-- the same from a codeAny of the CALL (for a layer whose function contracts speak of calls) -/
theorem attach_call {l : OpenLaw} {n : Nat} {q : Program} {loose : List Str} {XP : (Str → Option Value) → Heap → Prop} {YP : World → Heap → Prop} {d : DefRec}
    (hn : l.most = some n) (hdf : d.params.defaults = [])
    (call : ∀ (w : World) (s₀ s₁ : Shared) (mg mb : Str → Option Value) (fa : Addr) (o : Obj) (pm cd doc : Value) (a : Addr) (vs : List Value) (ns : List Int),
      Ground q loose [] XP w s₀ mg mb s₁.heap → YP w s₁.heap →
      s₁.heap.get? fa = some o → o.data = .func (docDef d.name d.params d.body d.scope pm cd doc) → s₁.heap.CodeRec cd d.name → mg d.name = some (.ref fa) →
      s₁.heap.get? a = some { cls := .type "list", data := .seq vs.toArray } → IntsAre vs ns → ns.length ≤ n → s₁.gens = #[] →
      codeAny (model l.prog w) callerA (.call (.ref fa) ⟨[.ref a], []⟩) (fun r s' => r = .ok (.ret (.bool true)) ∧ OldK s₁.heap s'.heap ∧ s'.os = s₁.os ∧ AllBare s'.gens) s₁) :
    WalkO q loose XP YP l.row.toRowW d [] (fun f vs => PySem.call f vs) := by
  intro w s₀ s₁ mg mb G Y fa o pm cd doc dV kV ho hd hcd hD hmg hg args vals as hpre hlay hrd hwl hlo
  obtain rfl : dV = .none := Dflts.none hD hdf
  obtain rfl : kV = .none := Dflts.noKw hD
  obtain ⟨a, vs, ns, rfl, rfl, hobj, hints, hlen⟩ := script_of hn hpre hwl
  refine enter_call (codeAny_mono (call w s₀ s₁ mg mb fa o pm cd doc a vs ns G Y ho (fd_plain hd) hcd hmg hobj hints hlen hg) fun r s' hq => ?_)
  obtain ⟨rfl, h2, h3, h4⟩ := hq
  exact ⟨.inl ⟨.bool true, .bool true, [], rfl, fun _ => rfl, .bool true, post_true l _, fun _ => ⟨List.Pairwise.nil, fun _ hm => (nomatch hm)⟩⟩, h2, h3, h4⟩


/-! ### rules over ANY heap (no ledger) from facts about the written part K: the library's own take a ledger (News) for what they write -/
section
variable {prog : Program} {w : World} {A : Around} {E : Value → Shared → Prop} {s : Shared} {K : Frag}





/-! the whole heap as the ledger: makes every rule that writes through a ledger a rule over any heap -/
def ledger (h : Heap) (L d : Addr) : List (Addr × Obj) := (List.range h.objs.size).filterMap fun a => if a = L ∨ a = d then none else (h.get? a).map fun o => (a, o)

end
end Att

namespace L2
open PySem PySem.Spec PyProof.Rows

theorem vals_ints : ∀ {vs : List Value} {ns : List Int}, IntsAre vs ns → Vals (ns.map V.int) vs
  | _, _, .nil => .nil
  | _, _, .cons n t h => .cons ⟨t, rfl⟩ (vals_ints h)

/-- nothing is tracked but the script, known to the object (or it is an object of the module) -/
def Only (H : Hp) : Prop := ∀ b, H b = none ∨ ∃ o xs, H b = some (.frz o (.lst xs))

/-- THE HEAD: the law's promise, at the heap behind the top. F, the promise of the law's def, may use that base is part of the heap (so K.In base, base.Ns mainGlobals mg stand in Mod) -/
theorem law_call {P : Program} {w : World} {K : PySem.W.Frag} {mg mb : Str → Option Value} {CX : CXT} {k : Nat} {fa a : Addr} {fd : FuncData} {x : Str} {sp : Sp} {s₁ : Shared} {vs : List Value} {ns : List Int}
    (KX : K.In s₁.heap) (hns : s₁.heap.Ns mainGlobals mg) (hb : s₁.heap.Ns builtinsNs mb) (hbb : ∀ x : Str, x ≠ "__name__" → mb x = bootBuiltins x) (hlim : s₁.heap.NoLimit) (hg : s₁.gens = #[])
    (ha : s₁.heap.get? a = some { cls := .type "list", data := .seq vs.toArray }) (hi : IntsAre vs ns) (hl : ns.length ≤ sizeLine) (hr : Room k callerA)
    (F : ∀ base : Heap, K.In base → base.Ns mainGlobals mg → FnOk P w K mg base CX k fa fd [x] sp) (hbind : ∀ (s : Shared) (u : Value), BindsTo s fd ⟨[u], []⟩ [(x, u)])
    (hsp : ∀ H : Hp, Only H → SqL K H a (ns.map V.int) → sp [.ref a] H (fun v _ => v = .bl true) fun _ _ _ => False)
    (hCX : ∀ H e s', CX [] H s₁ (fun _ _ _ => False) e s' → False) :
    codeAny (model P w) callerA (.call (.ref fa) ⟨[.ref a], []⟩) (fun r s' => r = .ok (.ret (.bool true)) ∧ OldK s₁.heap s'.heap ∧ s'.os = s₁.os ∧ AllBare s'.gens) s₁ := by
  have rv := vals_ints hi
  have lenV := hi.length
  -- from an abstract heap in which nothing but the script may be tracked
  have core : ∀ H : Hp, Only H → SqL K H a (ns.map V.int) → HOk P w H s₁.heap → (∀ b, H b ≠ none → b = a) → (H a ≠ none → K.lookup a = none) →
      codeAny (model P w) callerA (.call (.ref fa) ⟨[.ref a], []⟩) (fun r s' => r = .ok (.ret (.bool true)) ∧ OldK s₁.heap s'.heap ∧ s'.os = s₁.os ∧ AllBare s'.gens) s₁ := by
    intro H hO hS hok hA hK
    have base_of : ∀ {b : Addr} {o : Obj}, s₁.heap.get? b = some o → H b = none → (hidT s₁.heap H).get? b = some o := fun e n => hidT_get e n
    have noA : ∀ {b : Addr} {o : Obj} {es : Array DictEntry} {ep : Nat}, s₁.heap.get? b = some o → o.data = .dict es ep → H b = none := fun {b o es ep} e d => by
      cases q : H b with
      | none => rfl
      | some u =>
        have e' : b = a := hA b (by rw [q]; simp)
        subst e'
        rw [ha] at e; cases e
        have d' : Data.seq vs.toArray _ = Data.dict es ep := d
        cases d'
    have nsK : ∀ {b : Addr} {m : Str → Option Value}, s₁.heap.Ns b m → (hidT s₁.heap H).Ns b m := fun {b m} ⟨o, es, ep, e, d, r⟩ => ⟨o, es, ep, base_of e (noA e d), d, r⟩
    have hKb : K.In (hidT s₁.heap H) := fun b o e => base_of (KX b o e) (by
      cases q : H b with
      | none => rfl
      | some u =>
        have e' : b = a := hA b (by rw [q]; simp)
        subst e'
        rw [hK (by rw [q]; simp)] at e; cases e)
    have hM : Mod K mg (hidT s₁.heap H) := ⟨hKb, nsK hns, ⟨mb, nsK hb, hbb⟩, let ⟨mc, h1, h2⟩ := hlim; ⟨mc, nsK h1, h2⟩⟩
    have e0 : Env0 P w K mg (hidT s₁.heap H) callerA [] s₁ H := ⟨rfl, hM, fun b o e => of_hidT e, Nat.le_of_eq (hidT_size _ _), trivial, fun b hb => absurd (show b ∈ ([] : List Addr) from hb) (by simp), hok, .of_eq hg⟩
    refine codeAny_mono ((F _ hKb (nsK hns)).run callerA [] s₁ H ⟨[.ref a], []⟩ [.ref a] [.ref a] _ _ hr e0 (hbind s₁ (.ref a)) (.cons rfl .nil) (hsp H hO hS)) fun r s' h => ?_
    cases r with
    | error e => exact (hCX H e s' h).elim
    | ok fl =>
      cases fl with
      | next => exact False.elim h
      | brk => exact False.elim h
      | cont => exact False.elim h
      | ret u =>
        obtain ⟨v, H', os, bare, un, hok', r', q⟩ := h
        have q' : v = .bl true := q
        subst q'
        obtain rfl : u = Value.bool true := r'
        refine ⟨rfl, OldK.of_keep fun b o e => ?_, os, bare⟩
        cases q : H b with
        | none => exact un.keep b o e q (by intro z; exact absurd (show b ∈ ([] : List Addr) from z) (by simp)) (by simp)
        | some u =>
          rcases hO b with z | ⟨ob, xs, z⟩
          · rw [q] at z; cases z
          · have z2 := un.frzs b ob _ z
            obtain ⟨e1, _⟩ := hok b _ z
            obtain ⟨e2, _⟩ := hok' b _ z2
            rw [e] at e1; cases e1
            exact e2
  cases hk : K.lookup a with
  | some o =>
    -- the script is one of the module's own objects
    have e := KX a o hk
    rw [ha] at e
    cases e
    refine core (fun _ => none) (fun _ => .inl rfl) (.inr ⟨_, vs.toArray, _, hk, rfl, rfl, rfl, by rw [List.size_toArray, lenV]; exact hl, by simpa using rv⟩) (fun b u z => by have z' : (none : Option HO) = some u := z; cases z') (fun b z => absurd rfl z) fun z => absurd rfl z
  | none =>
    refine core (fun b => if b = a then some (.frz { cls := .type "list", data := .seq vs.toArray } (.lst (ns.map V.int))) else none) (fun b => ?_) (.inl (.inr ⟨{ cls := .type "list", data := .seq vs.toArray }, if_pos rfl⟩)) (fun b u z => ?_) (fun b z => ?_) fun _ => hk
    · by_cases hb : b = a
      · exact .inr ⟨_, _, if_pos hb⟩
      · exact .inl (if_neg hb)
    · by_cases hb : b = a
      · have z' := (if_pos hb).symm.trans z
        cases z'
        subst hb
        exact ⟨ha, by rw [List.length_map]; exact hl, vs, _, rv, ha⟩
      · have z' := (if_neg hb).symm.trans z
        cases z'
    · by_cases hb : b = a
      · exact hb
      · exact absurd (if_neg hb) z
end L2

namespace L2
open PySem PySem.Spec PyProof.Rows


/-- the goal that k_head leaves (case hc), from the law's promise. F gives the function object fd (K's own) once, then the promise over every base -/
theorem walk_of {l : PySem.W.OpenLaw} {n k : Nat} {q : Program} {loose : List Str} {XP : (Str → Option Value) → Heap → Prop} {YP : World → Heap → Prop} {d : DefRec} {K : Params → PySem.W.Frag} {CX : World → CXT} {sp : World → Sp} {x : Str}
    (hn : l.most = some n) (hn2 : n ≤ sizeLine) (hdf : d.params.defaults = []) (hr : Room k callerA)
    (hY : ∀ (w : World) (h : Heap), YP w h → (K w.params).In h)
    (F : ∀ (w : World) (mg : Str → Option Value) (fa : Addr) (h : Heap), (K w.params).In h → h.Ns mainGlobals mg → mg d.name = some (.ref fa) →
      ∃ fd : FuncData, (∀ (s : Shared) (u : Value), BindsTo s fd ⟨[u], []⟩ [(x, u)]) ∧
        ∀ base : Heap, (K w.params).In base → base.Ns mainGlobals mg → FnOk l.prog w (K w.params) mg base (CX w) k fa fd [x] (sp w))
    (hsp : ∀ (w : World) (H : Hp) (a : Addr) (ns : List Int), ns.length ≤ n → Only H → SqL (K w.params) H a (ns.map V.int) → sp w [.ref a] H (fun v _ => v = .bl true) fun _ _ _ => False)
    (hCX : ∀ (w : World) (H : Hp) (s : Shared) (e : Value) (s' : Shared), CX w [] H s (fun _ _ _ => False) e s' → False) :
    PySem.W.WalkO q loose XP YP l.row.toRowW d [] (fun f vs => PySem.call f vs) := by
  refine Att.attach_call hn hdf fun w s₀ s₁ mg mb fa o pm cd doc a vs ns G Y ho hd hcd hmg hobj hints hlen hg => ?_
  have KX := hY w _ Y
  obtain ⟨fd, hb, hF⟩ := F w mg fa _ KX G.T.g hmg
  exact law_call KX G.T.g G.T.b G.T.builtins G.T.nolimit hg hobj hints (Nat.le_trans hlen hn2) hr hF hb (fun H hO hS => hsp w H a ns hlen hO hS) fun H e s' => hCX w H s₁ e s'
end L2



/-! SHORT WORDS over the layer: a def of the text, its body, what a loop and a test want. -/
namespace L2
open PySem PySem.Spec PyProof.Rows

/-! ### the text by places -/
def defArgs (s : Stmt) : Arguments := match s with
  | .FunctionDef _ a _ _ _ _ _ _ _ _ => a
  | _ => { posonlyargs := [], args := [], vararg := none, kwonlyargs := [], kw_defaults := [], kwarg := none, defaults := [] }
def defBody (s : Stmt) : List Stmt := match s with
  | .FunctionDef _ _ b _ _ _ _ _ _ _ => b
  | _ => []
def defScope (s : Stmt) : Scope := match s with
  | .FunctionDef _ _ _ _ _ _ sc _ _ _ => sc
  | _ => { kind := .function, names := [], isGenerator := false, isCoroutine := false }

/-! ### no exception leaves a def -/
abbrev CX0 : CXT := fun _ _ _ _ _ _ => False
abbrev E0 : XK := fun _ _ _ => False
theorem pass0 {X : Cx} : Passes CX0 X E0 := fun _ _ _ _ _ _ _ h => h.elim

/-! ### a def (or method) of the text as it stands behind the top -/
structure Fun (K : PySem.W.Frag) (x qual : Str) (st : Stmt) (f : Addr) (fd : FuncData) : Prop where
  ex : ∃ (oc : Value) (od : Option Addr) (kV doc pm : Value) (an : Option Addr) (cdv ct : Value) (osl : Array (Option Value)),
    fd = PySem.W.fnOf x qual (defArgs st) (defBody st) (defScope st) .none kV doc pm an cdv ct ∧ K.lookup f = some ⟨oc, od, .func fd, osl⟩ ∧ PySem.W.codeIn K cdv qual = true
  kp : PySem.W.keepIn K (.ref f) = true
section
variable {P : Program} {w : World} {K : PySem.W.Frag} {mg : Str → Option Value} {base : Heap}
/-- THE RULE for a def: its body as a term of rules, and the reading of that term -/
theorem Fun.ok {x qual : Str} {st : Stmt} {f : Addr} {fd : FuncData} {N ps : List Str} {k : Nat} {sp : Sp} (F : Fun K x qual st f fd) (S : FnScope N ps (defScope st)) (len : ∀ vs H Q E, sp vs H Q E → vs.length = ps.length)
    (hbody : ∀ (cdv : Value) (A : Around) (outer : List Env) (s : Shared) (H : Hp) (vs : List V) (Q : VK) (E : XK), Room k (A.deeper (envOfC qual (defScope st) s.heap.objs.size f cdv)) → sp vs H Q E →
      ∃ t, PSs (cxOf CX0 P w K mg base N qual (defScope st) f cdv A outer s H E).nox (defBody st) t ∧ t { nx := fun _ H' => Q .non H', rt := Q } (start N vs) H) : FnOk P w K mg base CX0 (k + 1) f fd ps sp := by
  obtain ⟨oc, od, kV, doc, pm, an, cdv, ct, osl, rfl, lk, hcd⟩ := F.ex
  refine fn_of lk hcd S len fun A outer s H vs Q E hr hsp => ?_
  obtain ⟨t, h, q⟩ := hbody cdv A outer s H vs Q E hr hsp
  exact ⟨t, h.nox, q⟩
/-- how its arguments bind (no defaults): h is «fun _ _ _ _ _ _ us hl => match us, hl with | [_, _], _ => rfl», one _ a parameter -/
theorem Fun.binds {x qual : Str} {st : Stmt} {f : Addr} {fd : FuncData} {ps : List Str} (F : Fun K x qual st f fd)
    (h : ∀ (kV doc pm : Value) (an : Option Addr) (cdv ct : Value) (us : List Value), us.length = ps.length → bindArgs (PySem.W.fnOf x qual (defArgs st) (defBody st) (defScope st) .none kV doc pm an cdv ct) ⟨us, []⟩ = pure (ps.zip us)) : Binds K fd ps [] := by
  obtain ⟨oc, od, kV, doc, pm, an, cdv, ct, osl, rfl, lk, hcd⟩ := F.ex
  exact .all (h kV doc pm an cdv ct)
theorem fun_mk {x qual : Str} {st : Stmt} {f : Addr} {oc : Value} {od an : Option Addr} {osl : Array (Option Value)} {kV doc pm cdv ct : Value} (l : K.lookup f = some ⟨oc, od, .func (PySem.W.fnOf x qual (defArgs st) (defBody st) (defScope st) .none kV doc pm an cdv ct), osl⟩)
    (c : PySem.W.codeIn K cdv qual = true) (k : PySem.W.keepIn K (.ref f) = true) : Fun K x qual st f (PySem.W.fnOf x qual (defArgs st) (defBody st) (defScope st) .none kV doc pm an cdv ct) := ⟨⟨oc, od, kV, doc, pm, an, cdv, ct, osl, rfl, l, c⟩, k⟩
end
theorem hu_of {A : Around} {k : Nat} (hr : Room k A) : A.units + 1 < cLine := Nat.lt_of_le_of_lt (Nat.add_le_add_left (by decide : 1 ≤ 64) _) hr.units

/-! ### expressions in short: the name that stands in the i-th slot -/
section
variable {X : Cx}
theorem pv (i : Nat) {x : Str} {pos : Pos} (hN : X.N[i]? = some x := by rfl) (hv : Vis X.env.scope x := by first | exact Or.inl rfl | exact Or.inr (Or.inl rfl) | exact Or.inr (Or.inr rfl)) (hd : (x == ("__debug__" : Str)) = false := by decide)
    (hcd : (x == ("__classdict__" : Str)) = false := by decide) : PE X (.Name x pos) (tVar i) := pe_var hN hv hd hcd
end

/-! ### tests -/
theorem iteF {A B : Prop} (h : B) : if false = true then A else B := by
  rw [if_neg Bool.false_ne_true]
  exact h
theorem iteT {A B : Prop} (h : A) : if true = true then A else B := by
  rw [if_pos rfl]
  exact h
theorem ite2 {c A B : Prop} [Decidable c] (h1 : c → A) (h2 : ¬ c → B) : if c then A else B := by
  by_cases h : c
  · rw [if_pos h]
    exact h1 h
  · rw [if_neg h]
    exact h2 h

/-! ### heaps -/
/-- all that was tracked is as it was -/
def Same (H H' : Hp) : Prop := ∀ b o, H b = some o → H' b = some o
theorem Same.refl (H : Hp) : Same H H := fun _ _ h => h
theorem Same.trans {H H1 H2 : Hp} (a : Same H H1) (b : Same H1 H2) : Same H H2 := fun c o h => b c o (a c o h)
theorem Same.free {H H' : Hp} (e : Same H H') {l : Addr} (h : H' l = Option.none) : H l = Option.none := by
  cases q : H l with
  | none => rfl
  | some o =>
    rw [e l o q] at h
    cases h
theorem Same.seq {K : PySem.W.Frag} {H H' : Hp} {a : Addr} {xs : List V} (e : Same H H') (h : SqL K H a xs) : SqL K H' a xs := by
  rcases h with (h | ⟨o, h⟩) | h
  · exact .inl (.inl (e _ _ h))
  · exact .inl (.inr ⟨o, e _ _ h⟩)
  · exact .inr h

end L2

set_option Elab.async false
set_option linter.all false
set_option maxRecDepth 100000
namespace L2
open PySem PySem.Spec PyProof.Rows

/-! ### lists of pairs as tables -/
section
variable {κ : Type} [DecidableEq κ]
def valV (kvs : List (κ × V)) (k : κ) : Option V := (kvs.find? fun kv => decide (kv.1 = k)).map (·.2)
/-- in its place, or at the end -/
def putK (kvs : List (κ × V)) (k : κ) (v : V) : List (κ × V) :=
  if (kvs.any fun kv => decide (kv.1 = k)) = true then kvs.map (fun kv => if kv.1 = k then (kv.1, v) else kv) else kvs ++ [(k, v)]

theorem valV_nil {k : κ} : valV ([] : List (κ × V)) k = none := rfl
theorem valV_pos {p : κ × V} {r : List (κ × V)} {k : κ} (e : p.1 = k) : valV (p :: r) k = some p.2 := by simp [valV, List.find?_cons, e]
theorem valV_neg {p : κ × V} {r : List (κ × V)} {k : κ} (e : ¬ p.1 = k) : valV (p :: r) k = valV r k := by simp [valV, List.find?_cons, e]
theorem valV_any (k : κ) : ∀ kvs : List (κ × V), (kvs.any fun kv => decide (kv.1 = k)) = (valV kvs k).isSome
  | [] => rfl
  | p :: r => by
    rw [List.any_cons]
    by_cases e : p.1 = k
    · simp only [valV_pos e, decide_eq_true e, Bool.true_or, Option.isSome_some]
    · rw [valV_neg e, decide_eq_false e, Bool.false_or]; exact valV_any k r
theorem valV_map (k j : κ) (y : V) : ∀ kvs : List (κ × V), valV (kvs.map fun kv => if kv.1 = k then (kv.1, y) else kv) j = (valV kvs j).map fun x => if j = k then y else x
  | [] => rfl
  | p :: r => by
    have ih := valV_map k j y r
    rw [List.map_cons]
    by_cases h : p.1 = k
    · rw [if_pos h]
      by_cases e : p.1 = j
      · rw [valV_pos (p := (p.1, y)) e, valV_pos e, Option.map_some, if_pos (e.symm.trans h)]
      · rw [valV_neg (p := (p.1, y)) e, valV_neg e, ih]
    · rw [if_neg h]
      by_cases e : p.1 = j
      · rw [valV_pos (p := p) e, valV_pos e, Option.map_some, if_neg (fun z => h (e.trans z))]
      · rw [valV_neg (p := p) e, valV_neg e, ih]
theorem valV_snoc (k j : κ) (y : V) : ∀ kvs : List (κ × V), valV kvs k = none → valV (kvs ++ [(k, y)]) j = if j = k then some y else valV kvs j
  | [], _ => by
    by_cases e : k = j
    · rw [if_pos e.symm]; exact valV_pos (p := (k, y)) e
    · rw [if_neg (fun z => e z.symm)]; exact valV_neg (p := (k, y)) e
  | p :: r, hn => by
    rw [List.cons_append]
    have hk : ¬ p.1 = k := fun z => by rw [valV_pos z] at hn; cases hn
    rw [valV_neg hk] at hn
    have ih := valV_snoc k j y r hn
    by_cases e : p.1 = j
    · rw [valV_pos e, valV_pos e, if_neg (fun z => hk (e.trans z))]
    · rw [valV_neg e, valV_neg e, ih]
theorem valV_put (kvs : List (κ × V)) (k j : κ) (y : V) : valV (putK kvs k y) j = if j = k then some y else valV kvs j := by
  unfold putK
  by_cases a : (kvs.any fun kv => decide (kv.1 = k)) = true
  · rw [if_pos a, valV_map]
    rw [valV_any] at a
    by_cases e : j = k
    · obtain ⟨x, hx⟩ := Option.isSome_iff_exists.mp a
      rw [if_pos e, e, hx, Option.map_some, if_pos rfl]
    · rw [if_neg e]
      cases valV kvs j with
      | none => rfl
      | some x => rw [Option.map_some, if_neg e]
  · rw [if_neg a]
    refine valV_snoc k j y kvs ?_
    rw [valV_any] at a
    cases q : valV kvs k with
    | none => rfl
    | some x => rw [q] at a; exact (a rfl).elim
theorem length_putK (kvs : List (κ × V)) (k : κ) (v : V) : (putK kvs k v).length ≤ kvs.length + 1 := by
  unfold putK
  split
  · rw [List.length_map]; omega
  · rw [List.length_append, List.length_cons, List.length_nil]; omega
theorem putK_new {kvs : List (κ × V)} {k : κ} (v : V) (h : valV kvs k = none) : putK kvs k v = kvs ++ [(k, v)] := by
  unfold putK
  rw [valV_any, h]
  exact if_neg (by decide)

theorem RelO.isSome_eq {o : Option V} {u : Option Value} (r : RelO o u) : o.isSome = u.isSome := by
  cases o with
  | none => cases u with
    | none => rfl
    | some _ => exact (show False from r).elim
  | some _ => cases u with
    | none => exact (show False from r).elim
    | some _ => rfl
theorem RelO.getD {o : Option V} {u : Option Value} {d : V} {d' : Value} (r : RelO o u) (rd : RelV d d') : RelV (o.getD d) (u.getD d') := by
  cases o with
  | none => cases u with
    | none => exact rd
    | some _ => exact (show False from r).elim
  | some _ => cases u with
    | none => exact (show False from r).elim
    | some _ => exact r

/-- raw tables of the same keys -/
theorem KV.val {kvs : List (κ × V)} {vs : List (κ × Value)} (r : KV kvs vs) (k : κ) : RelO (valV kvs k) (valueAt vs k) := by
  unfold KV at r
  induction r with
  | nil => exact True.intro
  | @cons p q ps qs h t ih =>
    obtain ⟨h1, h2⟩ := h
    by_cases e : p.1 = k
    · have e' : q.1 = k := h1.symm.trans e
      have b : valueAt (q :: qs) k = some q.2 := by simp [valueAt, List.find?_cons, e']
      rw [valV_pos e, b]; exact h2
    · have e' : ¬ q.1 = k := fun z => e (h1.trans z)
      have b : valueAt (q :: qs) k = valueAt qs k := by simp [valueAt, List.find?_cons, e']
      rw [valV_neg e, b]; exact ih
theorem KV.any {kvs : List (κ × V)} {vs : List (κ × Value)} (r : KV kvs vs) (k : κ) : (kvs.any fun kv => decide (kv.1 = k)) = vs.any fun kv => decide (kv.1 = k) := by
  unfold KV at r
  induction r with
  | nil => rfl
  | cons h t ih => rw [List.any_cons, List.any_cons, ih, h.1]
theorem KV.repl {kvs : List (κ × V)} {vs : List (κ × Value)} (r : KV kvs vs) (k : κ) {y : V} {u : Value} (ry : RelV y u) :
    KV (kvs.map fun kv => if kv.1 = k then (kv.1, y) else kv) (vs.map fun kv => if kv.1 = k then (kv.1, u) else kv) := by
  unfold KV at r ⊢
  induction r with
  | nil => exact .nil
  | @cons p q ps qs h t ih =>
    rw [List.map_cons, List.map_cons]
    refine .cons ?_ ih
    obtain ⟨h1, h2⟩ := h
    by_cases e : p.1 = k
    · rw [if_pos e, if_pos (h1.symm.trans e)]; exact ⟨h1, ry⟩
    · rw [if_neg e, if_neg (fun z => e (h1.trans z))]; exact ⟨h1, h2⟩
theorem KV.put {kvs : List (κ × V)} {vs : List (κ × Value)} (r : KV kvs vs) (k : κ) {y : V} {u : Value} (ry : RelV y u) : KV (putK kvs k y) (stored vs k u) := by
  unfold putK stored
  rw [r.any k]
  by_cases e : (vs.any fun kv => decide (kv.1 = k)) = true
  · rw [if_pos e, if_pos e]; exact r.repl k ry
  · rw [if_neg e, if_neg e]; exact Paired.snoc r ⟨rfl, ry⟩
theorem KV.length {kvs : List (κ × V)} {vs : List (κ × Value)} (r : KV kvs vs) : kvs.length = vs.length := Paired.length r
end


/-! ### a tracked dict, its keys ints and texts or tuples of these -/
theorem kV_is {P : Program} {w : World} {k : Key} {u : Value} (r : RelV (kV k) u) : (mixKind P w).is k u = true := by
  rcases k with (_ | i) | x
  · cases (show u = Value.none from r); exact mixKind_none P w
  · obtain ⟨t, e⟩ := (show ∃ t, u = Value.int i t from r); subst e; exact mixKind_int P w i t
  · obtain ⟨t, e⟩ := (show ∃ t, u = Value.str x t from r); subst e; exact mixKind_str P w x t
theorem items_are {P : Program} {w : World} : ∀ {ks : List Key} {us : List Value}, Vals (ks.map kV) us → ItemsAre (mixKind P w) ks us
  | [], _, r => by rw [List.map_nil] at r; cases r; exact .nil
  | k :: ks, _, r => by
    rw [List.map_cons] at r
    cases r with
    | cons h t => exact .cons (kV_is h) (items_are t)

/-- raw entries of a dict with tuple keys -/
abbrev KT (H : Hp) : List (List Key × V) → List (List Key × Addr × Value) → Prop := Paired fun p q => p.1 = q.1 ∧ H q.2.1 = some (.tup (p.1.map kV)) ∧ RelV p.2 q.2.2
theorem KT.val {H : Hp} {kvs : List (List Key × V)} {xs : List (List Key × Addr × Value)} (r : KT H kvs xs) (k : List Key) : RelO (valV kvs k) ((atKey xs k).map (·.2)) := by
  induction r with
  | nil => exact True.intro
  | @cons p q ps qs h t ih =>
    obtain ⟨h1, _, h2⟩ := h
    by_cases e : p.1 = k
    · have e' : q.1 = k := h1.symm.trans e
      have b : atKey (q :: qs) k = some q.2 := by simp [atKey, List.find?_cons, e']
      rw [valV_pos e, b]; exact h2
    · have e' : ¬ q.1 = k := fun z => e (h1.trans z)
      have b : atKey (q :: qs) k = atKey qs k := by simp [atKey, List.find?_cons, e']
      rw [valV_neg e, b]; exact ih
theorem KT.repl {H : Hp} {kvs : List (List Key × V)} {xs : List (List Key × Addr × Value)} (r : KT H kvs xs) (k : List Key) {y : V} {u : Value} (ry : RelV y u) :
    KT H (kvs.map fun kv => if kv.1 = k then (kv.1, y) else kv) (xs.map (putAt k u)) := by
  induction r with
  | nil => exact .nil
  | @cons p q ps qs h t ih =>
    rw [List.map_cons, List.map_cons]
    refine .cons ?_ ih
    obtain ⟨h1, h2, h3⟩ := h
    unfold putAt
    by_cases e : p.1 = k
    · rw [if_pos e, if_pos (h1.symm.trans e)]; exact ⟨h1, h2, ry⟩
    · rw [if_neg e, if_neg (fun z => e (h1.trans z))]; exact ⟨h1, h2, h3⟩
theorem KT.put {H : Hp} {kvs : List (List Key × V)} {xs : List (List Key × Addr × Value)} (r : KT H kvs xs) (k : List Key) {b : Addr} {y : V} {u : Value} (hb : H b = some (.tup (k.map kV))) (ry : RelV y u) :
    KT H (putK kvs k y) (storedH xs k b u) := by
  have e : (kvs.any fun kv => decide (kv.1 = k)) = (atKey xs k).isSome := by
    rw [valV_any, (r.val k).isSome_eq, Option.isSome_map]
  unfold putK storedH
  rw [e]
  by_cases q : (atKey xs k).isSome = true
  · rw [if_pos q, if_pos q]; exact r.repl k ry
  · rw [if_neg q, if_neg q]; exact Paired.snoc r ⟨rfl, hb, ry⟩
theorem KT.keeps {H H' : Hp} {kvs : List (List Key × V)} {xs : List (List Key × Addr × Value)} (r : KT H kvs xs) (ht : ∀ b ys, H b = some (.tup ys) → H' b = some (.tup ys)) : KT H' kvs xs :=
  Paired.mapP r fun _ _ z => ⟨z.1, ht _ _ z.2.1, z.2.2⟩

section
variable {P : Program} {w : World} {H : Hp} {h : Heap} {a : Addr}
theorem rd_of {u : HO} (ok : HOk P w H h) (e : Rd H a u) : ObjOk P w H h a u := e.ok ok
theorem dk_rd {kvs : List (Key × V)} (ok : HOk P w H h) (e : Rd H a (.dK kvs)) : kvs.length ≤ sizeLine ∧ (a == sysModules) = false ∧ ∃ vs, KV kvs vs ∧ h.DictOf (mixKind P w) a vs :=
  show ObjOk P w H h a (.dK kvs) from rd_of ok e
theorem dk_of {kvs : List (Key × V)} (ok : HOk P w H h) (e : H a = some (.dK kvs)) : kvs.length ≤ sizeLine ∧ (a == sysModules) = false ∧ ∃ vs, KV kvs vs ∧ h.DictOf (mixKind P w) a vs := dk_rd ok (.inl e)
/-- a tracked tuple of ints and texts is a key -/
theorem key_of {ks : List Key} (ok : HOk P w H h) (e : H a = some (.tup (ks.map kV))) : (tupleKind (mixKind P w)).is h ks a := by
  obtain ⟨_, its, r, o, h1, h2, ⟨n, h3⟩, _⟩ := (show ObjOk P w H h a (.tup (ks.map kV)) from ok a _ e)
  exact ⟨o, its.toArray, n, h1, h2, h3, by simpa using items_are r⟩
theorem dt_rd {kvs : List (List Key × V)} (ok : HOk P w H h) (e : Rd H a (.dT kvs)) : kvs.length ≤ sizeLine ∧ (a == sysModules) = false ∧
    ∃ xs, KT H kvs xs ∧ h.DictOfH (tupleKind (mixKind P w)) a xs := by
  obtain ⟨z, y, xs, r, o, es, ep, h1, h2, h3, h4, h5⟩ := (show ObjOk P w H h a (.dT kvs) from rd_of ok e)
  refine ⟨z, y, xs, r, o, es, ep, h1, h2, h3, h4, fun x hx => ?_, h5⟩
  have all : ∀ {l : List (List Key × V)} {m : List (List Key × Addr × Value)}, KT H l m → ∀ x ∈ m, (tupleKind (mixKind P w)).is h x.1 x.2.1 := by
    intro l m q
    induction q with
    | nil => intro x hx; exact nomatch hx
    | @cons p q ps qs hq t ih =>
      intro x hx
      rcases List.mem_cons.mp hx with e | hx
      · subst e
        exact key_of ok (by rw [← hq.1]; exact hq.2.1)
      · exact ih x hx
  exact all r x hx
theorem dt_of {kvs : List (List Key × V)} (ok : HOk P w H h) (e : H a = some (.dT kvs)) : kvs.length ≤ sizeLine ∧ (a == sysModules) = false ∧
    ∃ xs, KT H kvs xs ∧ h.DictOfH (tupleKind (mixKind P w)) a xs := dt_rd ok (.inl e)
end

/-- what the dict at a holds at the key y -/
def DGet (H : Hp) (a : Addr) (y : V) (r : Option V) : Prop :=
  (∃ kvs k, Rd H a (.dK kvs) ∧ y = kV k ∧ r = valV kvs k) ∨ ∃ kvs k b, Rd H a (.dT kvs) ∧ y = .ref b ∧ H b = some (.tup (k.map kV)) ∧ r = valV kvs k
/-- the heap behind a[y] = v -/
def DPut (H : Hp) (a : Addr) (y v : V) (H' : Hp) : Prop :=
  (∃ kvs k, H a = some (.dK kvs) ∧ y = kV k ∧ kvs.length < sizeLine ∧ H' = upd H a (.dK (putK kvs k v))) ∨
  ∃ kvs k b, H a = some (.dT kvs) ∧ y = .ref b ∧ H b = some (.tup (k.map kV)) ∧ kvs.length < sizeLine ∧ H' = upd H a (.dT (putK kvs k v))
theorem DGet.k {H : Hp} {a : Addr} {kvs : List (Key × V)} {k : Key} (e : H a = some (.dK kvs)) : DGet H a (kV k) (valV kvs k) := .inl ⟨kvs, k, .inl e, rfl, rfl⟩
theorem DPut.k {H : Hp} {a : Addr} {kvs : List (Key × V)} {k : Key} {v : V} (e : H a = some (.dK kvs)) (hl : kvs.length < sizeLine) : DPut H a (kV k) v (upd H a (.dK (putK kvs k v))) := .inl ⟨kvs, k, e, rfl, hl, rfl⟩


section
variable {X : Cx} {pins : List (Addr × Obj)} {σ : St} {H : Hp} {s : Shared} {a : Addr} {y v : V} {u r : Value} {o : Option V} {A : Around} {E : Value → Shared → Prop}

theorem Inv.big (I : Inv X pins σ H s) : sysModules < s.heap.objs.size := by
  have h : mainGlobals < s.heap.objs.size := (I.mod.glob.keeps I.bk).lt
  exact Nat.lt_trans (by decide) h

/-- d[y], there -/
theorem d_getItem {Q : Value → Shared → Prop} (hu : A.units + 1 < cLine) (I : Inv X pins σ H s) (g : DGet H a y (some v)) (ry : RelV y u) (h : ∀ w' s', Inv X pins σ H s' → RelV v w' → Q w' s') :
    wpAny (model X.prog X.w) A (getItem (.ref a) u) Q E s := by
  rcases g with ⟨kvs, k, e, ey, l⟩ | ⟨kvs, k, b, e, ey, eb, l⟩
  · subst ey
    obtain ⟨z, hd, vs, rel, dd⟩ := dk_rd I.hok e
    obtain ⟨w', hw, rw'⟩ := RelO.some_of (v := v) (o := valueAt vs k) (by rw [l]; exact rel.val k)
    exact wpAny_getItem_of (kV_is ry) dd.mapOf hw (h w' _ (I.tok _) rw')
  · subst ey
    cases (show u = Value.ref b from ry)
    obtain ⟨z, hd, xs, rel, dd⟩ := dt_rd I.hok e
    obtain ⟨w', hw, rw'⟩ := RelO.some_of (v := v) (o := (atKey xs k).map (·.2)) (by rw [l]; exact rel.val k)
    obtain ⟨p, hp, hp2⟩ := Option.map_eq_some_iff.mp hw
    refine wpAny_getItem_heap (tupleKind_room_in1 hu) (key_of I.hok eb) dd hp ?_
    rw [hp2]
    exact h w' _ (I.tok _) rw'
/-- y in d -/
theorem d_in {Q : Value → Shared → Prop} (hu : A.units + 1 < cLine) (I : Inv X pins σ H s) (g : DGet H a y o) (ry : RelV y u) (h : ∀ s', Inv X pins σ H s' → Q (.bool o.isSome) s') :
    wpAny (model X.prog X.w) A (compareOp .In u (.ref a)) Q E s := by
  rcases g with ⟨kvs, k, e, ey, l⟩ | ⟨kvs, k, b, e, ey, eb, l⟩
  · subst ey
    obtain ⟨z, hd, vs, rel, dd⟩ := dk_rd I.hok e
    refine wpAny_in_of (kV_is ry) hd dd.mapOf ?_
    rw [← (rel.val k).isSome_eq, ← l]
    exact h _ (I.tok _)
  · subst ey
    cases (show u = Value.ref b from ry)
    obtain ⟨z, hd, xs, rel, dd⟩ := dt_rd I.hok e
    refine wpAny_in_heap (tupleKind_room_in1 hu) (key_of I.hok eb) hd dd ?_
    have q := (rel.val k).isSome_eq
    rw [Option.isSome_map] at q
    rw [← q, ← l]
    exact h _ (I.tok _)
theorem d_notIn {Q : Value → Shared → Prop} (hu : A.units + 1 < cLine) (I : Inv X pins σ H s) (g : DGet H a y o) (ry : RelV y u) (h : ∀ s', Inv X pins σ H s' → Q (.bool (!o.isSome)) s') :
    wpAny (model X.prog X.w) A (compareOp .NotIn u (.ref a)) Q E s := by
  rcases g with ⟨kvs, k, e, ey, l⟩ | ⟨kvs, k, b, e, ey, eb, l⟩
  · subst ey
    obtain ⟨z, hd, vs, rel, dd⟩ := dk_rd I.hok e
    refine wpAny_notIn_of (kV_is ry) hd dd.mapOf ?_
    rw [← (rel.val k).isSome_eq, ← l]
    exact h _ (I.tok _)
  · subst ey
    cases (show u = Value.ref b from ry)
    obtain ⟨z, hd, xs, rel, dd⟩ := dt_rd I.hok e
    refine wpAny_notIn_heap (tupleKind_room_in1 hu) (key_of I.hok eb) hd dd ?_
    have q := (rel.val k).isSome_eq
    rw [Option.isSome_map] at q
    rw [← q, ← l]
    exact h _ (I.tok _)
/-- a dict's object is replaced -/
theorem d_write {h' : Heap} {t' : Nat} {ob : HO} (I : Inv X pins σ H s) (mu : Mut (H a)) (hs : Heap.SameBut a s.heap h') (he : ∃ q, h'.get? a = some q) (new : ObjOk X.prog X.w (upd H a ob) h' a ob) :
    Inv X pins σ (upd H a ob) { s with heap := h', toks := t' } :=
  I.write (x := a) (e := a) mu (.inl rfl) (fun b q hb z => (hs.2 b hb).trans z) he new
theorem dk_new {P : Program} {w : World} {H' : Hp} {h' : Heap} {kvs : List (Key × V)} {vs : List (Key × Value)} (z : kvs.length ≤ sizeLine) (hd : (a == sysModules) = false) (rel : KV kvs vs) (dd : h'.DictOf (mixKind P w) a vs) :
    ObjOk P w H' h' a (.dK kvs) := ⟨z, hd, vs, rel, dd⟩
/-- d[y] = v -/
theorem d_setItem {H' : Hp} {Q : Unit → Shared → Prop} (hu : A.units + 1 < cLine) (I : Inv X pins σ H s) (g : DPut H a y v H') (ry : RelV y u) (rv : RelV v r) (h : ∀ s', Inv X pins σ H' s' → Q () s') :
    wpAny (model X.prog X.w) A (setItem (.ref a) u r) Q E s := by
  rcases g with ⟨kvs, k, e, ey, l, eH⟩ | ⟨kvs, k, b, e, ey, eb, l, eH⟩
  · subst ey eH
    obtain ⟨z, hd, vs, rel, dd⟩ := dk_of I.hok e
    have hz : vs.length ≤ sizeLine := by rw [← rel.length]; exact z
    have hl : (putK kvs k v).length ≤ sizeLine := by have := length_putK kvs k v; omega
    refine wpAny_setItem_pairs (hsz := hz) (kV_is ry) dd fun h' dd' hs => h _ ?_
    have he : ∃ q, h'.get? a = some q := let ⟨q, _, _, hq, _⟩ := dd'; ⟨q, hq⟩
    exact d_write I (by rw [e]; exact True.intro) hs he (dk_new hl hd (rel.put k rv) dd')
  · subst ey eH
    cases (show u = Value.ref b from ry)
    obtain ⟨z, hd, xs, rel, dd⟩ := dt_of I.hok e
    have hz : xs.length ≤ sizeLine := by rw [← Paired.length rel]; exact z
    have hl : (putK kvs k v).length ≤ sizeLine := by have := length_putK kvs k v; omega
    refine wpAny_setItem_heap (hsz := hz) (tupleKind_room_in1 hu) (key_of I.hok eb) dd fun h' dd' hs => h _ ?_
    obtain ⟨q, es, ep, hq, h2, h3, h4, _, h5⟩ := dd'
    refine d_write I (by rw [e]; exact True.intro) hs ⟨q, hq⟩ ⟨hl, hd, _, (rel.put k eb rv).keeps fun c ys ec => ?_, q, es, ep, hq, h2, h3, h4, h5⟩
    rw [upd_ne (ne_of ec e (fun z => nomatch z))]
    exact ec
end

section
variable {X : Cx} {pins : List (Addr × Obj)} {σ : St} {H : Hp} {s : Shared} {a : Addr} {kvs : List (Key × V)} {k : Key} {u : Value} {A : Around} {E : Value → Shared → Prop}
end


/-! ### readings and rules -/
/-- the element of a subscription, not a slice -/
def NoSl (i : Expr) : Prop := ∀ ov iv, subscripted i false ov iv = operate [ov, iv] (getItem ov iv)
theorem subD_of {prog : Program} {w : World} {A : Around} {E : Value → Shared → Prop} {s : Shared} {env : Env} {value slice : Expr} {pos : Pos} {T id : String} {Q : Value → Shared → Prop}
    (hl : typeLookup (.type T) "__getitem__" = pure (some (.builtin id))) (hs : NoSl slice)
    (h : wpAny (model prog w) A (eval value env) (fun o s₁ => wpAny (model prog w) A (eval slice env) (fun i s₂ => s₂.TypeIs o T ∧ wpAny (model prog w) A (getItem o i) Q E s₂) E s₁) E s) :
    wpAny (model prog w) A (eval (.Subscript value slice pos) env) Q E s := by
  refine Subscript_ (wpAny_mono h (fun o s₁ h₁ => wpAny_mono h₁ (fun i s₂ h₂ => ?_) fun _ _ x => x) fun _ _ x => x)
  obtain ⟨hT, h₂⟩ := h₂
  unfold subscriptTail
  refine wpAny_bind ?_
  rw [getitemInPython_of_ne hT.not_modules]
  refine wpAny_bind (wpAny_specialOf hT hl ?_)
  have fin : wpAny (model prog w) A (subscripted slice false o i) (fun r s₃ => wpAny (model prog w) A (letTemporaryGo value o r >>= fun _ => pure r) Q E s₃) E s₂ := by
    rw [hs o i]
    exact wpAny_operating (wpAny_mono h₂ (fun r s₃ h₃ => wpAny_bind (wpAny_letTemporaryGo (wpAny_pure h₃))) fun _ _ x => x)
  first
    | exact wpAny_pure (wpAny_bind fin)
    | exact wpAny_bind (wpAny_pure (wpAny_bind fin))
    | exact wpAny_bind fin

theorem dict_typeIs {X : Cx} {pins : List (Addr × Obj)} {σ : St} {H : Hp} {s : Shared} {a : Addr} {y : V} {o : Option V} (I : Inv X pins σ H s) (g : DGet H a y o) : s.TypeIs (.ref a) "dict" := by
  rcases g with ⟨kvs, k, e, _, _⟩ | ⟨kvs, k, b, e, _, _, _⟩
  · obtain ⟨_, _, vs, _, dd⟩ := dk_rd I.hok e
    exact dd.typeIs
  · obtain ⟨_, _, xs, _, dd⟩ := dt_rd I.hok e
    exact dd.typeIs

/-- d[y] -/
def tDGet (td ty : TE) : TE := fun σ H Q => td σ H fun x H1 => ty σ H1 fun y H2 => ∃ a v, x = .ref a ∧ DGet H2 a y (some v) ∧ Q v H2
/-- y in d, y not in d -/
def tDIn (ty td : TE) : TE := fun σ H Q => ty σ H fun y H1 => td σ H1 fun x H2 => ∃ a o, x = .ref a ∧ DGet H2 a y o ∧ Q (.bl o.isSome) H2
def tDNotIn (ty td : TE) : TE := fun σ H Q => ty σ H fun y H1 => td σ H1 fun x H2 => ∃ a o, x = .ref a ∧ DGet H2 a y o ∧ Q (.bl (!o.isSome)) H2
/-- d[y] = v -/
def sDPut (td ty tv : TE) : TS := fun D σ H => tv σ H fun v H1 => td σ H1 fun x H2 => ty σ H2 fun y H3 => ∃ a H4, x = .ref a ∧ DPut H3 a y v H4 ∧ D.nx σ H4

section
variable {X : Cx} {o i e value : Expr} {pos pos' tpos : Pos} {td ty tv : TE}
theorem pe_dget (hu : X.A.units + 1 < cLine) (ho : PE X o td) (hi : PE X i ty) (hs : NoSl i) : PE X (.Subscript o i pos) (tDGet td ty) := by
  intro pins s σ H Q I h
  refine subD_of PySem.F.slot_dict_getitem.lookup hs (thn (ho pins s σ H _ I h) fun u s1 ⟨x, H1, I1, rx, q1⟩ => thn (hi pins s1 σ H1 _ I1 q1) fun iv s2 ⟨y, H2, I2, ry, a, v, ex, g, q2⟩ => ?_)
  subst ex
  obtain rfl : u = Value.ref a := rx
  exact ⟨dict_typeIs I2 g, d_getItem hu I2 g ry fun w' s3 I3 rw' => ⟨v, H2, I3, rw', q2⟩⟩
theorem pc_din (hu : X.A.units + 1 < cLine) (hi : PE X i ty) (ho : PE X o td) : PC X .In i o (tDIn ty td) := by
  intro pins s σ H Q I h
  refine thn (hi pins s σ H _ I h) fun iv s1 ⟨y, H1, I1, ry, q1⟩ => thn (ho pins s1 σ H1 _ I1 q1) fun u s2 ⟨x, H2, I2, rx, a, ov, ex, g, q2⟩ => ?_
  subst ex
  obtain rfl : u = Value.ref a := rx
  exact d_in hu I2 g ry fun s3 I3 => ⟨.bl ov.isSome, H2, I3, rfl, q2⟩
theorem pc_dnotin (hu : X.A.units + 1 < cLine) (hi : PE X i ty) (ho : PE X o td) : PC X .NotIn i o (tDNotIn ty td) := by
  intro pins s σ H Q I h
  refine thn (hi pins s σ H _ I h) fun iv s1 ⟨y, H1, I1, ry, q1⟩ => thn (ho pins s1 σ H1 _ I1 q1) fun u s2 ⟨x, H2, I2, rx, a, ov, ex, g, q2⟩ => ?_
  subst ex
  obtain rfl : u = Value.ref a := rx
  exact d_notIn hu I2 g ry fun s3 I3 => ⟨.bl (!ov.isSome), H2, I3, rfl, q2⟩
theorem ps_dput (hu : X.A.units + 1 < cLine) (ho : PE X o td) (hi : PE X i ty) (hv : PE X value tv) (hs : swapsWith value (some (.Subscript o i pos')) pos.line X.env = pure false) :
    PS X (.Assign [.Subscript o i pos'] value pos) (sDPut td ty tv) := by
  intro pins s σ H D I h
  refine wpAny_Assign_Subscript (thn (hv pins s σ H _ I h) fun r s1 ⟨v, H1, I1, rv, q1⟩ => thn (ho pins s1 σ H1 _ I1 q1) fun u s2 ⟨x, H2, I2, rx, q2⟩ => thn (hi pins s2 σ H2 _ I2 q2) fun iv s3 ⟨y, H3, I3, ry, a, H4, ex, g, q3⟩ => ?_) hs
  subst ex
  obtain rfl : u = Value.ref a := rx
  exact d_setItem hu I3 g ry rv fun s4 I4 => ⟨σ, H4, I4, q3⟩
end


/-! ### displays -/
theorem dk_empty {P : Program} {w : World} {H : Hp} (h : Heap) (hb : sysModules < h.objs.size) : ObjOk P w H (h.push { cls := .type "dict", data := .dict #[] }) h.objs.size (.dK []) :=
  ⟨Nat.zero_le _, beq_eq_false_iff_ne.mpr (Ne.symm (Nat.ne_of_lt hb)), [], .nil, Heap.DictOf.new h⟩
/-- {}, to be a dict of the kind that is wanted -/
def tDNewK : TE := fun _ H Q => ∀ p, H p = none → Q (.ref p) (upd H p (.dK []))
section
variable {X : Cx} {pos : Pos}
theorem pe_dnewK : PE X (.Dict [] [] pos) tDNewK := fun pins s σ H Q I h =>
  wpAny_Dict_empty ⟨.ref s.heap.objs.size, _, I.laid (a := s.heap.objs.size) (o := .dK []) (t' := s.toks) (fun _ _ q => Heap.get?_push_of_some _ q) (Nat.le_refl _) (dk_empty s.heap I.big), rfl, h _ (I.hok.fresh (Nat.le_refl _))⟩
end




/-! ### methods -/
structure M2 (X : Cx) (o : Expr) (m : Str) (apos : Pos) (e f : Expr) (cpos : Pos) : Prop where
  base : attributeBase o m X.env (eval o X.env) = eval o X.env
  few : ((backTo cpos (starEach [e, f] X.env)).all (fun x => !x.1) && (backToKw cpos (keywordEach [] X.env)).all (fun x => x.1.isSome)
    && decide (([e, f] : List Expr).length + ([] : List Keyword).length + (if ([] : List Keyword).isEmpty then 0 else 1) < 30)) = true
  line : (apos.endLine == cpos.line) = true
  trees : backTo cpos (starEach [e, f] X.env) = [(false, eval e X.env), (false, eval f X.env)]

/-- a is a dict, whatever its keys -/
def IsD (H : Hp) (a : Addr) : Prop := (∃ kvs, Rd H a (.dK kvs)) ∨ ∃ kvs, Rd H a (.dT kvs)
theorem isD_at {X : Cx} {pins : List (Addr × Obj)} {σ : St} {H : Hp} {s : Shared} {a : Addr} (I : Inv X pins σ H s) (d : IsD H a) :
    s.TypeIs (.ref a) "dict" ∧ (∀ b, Value.ref a = .ref b → ∃ ob, s.heap.get? b = some ob ∧ ob.dict = none) ∧ (a == sysModules) = false := by
  rcases d with ⟨kvs, e⟩ | ⟨kvs, e⟩
  · obtain ⟨_, hd, vs, _, dd⟩ := dk_rd I.hok e
    refine ⟨dd.typeIs, fun b q => ?_, hd⟩
    cases q
    obtain ⟨ob, _, _, h1, h2, _⟩ := dd
    exact ⟨ob, h1, h2.2.1⟩
  · obtain ⟨_, hd, xs, _, dd⟩ := dt_rd I.hok e
    refine ⟨dd.typeIs, fun b q => ?_, hd⟩
    cases q
    obtain ⟨ob, _, _, h1, h2, _⟩ := dd
    exact ⟨ob, h1, h2.2.1⟩

section
variable {X : Cx} {pins : List (Addr × Obj)} {σ : St} {H : Hp} {s : Shared} {a : Addr} {y d : V} {u r : Value} {o : Option V} {A : Around} {E : Value → Shared → Prop}
/-- d.get(y, x) -/
theorem d_get2 {Q : Value → Shared → Prop} (hu : A.units + 1 < cLine) (I : Inv X pins σ H s) (g : DGet H a y o) (ry : RelV y u) (rd : RelV d r) (h : ∀ w' s', Inv X pins σ H s' → RelV (o.getD d) w' → Q w' s') :
    wpAny (model X.prog X.w) A (call (.builtin "dict.get") [.ref a, u, r]) Q E s := by
  rcases g with ⟨kvs, k, e, ey, l⟩ | ⟨kvs, k, b, e, ey, eb, l⟩
  · subst ey
    obtain ⟨z, hd, vs, rel, dd⟩ := dk_rd I.hok e
    refine call_meetsIn PySem.F.slot_dict_get dd.typeIs PySem.F.entry_dict_get (PySem.F.args_dict_get_3 _ _ _) (meets_dict_get_default (mixKind X.prog X.w) a (kV_is ry) hd r) ⟨_, dd.mapOf, h _ _ (I.tok _) ?_⟩
    rw [l]
    exact (rel.val k).getD rd
  · subst ey
    cases (show u = Value.ref b from ry)
    obtain ⟨z, hd, xs, rel, dd⟩ := dt_rd I.hok e
    refine call_meetsIn PySem.F.slot_dict_get dd.typeIs PySem.F.entry_dict_get (PySem.F.args_dict_get_3 _ _ _) (meetsH_dict_get_default (tupleKind (mixKind X.prog X.w)) a b hd r) ⟨tupleKind_room_in1 hu, k, xs, key_of I.hok eb, dd, h _ _ (I.tok _) ?_⟩
    rw [l]
    exact (rel.val k).getD rd
end

def tDGet2 (td ty tx : TE) : TE := fun σ H Q => td σ H fun x H1 => ∃ a, x = .ref a ∧ IsD H1 a ∧ ty σ H1 fun y H2 => tx σ H2 fun z H3 => ∃ o, DGet H3 a y o ∧ Q (o.getD z) H3
section
variable {X : Cx} {o e f : Expr} {apos cpos : Pos} {td ty tx : TE}
theorem pe_dget2 (hu : X.A.units + 1 < cLine) (ho : PE X o td) (he : PE X e ty) (hf : PE X f tx) (m : M2 X o "get" apos e f cpos) : PE X (.Call (.Attribute o "get" apos) [e, f] [] cpos) (tDGet2 td ty tx) := by
  intro pins s σ H Q I h
  refine wpAny_Call_method m.base m.few m.line PySem.F.plainAttrs_dict PySem.F.slot_dict_get PySem.F.type_dict_get (thn (ho pins s σ H _ I h) fun u s1 ⟨x, H1, I1, rx, a, ex, d, q1⟩ => ?_)
  subst ex
  obtain rfl : u = Value.ref a := rx
  obtain ⟨t1, t2, _⟩ := isD_at I1 d
  refine ⟨t1, t2, ?_⟩
  rw [m.trees]
  refine Calls.callWith_builtin rfl (Calls.evalArgs_plain (Calls.spliced_cons (thn (he pins s1 σ H1 _ I1 q1) fun iv s2 ⟨y, H2, I2, ry, q2⟩ =>
    Calls.spliced_cons (thn (hf pins s2 σ H2 _ I2 q2) fun fv s3 ⟨z, H3, I3, rz, ov, g, q3⟩ => Calls.spliced_nil ?_))))
  exact d_get2 hu I3 g ry rz fun w' s4 I4 rw' => ⟨_, H3, I4, rw', q3⟩
end

/-! ### dict(d): a copy -/
section
variable {X : Cx} {pins : List (Addr × Obj)} {σ : St} {H : Hp} {s : Shared} {a : Addr} {kvs : List (Key × V)} {A : Around} {E : Value → Shared → Prop}
theorem d_copyOf {Q : Value → Shared → Prop} (I : Inv X pins σ H s) (e : Rd H a (.dK kvs)) (h : ∀ p s', H p = none → Inv X pins σ (upd H p (.dK kvs)) s' → Q (.ref p) s') : wpAny (model X.prog X.w) A (call (.type "dict") [.ref a]) Q E s := by
  obtain ⟨z, hd, vs, rel, dd⟩ := dk_rd I.hok e
  refine kt_call_dict hd dd (by rw [← rel.length]; exact z) fun h' dd' hs => ?_
  refine h _ _ (I.hok.fresh (Nat.le_refl _)) (I.laid (a := s.heap.objs.size) (o := .dK kvs) (t' := s.toks) (fun b q hq => ?_) (Nat.le_refl _) (dk_new z (beq_eq_false_iff_ne.mpr (Ne.symm (Nat.ne_of_lt I.big))) rel dd'))
  exact (hs.2 b (Nat.ne_of_lt (Heap.lt_size hq))).trans (Heap.get?_push_of_some _ hq)
end


section
variable {X : Cx} {pins : List (Addr × Obj)} {σ : St} {H : Hp} {s : Shared} {a : Addr} {y : V} {u : Value} {A : Around} {E : Value → Shared → Prop}
end
end L2

namespace L2
open PySem PySem.Spec PyProof.Rows
section
variable {X : Cx}
end
/-! ### a dict's pairs: keys that differ -/
section
variable {κ : Type} [DecidableEq κ]
theorem valV_in {kvs : List (κ × V)} {k : κ} {v : V} (h : valV kvs k = some v) : k ∈ kvs.map (·.1) := by
  have q : (kvs.any fun kv => decide (kv.1 = k)) = true := by
    rw [valV_any, h]
    all_goals rfl
  obtain ⟨p, hp, e⟩ := List.any_eq_true.mp q
  exact List.mem_map.mpr ⟨p, hp, of_decide_eq_true e⟩
end
end L2

set_option Elab.async false
set_option linter.all false
set_option maxRecDepth 100000
set_option maxHeartbeats 4000000
/-! A list comprehension of one clause over the hand layer: own work. -/
namespace L2
open PySem PySem.Spec PyProof.Rows

section
variable {prog : Program} {w : World} {A : Around} {R : Result → Shared → Prop} {s : Shared}
/-- the loop of a comprehension, its owned tuple let go, no exception within -/
theorem compLoop_own {elt target iter : Expr} {ifs : List Expr} {scope : Scope} {pos : Pos} {it acc : Value} {env : Env} (I : Nat → Shared → Prop)
    (turn : ∀ n s, I n s → wpAny (model prog w) A (pyNext it) (fun r s₁ => match r with
      | none => R (.ok .next) s₁
      | some v => wpAny (model prog w) A (letOwnedTupleGo target it v) (fun _ s₁' => wpAny (model prog w) A (assign target env v) (fun _ s₂ =>
          wpAny (model prog w) A (forIn ifs true fun c r => if r = true then do let ok ← isTrue c env (eval c env); pure (ForInStep.yield ok) else pure (ForInStep.yield r)) (fun ok s₃ =>
            if ok = true then wpAny (model prog w) A (eval elt env) (fun x s₄ =>
              wpAny (model prog w) A (call (.builtin "list.append") [acc, x]) (fun _ s₅ => ∃ m, m < n ∧ I m s₅) (fun _ _ => False) s₄) (fun _ _ => False) s₃
            else ∃ m, m < n ∧ I m s₃) (fun _ _ => False) s₂) (fun _ _ => False) s₁') (fun _ _ => False) s₁) (fun _ _ => False) s)
    (n : Nat) (h : I n s) : codeAny (model prog w) A (.compLoop (.ListComp elt [⟨target, iter, ifs, 0⟩] scope pos) 0 it acc env) R s := by
  refine codeAny_loop rfl I (fun n s hI => ?_) n h
  show wpAny _ A ((compTurn (.ListComp elt [⟨target, iter, ifs, 0⟩] scope pos) 0 it acc env).onRaise (fun x => do noteFrame x env; theTreesLotGoes x)) _ _ s
  refine wpAny_noted ?_
  rw [compTurn_list]
  refine wpAny_bind (wpAny_standAt (wpAny_bind (wpAny_mono (turn n s hI) (fun r s₁ h₁ => ?_) fun _ _ h' => h'.elim)))
  cases r with
  | none => exact wpAny_pure h₁
  | some v =>
    refine wpAny_bind (wpAny_mono h₁ (fun _ s₁' h₁' => wpAny_bind (wpAny_mono h₁' (fun _ s₂ h₂ => wpAny_bind (wpAny_mono h₂ (fun ok s₃ h₃ => ?_) fun _ _ h' => h'.elim)) fun _ _ h' => h'.elim)) fun _ _ h' => h'.elim)
    cases ok with
    | false => exact wpAny_pure ⟨rfl, h₃⟩
    | true =>
      exact wpAny_bind (wpAny_bind (wpAny_mono h₃ (fun x s₄ h₄ => wpAny_bind (wpAny_mono h₄ (fun _ s₅ h₅ => wpAny_pure (wpAny_pure ⟨rfl, h₅⟩)) fun _ _ h' => h'.elim)) fun _ _ h' => h'.elim))
end

/-- the cells that a comprehension's block takes from around it -/
theorem closure_of {scope : Scope} {env : Env} (h : ∀ y ∈ scope.names, y.2 = .free → ∃ c, env.cells.lookup y.1 = some c) :
    ∃ cl, closureFor scope env = pure cl ∧ (∀ x c, cl.lookup x = some c → env.cells.lookup x = some c) ∧ (∀ x, (x, NameKind.free) ∈ scope.names → ∃ c, cl.lookup x = some c) := by
  have key : ∀ (l : List (Str × NameKind)) (cs : List (Str × Addr)), (∀ y ∈ l, y.2 = .free → ∃ c, env.cells.lookup y.1 = some c) → (∀ x c, cs.lookup x = some c → env.cells.lookup x = some c) →
      ∃ cl, (forIn l cs (fun (p : Str × NameKind) (r : List (Str × Addr)) => (do
          if p.2 == NameKind.free then do
            let a ← cellOf env p.1
            pure (ForInStep.yield ((p.1, a) :: r))
          else pure (ForInStep.yield r) : Sem (ForInStep (List (Str × Addr)))))) = pure cl ∧ (∀ x c, cl.lookup x = some c → env.cells.lookup x = some c) ∧ (∀ x, ((x, NameKind.free) ∈ l ∨ ∃ c, cs.lookup x = some c) → ∃ c, cl.lookup x = some c) := by
    intro l
    induction l with
    | nil => intro cs _ hc; exact ⟨cs, rfl, hc, fun x hx => hx.elim (fun z => by cases z) id⟩
    | cons p r ih =>
      intro cs hl hc
      obtain ⟨n, k⟩ := p
      by_cases hk : k = .free
      · subst hk
        obtain ⟨c, e⟩ := hl (n, .free) List.mem_cons_self rfl
        obtain ⟨cl, e1, e2, e3⟩ := ih ((n, c) :: cs) (fun y hy => hl y (List.mem_cons_of_mem _ hy)) (fun x c' q => by
          rw [List.lookup_cons] at q
          by_cases hx : x == n
          · rw [hx] at q; cases q; rw [eq_of_beq hx]; exact e
          · have hx' : (x == n) = false := by simpa using hx
            rw [hx'] at q; exact hc x c' q)
        refine ⟨cl, ?_, e2, fun x hx => e3 x ?_⟩
        · rw [List.forIn_cons]
          have : (cellOf env n) = pure c := by unfold cellOf; rw [e]
          simp only [beq_self_eq_true, if_true, this, pure_bind]
          exact e1
        · rcases hx with hx | ⟨c', hx⟩
          · rcases List.mem_cons.mp hx with z | z
            · cases z; exact .inr ⟨c, by simp⟩
            · exact .inl z
          · by_cases q : x == n
            · exact .inr ⟨c, by rw [List.lookup_cons, q]⟩
            · have q' : (x == n) = false := by simpa using q
              exact .inr ⟨c', by rw [List.lookup_cons, q']; exact hx⟩
      · obtain ⟨cl, e1, e2, e3⟩ := ih cs (fun y hy => hl y (List.mem_cons_of_mem _ hy)) hc
        refine ⟨cl, ?_, e2, fun x hx => e3 x ?_⟩
        · rw [List.forIn_cons]
          have hb : (k == NameKind.free) = false := by simpa using hk
          simp only [hb, Bool.false_eq_true, if_false, pure_bind]
          exact e1
        · rcases hx with hx | hx
          · rcases List.mem_cons.mp hx with z | z
            · cases z; exact absurd rfl hk
            · exact .inl z
          · exact .inr hx
  obtain ⟨cl, e1, e2, e3⟩ := key scope.names [] h (fun x c q => by cases q)
  refine ⟨cl, ?_, e2, fun x hx => e3 x (.inl hx)⟩
  unfold closureFor
  have e1' := e1
  simp only [bind_pure] at e1' ⊢
  first
    | exact e1'
    | (rw [← e1']; rfl)
    | (show (forIn scope.names [] _ >>= fun r => pure r) = _; rw [bind_pure]; exact e1')
end L2

namespace L2
open PySem PySem.Spec PyProof.Rows

/-- what a comprehension's scope must be, over the def's own scope (outer), the def's names N; ks: which of N the block sees -/
structure LcS (outer names : List (Str × NameKind)) (N : List Str) (ks : List Bool) : Prop where
  fv : ∀ y ∈ names, y.2 = .free → outer.lookup y.1 = some .cell ∨ outer.lookup y.1 = some .free
  nocell : ∀ y ∈ names, y.2 ≠ .cell
  loc : ∀ y ∈ names, y.2 = .local → names.lookup y.1 = some .local
  free : ∀ y ∈ names, y.2 = .free → names.lookup y.1 = some .free
  vis : ∀ p ∈ N.zip ks, p.2 = true → names.lookup p.1 = some .free
  len : ks.length = N.length

/-- the values that the block sees -/
def mask (ks : List Bool) (σ : St) : St := List.zipWith (fun k v => if k then v else none) ks σ
theorem mask_get {ks : List Bool} {σ : St} {i : Nat} {v : V} (h : (mask ks σ)[i]? = some (some v)) : ks[i]? = some true ∧ σ[i]? = some (some v) := by
  unfold mask at h
  rw [List.getElem?_zipWith] at h
  cases e1 : ks[i]? with
  | none => rw [e1] at h; cases h
  | some k =>
    cases e2 : σ[i]? with
    | none => rw [e1, e2] at h; cases h
    | some u =>
      rw [e1, e2] at h
      cases k with
      | true => simp at h; subst h; exact ⟨rfl, rfl⟩
      | false => simp at h
theorem mask_len {ks : List Bool} {σ : St} (h : ks.length = σ.length) : (mask ks σ).length = σ.length := by
  unfold mask; rw [List.length_zipWith, h, Nat.min_self]

/-- the block's context -/
def cxLC (X : Cx) (scope : Scope) (cl : List (Str × Addr)) (ext : List Str) (C : Addr) (fp : List Addr) (s₀ : Shared) (H₀ : Hp) : Cx :=
  { X with N := X.N ++ ext, env := compEnvC scope cl C X.env, s₀ := s₀, H₀ := H₀, outer := X.stack, ex := fp, fn := fun _ => false, pn := [], xe := fun _ _ => False }

theorem relabel_kind {env : Env} : ∀ {names : List (Str × NameKind)} {x : Str} {k' : NameKind},
    (names.map fun (n, k) => if (k == NameKind.free && env.scope.kind == .function && env.kindOf n == some .cell) then (n, NameKind.cell) else (n, k)).lookup x = some k' →
    names.lookup x = some k' ∨ (k' = .cell ∧ names.lookup x = some .free)
  | [], _, _, h => by simp at h
  | (n, k) :: r, x, k', h => by
    have h : List.lookup x ((if (k == NameKind.free && env.scope.kind == .function && env.kindOf n == some .cell) = true then (n, NameKind.cell) else (n, k)) :: (r.map fun (n, k) => if (k == NameKind.free && env.scope.kind == .function && env.kindOf n == some .cell) then (n, NameKind.cell) else (n, k))) = some k' := h
    cases hx : x == n with
    | true =>
      by_cases hc : (k == NameKind.free && env.scope.kind == .function && env.kindOf n == some .cell) = true
      · rw [if_pos hc] at h
        simp only [List.lookup_cons, hx] at h
        cases h
        simp only [Bool.and_eq_true, beq_iff_eq] at hc
        exact .inr ⟨rfl, by simp only [List.lookup_cons, hx]; rw [hc.1.1]⟩
      · rw [if_neg hc] at h
        simp only [List.lookup_cons, hx] at h
        cases h
        exact .inl (by simp only [List.lookup_cons, hx])
    | false =>
      have h' : (r.map fun (n, k) => if (k == NameKind.free && env.scope.kind == .function && env.kindOf n == some .cell) then (n, NameKind.cell) else (n, k)).lookup x = some k' := by
        split at h <;> simpa only [List.lookup_cons, hx] using h
      simp only [List.lookup_cons, hx]
      exact relabel_kind h'
theorem relabel_free {env : Env} : ∀ {names : List (Str × NameKind)} {x : Str}, names.lookup x = some .free →
    (names.map fun (n, k) => if (k == NameKind.free && env.scope.kind == .function && env.kindOf n == some .cell) then (n, NameKind.cell) else (n, k)).lookup x = some .cell ∨
    (names.map fun (n, k) => if (k == NameKind.free && env.scope.kind == .function && env.kindOf n == some .cell) then (n, NameKind.cell) else (n, k)).lookup x = some .free
  | [], _, h => by simp at h
  | (n, k) :: r, x, h => by
    show List.lookup x ((if (k == NameKind.free && env.scope.kind == .function && env.kindOf n == some .cell) = true then (n, NameKind.cell) else (n, k)) :: _) = _ ∨ List.lookup x ((if (k == NameKind.free && env.scope.kind == .function && env.kindOf n == some .cell) = true then (n, NameKind.cell) else (n, k)) :: _) = _
    cases hx : x == n with
    | true =>
      simp only [List.lookup_cons, hx] at h
      cases h
      split
      · exact .inl (by simp only [List.lookup_cons, hx])
      · exact .inr (by simp only [List.lookup_cons, hx])
    | false =>
      simp only [List.lookup_cons, hx] at h
      have ih := @relabel_free env r x h
      split <;> simp only [List.lookup_cons, hx] <;> exact ih

/-- the block's entry -/
theorem inv_lc {X : Cx} {pins : List (Addr × Obj)} {σ : St} {H : Hp} {s : Shared} {scope : Scope} {cl : List (Str × Addr)} {ks : List Bool} {ext : List Str} {fp : List Addr} {C : Addr} {h1 : Heap} {tk : Nat}
    (I : Inv X pins σ H s) (S : LcS X.env.scope.names scope.names X.N ks) (hkind : scope.kind = .function) (c1 : ∀ x c, cl.lookup x = some c → X.env.cells.lookup x = some c) (c2 : ∀ x, (x, NameKind.free) ∈ scope.names → ∃ c, cl.lookup x = some c)
    (hfp : ∀ b ∈ fp, FpOk X pins H b) (hlt : ∀ b ∈ fp, b < s.heap.objs.size) (hC : C = s.heap.objs.size) (hn : h1.Ns C (fun _ => none)) (hk : ∀ b o, s.heap.get? b = some o → h1.get? b = some o) :
    Inv (cxLC X scope cl ext C fp s H) [] (mask ks σ ++ List.replicate ext.length none) H { s with heap := h1, toks := tk } := by
  have hlen : ks.length = σ.length := by rw [S.len, I.len]
  refine ⟨⟨I.ok.mod, hkind, I.ok.glob, I.ok.blt, Nat.le_of_eq hC.symm, fun x y c e1 e2 => I.ok.inj x y c (c1 x c e1) (c1 y c e2), fun x hx => ?_, (fun x c hf => by cases hf), I.ok.hd, I.ok.frames, .inl rfl, fun b hb => ⟨?_, fun x c e => (hfp b hb).2.2.2.2.1 x c (c1 x c e)⟩, I.bs, Nat.le_trans I.ok.bsz I.sz, fun b o e hb => ?_, fun b hb hz => ?_, I.stack, I.stkFree⟩,
    rfl, I.bare, Un.kept hk, ⟨_, hn, fun i x v e1 e2 e3 => ?_⟩, fun x c e => ?_, ?_, fun x c e => I.freeC x c (c1 x c e), fun p hp => absurd (show p ∈ ([] : List (Addr × Obj)) from hp) (by simp), I.hok.kept hk, ?_⟩
  · -- a cell for each cell or free name
    have hx' : (relabel scope X.env).names.lookup x = some .cell ∨ (relabel scope X.env).names.lookup x = some .free := hx
    have hfree : scope.names.lookup x = some .free := by
      rcases hx' with q | q
      · rcases relabel_kind q with z | ⟨_, z⟩
        · exact absurd rfl (S.nocell _ (PySem.mem_of_lookup z))
        · exact z
      · rcases relabel_kind q with z | ⟨z, _⟩
        · exact z
        · cases z
    exact c2 x (PySem.mem_of_lookup hfree)
  · intro z
    have h0 := hlt b hb
    have z' : b = C := z
    rw [z', hC] at h0
    exact Nat.lt_irrefl _ h0
  · obtain ⟨_, _, _, h4, _, _⟩ := hfp b hb
    rcases h4 with z | z
    · exact I.ok.noex b o e z
    · exact absurd (Heap.lt_size (I.ok.bs b o e).1) (Nat.not_lt.mpr z)
  · have hz' : b ∈ frs X.stack := hz
    rcases List.mem_cons.mp (I.stkSub b hz') with q | q
    · exact (hfp b hb).2.1 q
    · exact (hfp b hb).2.2.1 q
  · have hi : i < (mask ks σ).length := by
      by_cases hi : i < (mask ks σ).length
      · exact hi
      · rw [List.getElem?_append_right (by omega), List.getElem?_replicate] at e2
        split at e2 <;> cases e2
    rw [List.getElem?_append_left hi] at e2
    obtain ⟨k1, k2⟩ := mask_get e2
    have hiN : i < X.N.length := by rw [← I.len]; rw [mask_len hlen] at hi; exact hi
    have e1' : X.N[i]? = some x := by
      have : (X.N ++ ext)[i]? = some x := e1
      rwa [List.getElem?_append_left hiN] at this
    have hz : (x, true) ∈ X.N.zip ks := by
      rw [List.mem_iff_getElem?]
      exact ⟨i, by rw [List.getElem?_zip_eq_some]; exact ⟨e1', k1⟩⟩
    have hfree := S.vis (x, true) hz rfl
    have hvis : X.env.kindOf x = some .cell ∨ X.env.kindOf x = some .free := S.fv (x, .free) (PySem.mem_of_lookup hfree) rfl
    obtain ⟨m, hm, hl⟩ := I.loc
    obtain ⟨u, r, l⟩ := hl i x v e1' k2 (hvis.elim (fun z => .inr (.inl z)) fun z => .inr (.inr z))
    refine ⟨u, r, .inr ⟨relabel_free hfree, ?_⟩⟩
    rcases l with ⟨z, _⟩ | ⟨_, c, ec, hc⟩
    · rcases hvis with q | q <;> · rw [q] at z; cases z
    · obtain ⟨c', ec'⟩ := c2 x (PySem.mem_of_lookup hfree)
      have := c1 x c' ec'
      rw [ec] at this; cases this
      obtain ⟨o, ho, hd⟩ := hc
      exact ⟨c, ec', o, hk c o ho, hd⟩
  · obtain ⟨v, o, ho, hd⟩ := I.cell x c (c1 x c e)
    exact ⟨v, o, hk c o ho, hd⟩
  · show H C = none
    rw [hC]; exact I.hok.fresh (Nat.le_refl _)
  · rw [List.length_append, List.length_replicate, mask_len hlen, I.len]
    show _ = (X.N ++ ext).length
    rw [List.length_append]
end L2

namespace L2
open PySem PySem.Spec PyProof.Rows

/-- the tests of a clause -/
def PTs (X : Cx) (ifs : List Expr) (t : TT) : Prop :=
  ∀ (pins : List (Addr × Obj)) (s : Shared) (σ : St) (H : Hp) (Q : Bool → Hp → Prop), Inv X pins σ H s → t σ H Q →
    wpAny (model X.prog X.w) X.A (forIn ifs true fun c r => if r = true then do let ok ← isTrue c X.env (eval c X.env); pure (ForInStep.yield ok) else pure (ForInStep.yield r)) (TP X pins σ Q) X.xe s
def tYes : TT := fun _ H Q => Q true H
theorem pts_nil {X : Cx} : PTs X [] tYes := fun _ _ σ H Q I h => wpAny_tests_nil ⟨H, I, h⟩
theorem pts_one {X : Cx} {c : Expr} {t : TT} (h : PT X c t) : PTs X [c] t := fun pins s σ H Q I q => wpAny_tests_one (h pins s σ H Q I q)

/-- the turns, by a word W of turn, measure, what was gathered, values, heap -/
def lcTurn (J : It) (D : Addr) (g : TG) (tt : TT) (te : TE) (Q : Hp → Prop) (W : Nat → Nat → List V → St → Hp → Prop) : Prop :=
  ∀ i m ys σ H, W i m ys σ H → (J.stop i H ∧ Q H) ∨ (J.go i H ∧ ∀ x H', J.yld i H x H' → g x σ H' fun σ2 H2 => tt σ2 H2 fun b H3 =>
    if b = true then te σ2 H3 fun y H4 => H4 D = some (.lst ys) ∧ ys.length < sizeLine ∧ ∃ m', m' < m ∧ W (i + 1) m' (ys ++ [y]) σ2 (upd H4 D (.lst (ys ++ [y])))
    else ∃ m', m' < m ∧ W (i + 1) m' ys σ2 H3)
def tLC (ks : List Bool) (e : Nat) (wi : TI) (g : TG) (tt : TT) (te : TE) : TE := fun σ H Q => wi σ H fun J H1 => ∀ D, H1 D = none →
  ∃ W : Nat → Nat → List V → St → Hp → Prop, (∃ m, W 0 m [] (mask ks σ ++ List.replicate e none) (upd H1 D (.lst []))) ∧ lcTurn J D g tt te (fun H2 => Q (.ref D) H2) W

structure Blk (X : Cx) (scope : Scope) (ext : List Str) (tg : Expr) (ifs : List Expr) (elt : Expr) (g : TG) (tt : TT) (te : TE) : Prop where
  pg : ∀ cl C fp s₀ H₀, PG (cxLC X scope cl ext C fp s₀ H₀) tg g
  pt : ∀ cl C fp s₀ H₀, PTs (cxLC X scope cl ext C fp s₀ H₀) ifs tt
  pe : ∀ cl C fp s₀ H₀, PE (cxLC X scope cl ext C fp s₀ H₀) elt te

theorem lc_core {X : Cx} {elt tg iter : Expr} {ifs : List Expr} {scope : Scope} {pos : Pos} {ks : List Bool} {ext : List Str} {g : TG} {tt : TT} {te : TE} {pins : List (Addr × Obj)} {σ : St} {H2 : Hp} {s2 : Shared} {cl : List (Str × Addr)}
    {it : Addr} {fp : List Addr} {tn : Nat → Heap → Prop} {J : It} {RR : Value → Addr → Result → Shared → Prop} {QD : Addr → Hp → Prop} {E : Value → Shared → Prop}
    (S : LcS X.env.scope.names scope.names X.N ks) (hkind : scope.kind = .function) (hc : X.calm = true) (B : Blk X scope ext tg ifs elt g tt te)
    (c1 : ∀ x c, cl.lookup x = some c → X.env.cells.lookup x = some c) (c2 : ∀ x, (x, NameKind.free) ∈ scope.names → ∃ c, cl.lookup x = some c)
    (I2 : Inv X pins σ H2 s2) (T : Turn X.prog X.w X.K tg J fp it tn) (st2 : tn 0 s2.heap) (f2 : ∀ b ∈ fp, FpOk X pins H2 b)
    (hW : ∀ D, H2 D = none → ∃ W : Nat → Nat → List V → St → Hp → Prop, (∃ m, W 0 m [] (mask ks σ ++ List.replicate ext.length none) (upd H2 D (.lst []))) ∧ lcTurn J D g tt te (QD D) W)
    (hRR : ∀ D C s4 H' m, Inv X pins σ H' s4 → FpOk X pins H' C → s4.heap.Ns C m → QD D H' → RR (.ref D) C (.ok .next) s4) :
    wpAny (model X.prog X.w) X.A (newList []) (fun acc s₃ => wpAny (model X.prog X.w) X.A (newFunctionEnv scope X.env.globals cl [] X.env.qual none .none (some X.env)) (fun cenv s₄ =>
      codeAny (model X.prog X.w) X.A (.compStart (.ListComp elt [⟨tg, iter, ifs, 0⟩] scope pos) 0 (.ref it) acc { cenv with scope := relabel scope X.env }) (RR acc cenv.locals) s₄) E s₃) E s2 := by
  have hcell : ∀ y ∈ scope.names, y.2 ≠ .cell := S.nocell
  refine wpAny_newObj_type (wpAny_newFunctionEnv hcell (by intro y hy; simp at hy) (fun h₁ hns₁ hsb₁ => ?_) hkind)
  dsimp only at hns₁ hsb₁ ⊢
  have fD : H2 s2.heap.objs.size = none := I2.hok.fresh (Nat.le_refl _)
  have I3 : Inv X pins σ (upd H2 s2.heap.objs.size (.lst [])) { s2 with heap := s2.heap.push { cls := .type "list", dict := none, data := .seq ([] : List Value).toArray } } :=
    I2.laid (t' := s2.toks) (fun b u e => Heap.get?_push_of_some _ e) (Nat.le_refl _) ⟨Nat.zero_le _, [], 0, .nil, Heap.get?_push_size _ rfl⟩
  obtain ⟨W, ⟨m0, w0⟩, turn⟩ := hW s2.heap.objs.size fD
  generalize hH3 : s2.heap.push { cls := .type "list", dict := none, data := .seq ([] : List Value).toArray } = h3 at hns₁ hsb₁ I3 ⊢
  have hsz : h3.objs.size = s2.heap.objs.size + 1 := by rw [← hH3, Heap.size_push]
  have hlt2 : ∀ b ∈ fp, b < s2.heap.objs.size := fun b hb => let ⟨o, e, _⟩ := T.obj 0 _ st2 b hb; Heap.lt_size e
  have hlt : ∀ b ∈ fp, b < h3.objs.size := fun b hb => Nat.lt_of_lt_of_eq (Nat.lt_succ_of_lt (hlt2 b hb)) hsz.symm
  have f3 : ∀ b ∈ fp, FpOk X pins (upd H2 s2.heap.objs.size (.lst [])) b := fun b hb => ⟨by rw [upd_ne (Nat.ne_of_lt (hlt2 b hb))]; exact (f2 b hb).1, (f2 b hb).2⟩
  have hk : ∀ b o, h3.get? b = some o → h₁.get? b = some o := fun b o e => hsb₁.extBut b o (Nat.ne_of_lt (Heap.lt_size e)) (Heap.get?_push_of_some _ e)
  have I4 : Inv (cxLC X scope cl ext h3.objs.size fp { s2 with heap := h3 } (upd H2 s2.heap.objs.size (.lst []))) [] (mask ks σ ++ List.replicate ext.length none) (upd H2 s2.heap.objs.size (.lst [])) { s2 with heap := h₁, toks := s2.toks + ([] : List (Str × Value)).length } :=
    inv_lc (C := h3.objs.size) I3 S hkind c1 c2 f3 hlt rfl (by simpa using hns₁) hk
  have st4 : tn 0 h₁ := T.keep _ _ _ st2 fun b hb o e => hk b o (by rw [← hH3]; exact Heap.get?_push_of_some _ e)
  have stat : ∀ {H' : Hp} {p' : List (Addr × Obj)}, p' = [] → (∀ b ∈ fp, H' b = none) → ∀ b ∈ fp, FpOk (cxLC X scope cl ext h3.objs.size fp { s2 with heap := h3 } (upd H2 s2.heap.objs.size (.lst []))) p' H' b := fun {H' p'} hp hn b hb => by
    subst hp
    exact ⟨hn b hb, (I4.ok.exf b hb).1, I4.ok.exfs b hb, .inl hb, fun x c e => (I4.ok.exf b hb).2 x c e, fun p hp => absurd (show p ∈ ([] : List (Addr × Obj)) from hp) (by simp)⟩
  have loop : ∀ s₃ : Shared, s₃ = { s2 with heap := h₁, toks := s2.toks + ([] : List (Str × Value)).length } →
      codeAny (model X.prog X.w) X.A (.compLoop (.ListComp elt [⟨tg, iter, ifs, 0⟩] scope pos) 0 (.ref it) (.ref s2.heap.objs.size) (compEnvC scope cl h3.objs.size X.env)) (RR (.ref s2.heap.objs.size) h3.objs.size) s₃ := by
    rintro s₃ rfl
    refine compLoop_own (fun n s' => ∃ i ys σ' H', Inv (cxLC X scope cl ext h3.objs.size fp { s2 with heap := h3 } (upd H2 s2.heap.objs.size (.lst []))) [] σ' H' s' ∧ tn i s'.heap ∧ (∀ b ∈ fp, H' b = none) ∧ W i n ys σ' H') ?_ m0
      ⟨0, [], _, _, I4, st4, fun b hb => (f3 b hb).1, w0⟩
    rintro n s' ⟨i, ys, σ', H', I', st', fr', w'⟩
    rcases turn i n ys σ' H' w' with ⟨stop, q⟩ | ⟨go, step⟩
    · refine thn (T.done (cxLC X scope cl ext h3.objs.size fp { s2 with heap := h3 } (upd H2 s2.heap.objs.size (.lst []))) rfl rfl rfl hc i [] s' σ' H' _ I' (stat rfl fr') st' stop) fun r s4 ⟨hr, J4⟩ => ?_
      subst hr
      show RR (.ref s2.heap.objs.size) h3.objs.size (.ok .next) s4
      obtain ⟨m, hn, _⟩ := J4.loc
      have fC : H' h3.objs.size = none := J4.free
      have IX : Inv X pins σ H' s4 := I3.call' (ch := fp) J4.os J4.base J4.hok J4.bare fun b hb => ⟨(f3 b hb).2.2.2.1, (f3 b hb).2.1, (f3 b hb).2.2.2.2.1, (f3 b hb).2.2.2.2.2⟩
      exact hRR _ _ s4 H' m IX (I3.fpOk (Nat.le_refl _) fC) hn q
    · refine thn (T.item (cxLC X scope cl ext h3.objs.size fp { s2 with heap := h3 } (upd H2 s2.heap.objs.size (.lst []))) rfl rfl rfl hc i [] s' σ' H' _ I' (stat rfl fr') st' go) fun r s4 ⟨u, hr, h4⟩ => ?_
      subst hr
      refine thn h4 fun _ s5 ⟨x, H5, I5, r5, y5, st5, fr5⟩ => ?_
      have I5' := I5.pinned (stat rfl fr5) (T.obj _ _ st5)
      refine thn (B.pg _ _ _ _ _ _ s5 σ' H5 x u _ I5' r5 (step x H5 y5)) fun _ s6 ⟨σ6, H6, I6, q6⟩ => ?_
      refine thn (B.pt _ _ _ _ _ _ s6 σ6 H6 _ I6 q6) fun ok s7 ⟨H7, I7, q7⟩ => ?_
      have again : ∀ {σ7 : St} {H8 : Hp} {s8 : Shared} {ys' : List V} {m' : Nat}, Inv (cxLC X scope cl ext h3.objs.size fp { s2 with heap := h3 } (upd H2 s2.heap.objs.size (.lst []))) ([] ++ pinsAt fp s5.heap) σ7 H8 s8 → m' < n → W (i + 1) m' ys' σ7 H8 →
          ∃ m, m < n ∧ ∃ i ys σ' H', Inv (cxLC X scope cl ext h3.objs.size fp { s2 with heap := h3 } (upd H2 s2.heap.objs.size (.lst []))) [] σ' H' s8 ∧ tn i s8.heap ∧ (∀ b ∈ fp, H' b = none) ∧ W i m ys σ' H' := fun {σ7 H8 s8 ys' m'} I8 hm w8 => by
        refine ⟨m', hm, i + 1, ys', σ7, H8, I8.unpinned, T.keep _ _ _ st5 fun b hb o e => (I8.pin (b, o) (List.mem_append_right _ (List.mem_append_right _ (mem_pinsAt hb e)))).1, fun b hb => ?_, w8⟩
        obtain ⟨o, e, d⟩ := T.obj _ _ st5 b hb
        exact (I8.pin (b, o) (List.mem_append_right _ (List.mem_append_right _ (mem_pinsAt hb e)))).2.1
      cases ok with
      | false =>
        obtain ⟨m', hm, w7⟩ := (show ∃ m', m' < n ∧ W (i + 1) m' ys σ6 H7 from q7)
        exact again I7 hm w7
      | true =>
        rw [if_pos rfl] at q7 ⊢
        refine thn (B.pe _ _ _ _ _ _ s7 σ6 H7 _ I7 q7) fun yv s8 ⟨y, H8, I8, r8, e8, z8, m', hm, w8⟩ => ?_
        refine thn (mt_append _ s8 σ6 H8 (.ref s2.heap.objs.size) [y] (.ref s2.heap.objs.size) [yv] (fun _ H9 => H9 = upd H8 s2.heap.objs.size (.lst (ys ++ [y]))) I8 rfl (.cons r8 .nil) ⟨_, ys, y, rfl, rfl, e8, z8, rfl⟩) fun _ s9 ⟨_, H9, I9, _, e9⟩ => ?_
        subst e9
        exact again I9 hm w8
  exact codeAny_compStart_list (loop _ rfl) (T.self _ 0 _ _ _ st4 (loop _ rfl))

section
variable {X : Cx} {elt tg iter : Expr} {ifs : List Expr} {scope : Scope} {pos : Pos} {ks : List Bool} {ext : List Str} {wi : TI} {g : TG} {tt : TT} {te : TE}

theorem lc_clos {pins : List (Addr × Obj)} {σ : St} {H : Hp} {s : Shared} (I : Inv X pins σ H s) (S : LcS X.env.scope.names scope.names X.N ks) :
    ∃ cl, closureFor scope X.env = pure cl ∧ (∀ x c, cl.lookup x = some c → X.env.cells.lookup x = some c) ∧ (∀ x, (x, NameKind.free) ∈ scope.names → ∃ c, cl.lookup x = some c) :=
  closure_of fun y hy hf => I.ok.has y.1 (S.fv y hy hf)

/-- [e for x in iter if ..] -/
theorem pe_lc (S : LcS X.env.scope.names scope.names X.N ks) (hc : X.calm = true) (hi : PI X tg iter wi) (B : Blk X scope ext tg ifs elt g tt te) (hkind : scope.kind = .function := by rfl)
    (hs : ∀ x, foldedSetIterable iter X.env x = pure x := by intro _; rfl) : PE X (.ListComp elt [⟨tg, iter, ifs, 0⟩] scope pos) (tLC ks ext.length wi g tt te) := by
  intro pins s σ H Q I h
  obtain ⟨cl, hcl, c1, c2⟩ := lc_clos I S
  rw [eval_ListComp]
  refine wpAny_comprehension_free (use := none) rfl hs hcl hkind S.loc (thn (hi pins s σ H _ I h) fun v s1 h1 => thn h1 fun itv s2 h2 => ?_)
  obtain ⟨it, fp, tn, J, H2, e, I2, T, st2, f2, hW⟩ := h2
  subst e
  refine lc_core (RR := fun acc C => compPost (model X.prog X.w) X.A X.xe none (EP X pins σ Q) acc C) (QD := fun D H' => Q (.ref D) H') S hkind hc B c1 c2 I2 T st2 f2 hW fun D C s4 H' m I4 fC hn q => ?_
  refine ⟨m, hn, fun h' sb => ⟨.ref D, H', ?_, rfl, q⟩⟩
  exact I4.turned (t' := s4.toks) (fun b o hb e => (sb.2 b hb).trans e) fC.1 fC.2.1 fC.2.2.2.1 fC.2.2.2.2.1 fC.2.2.2.2.2

/-- y = [e for x in iter if ..], y a plain local -/
theorem ps_lc {i : Nat} {y : Str} {py spos : Pos} (hN : X.N.Nodup) (hiN : X.N[i]? = some y) (hy : X.env.scope.names.lookup y = some .local) (S : LcS X.env.scope.names scope.names X.N ks) (hc : X.calm = true) (hi : PI X tg iter wi) (B : Blk X scope ext tg ifs elt g tt te) (hkind : scope.kind = .function := by rfl)
    (hsw : swapsWith (.ListComp elt [⟨tg, iter, ifs, 0⟩] scope pos) (some (.Name y py)) spos.line X.env = pure true := by rfl)
    (hs : ∀ x, foldedSetIterable iter X.env x = pure x := by intro _; rfl) : PS X (.Assign [.Name y py] (.ListComp elt [⟨tg, iter, ifs, 0⟩] scope pos) spos) (tAsg (tLC ks ext.length wi g tt te) (gName i)) := by
  intro pins s σ H D I h
  obtain ⟨cl, hcl, c1, c2⟩ := lc_clos I S
  rw [exec_Assign_Name_used _ _ _ _ hsw]
  refine wpAny_bind (wpAny_standAt (wpAny_bind ?_))
  show wpAny _ X.A (do let _ ← comprehension (.ListComp elt [⟨tg, iter, ifs, 0⟩] scope pos) scope X.env _ (newList []) false (eval iter X.env) (some (assign (.Name y py) X.env))) _ _ s
  refine wpAny_bind (wpAny_mono (wpAny_comprehension_free (use := some (assign (.Name y py) X.env)) (Q := fun _ s' => SP X pins D .next s') rfl hs hcl hkind S.loc
    (thn (hi pins s σ H _ I h) fun v s1 h1 => thn h1 fun itv s2 h2 => ?_)) (fun _ s' hq => wpAny_pure (wpAny_pure hq)) fun _ _ e => e)
  obtain ⟨it, fp, tn, J, H2, e, I2, T, st2, f2, hW⟩ := h2
  subst e
  refine lc_core (RR := fun acc C => compPost (model X.prog X.w) X.A X.xe (some (assign (.Name y py) X.env)) (fun _ s' => SP X pins D .next s') acc C) (QD := fun Dl H' => D.nx (σ.set i (some (.ref Dl))) H') S hkind hc B c1 c2 I2 T st2 f2 hW fun Dl C s4 H' m I4 fC hn q => ?_
  show wpAny _ X.A (assign (.Name y py) X.env (.ref Dl)) _ _ _
  refine wpAny_assign_Name (store_ok2 I4 hN hiN (.inl hy) (v := .ref Dl) rfl (fun s5 I5 ⟨a, sb, ha⟩ => ?_) (.inr hy))
  have hCa : C ≠ a := by
    rcases ha with rfl | ha
    · exact fC.2.1
    · exact fun z => fC.2.2.2.2.1 y a ha z.symm
  refine ⟨m, hn.sameBut sb hCa, fun h' sb' => ⟨_, H', ?_, q⟩⟩
  exact I5.turned (t' := s5.toks) (fun b o hb e => (sb'.2 b hb).trans e) fC.1 fC.2.1 fC.2.2.2.1 fC.2.2.2.2.1 fC.2.2.2.2.2
end

/-! ### forms -/
end L2

namespace L2
open PySem PySem.Spec PyProof.Rows
end L2

set_option linter.all false
/-! The table of a set of ints: its places rise, so a walk meets each member once. Own work. -/
namespace SetPure
open PySem







/-- a table whose places rise and that has no dummies -/
def Good (t : SetTable) : Prop := t.place.toList.Pairwise (· < ·) ∧ t.dummies = #[]




end SetPure

set_option linter.all false
set_option maxRecDepth 100000
set_option maxHeartbeats 4000000
/-! A set of ints that is filled: which members, and that its table is good. Own work. -/
namespace SI
open PySem SetPure




section
variable {prog : Program} {w : World} {A : Around} {E : Value → Shared → Prop} {s : Shared}



end
end SI

set_option linter.all false
set_option maxRecDepth 100000
set_option maxHeartbeats 4000000
namespace SI
open PySem SetPure
section
variable {prog : Program} {w : World} {A : Around} {E : Value → Shared → Prop} {s : Shared}

end
end SI

set_option linter.all false
set_option maxRecDepth 100000
set_option maxHeartbeats 4000000
namespace SI
open PySem SetPure
section
variable {prog : Program} {w : World} {A : Around} {E : Value → Shared → Prop} {s : Shared}








end
end SI

set_option linter.all false
set_option maxRecDepth 100000
set_option maxHeartbeats 4000000
namespace SI
open PySem SetPure
section
variable {prog : Program} {w : World} {A : Around} {E : Value → Shared → Prop} {s : Shared}



end
end SI

set_option linter.all false
set_option maxRecDepth 100000
set_option maxHeartbeats 4000000
namespace SI
open PySem SetPure PyProof.Rows
section
variable {prog : Program} {w : World} {A : Around} {R : Result → Shared → Prop} {I : Addr} {fp wr : List Addr} {G : Array GenState → Array GenState → Prop} {n : Nat} {P : Nat → Value → Prop} {St : Nat → Shared → Prop}
end
section
variable {prog : Program} {w : World} {A : Around} {E : Value → Shared → Prop} {s : Shared}
end
end SI

set_option linter.all false
set_option maxRecDepth 100000
set_option maxHeartbeats 4000000
namespace SI
open PySem SetPure PyProof.Rows
section
variable {prog : Program} {w : World} {A : Around} {E : Value → Shared → Prop} {s : Shared}
end
end SI

set_option Elab.async false
set_option linter.all false
set_option maxRecDepth 100000
set_option maxHeartbeats 4000000
/-! Rules over the hand layer: sets of ints, all, isinstance, == of lists. Own work. -/
namespace L2
open PySem PySem.Spec PyProof.Rows SI

section
variable {X : Cx}




/-- all(a list of bools) -/
theorem call_allB (hc : X.calm = true) : CallR X (.builtin "all") (fun xs H Q => ∃ (p : Addr) (bs : List Bool), xs = [.ref p] ∧ SqL X.K H p (bs.map V.bl) ∧ Q (.bl (bs.all id)) H) := by
  intro pins s σ H xs us Q I r h
  obtain ⟨p, bs, rfl, hq, q⟩ := h
  obtain ⟨u, rfl, rx⟩ := vals1 r
  cases rx
  obtain ⟨its, rv, pl, hz⟩ := I.list hq
  have hlen : bs.length = its.length := by have := rv.length; rw [List.length_map] at this; exact this
  have hp : p < s.heap.objs.size := by obtain ⟨o, ho, _⟩ := pl.isList; exact Heap.lt_size ho
  refine call_all_walk (wpAny_pyIter_list pl.isList ?_)
  refine ⟨s.heap.objs.size, _, _, _, _, _, fun i => bs.getD i true, rfl, Walks.list (by simpa using I.ok.hd hc) s.heap.objs.size p (Nat.ne_of_lt hp) its.toArray, ⟨⟨_, Heap.get?_push_size _ rfl, rfl, rfl⟩, pl.isList.push _⟩, ?_, fun h' tk hk => ?_⟩
  · intro i v s' Q' E' hv hq'
    have hv' : its[i]? = some v := by simpa using hv
    have hb : bs[i]? = some (bs.getD i true) := by
      have hi : i < its.length := (List.getElem?_eq_some_iff.mp hv').1
      have hi' : i < bs.length := by omega
      simp [List.getD, hi']
    obtain ⟨u, hu, ru⟩ := rv.get (i := i) (x := .bl (bs.getD i true)) (by rw [List.getElem?_map, hb]; rfl)
    rw [hv'] at hu
    cases hu
    cases (show v = Value.bool (bs.getD i true) from ru)
    exact wpAny_truthy_bool hq'
  · have hf := I.fpOk (H' := H) (Nat.le_refl s.heap.objs.size) (I.hok.fresh (Nat.le_refl _))
    have I1 : Inv X pins σ H { s with heap := h', toks := tk } := I.turned (it := s.heap.objs.size) (fun b o hb e => hk b o (by simpa using hb) (Heap.get?_push_of_some _ e)) hf.1 hf.2.1 (.inr I.sz) hf.2.2.2.2.1 hf.2.2.2.2.2
    refine ⟨.bl (bs.all id), H, I1, ?_, q⟩
    show Value.bool _ = Value.bool _
    congr 1
    have e : (List.range its.toArray.size).map (fun i => bs.getD i true) = bs := by
      apply List.ext_getElem?
      intro i
      rw [List.getElem?_map, List.size_toArray]
      by_cases hi : i < bs.length
      · have hi2 : i < its.length := by omega
        simp [hi, hi2]
      · have hi2 : ¬ i < its.length := by omega
        simp [hi, hi2]
    conv => rhs; rw [← e]
    rw [List.all_map]
    rfl

/-- a class, as a value -/
def clsV : V → Option Value
  | .ty n => some (.type n)
  | .ref C => some (.ref C)
  | _ => none
theorem clsV_of {c : V} {cv u : Value} (h : clsV c = some cv) (r : RelV c u) : u = cv := by
  cases c with
  | ty n => cases h; exact r
  | ref C => cases h; exact r
  | _ => cases h
/-- isinstance(x, c) -/
theorem call_isI : CallR X (.builtin "isinstance") (fun xs H Q => ∃ (x c : V) (cv t : Value) (b : Bool), xs = [x, c] ∧ clsV c = some cv ∧ TyOf X.K H x t ∧ PySem.W.kitOne X.K t cv = some b ∧ Q (.bl b) H) := by
  intro pins s σ H xs us Q I r h
  obtain ⟨x, c, cv, t, b, rfl, hcv, ty, hk, q⟩ := h
  obtain ⟨u, w', rfl, r1, r2⟩ := vals2 r
  have e := clsV_of hcv r2
  subst e
  exact isinst_ok I r1 ty hk fun tk => ⟨.bl b, H, I.tok tk, rfl, q⟩

/-- == of two lists of flat things -/
def eqVs : List V → List V → Bool
  | [], [] => true
  | x :: xs, y :: ys => eqV x y && eqVs xs ys
  | _, _ => false
theorem eqVs_len : ∀ {xs ys : List V}, eqVs xs ys = true → xs.length = ys.length
  | [], [], _ => rfl
  | [], _ :: _, h => by cases h
  | _ :: _, [], h => by cases h
  | x :: xs, y :: ys, h => by
    unfold eqVs at h
    rw [Bool.and_eq_true] at h
    simp [eqVs_len h.2]
theorem eqVs_all : ∀ {xs ys : List V}, xs.length = ys.length → eqVs xs ys = (List.range xs.length).all fun i => eqV (xs.getD i .non) (ys.getD i .non)
  | [], [], _ => rfl
  | [], _ :: _, h => by cases h
  | _ :: _, [], h => by cases h
  | x :: xs, y :: ys, h => by
    have ih := eqVs_all (xs := xs) (ys := ys) (by simpa using h)
    unfold eqVs
    rw [ih, List.length_cons, List.range_succ_eq_map, List.all_cons, List.all_map]
    rfl
theorem eqVs_ne {xs ys : List V} (h : xs.length ≠ ys.length) : eqVs xs ys = false := by
  cases e : eqVs xs ys with
  | false => rfl
  | true => exact absurd (eqVs_len e) h
def rEqL (K : PySem.W.Frag) (neg : Bool) : R2 := fun x y H Q => ∃ a b xs ys, x = .ref a ∧ y = .ref b ∧ SqL K H a xs ∧ SqL K H b ys ∧ xs.all flatV = true ∧ ys.all flatV = true ∧ Q (.bl (if neg then !eqVs xs ys else eqVs xs ys)) H
theorem op_eqL (hu : X.A.units + 1 < cLine) : OpR X (compareOp .Eq) (rEqL X.K false) := by
  intro pins s σ H x y v u Q I rx ry h
  obtain ⟨a, b, xs, ys, rfl, rfl, ha, hb, fx, fy, q⟩ := h
  cases rx
  cases ry
  obtain ⟨i1, r1, p1, z1⟩ := I.list ha
  obtain ⟨i2, r2, p2, z2⟩ := I.list hb
  have l1 := r1.length
  have l2 := r2.length
  by_cases hl : xs.length = ys.length
  · refine SeqAt.eq_listAt (e := fun i => eqV (xs.getD i .non) (ys.getD i .non)) p1.isList p2.isList (by simp; omega) (by omega) (fun j h1 h2 => ?_) ⟨.bl (eqVs xs ys), H, I, ?_, q⟩
    · simp only [List.size_toArray] at h1 h2
      have j1 : j < xs.length := by omega
      have j2 : j < ys.length := by omega
      obtain ⟨u1, e1, s1⟩ := r1.get (List.getElem?_eq_getElem j1)
      obtain ⟨u2, e2, s2⟩ := r2.get (List.getElem?_eq_getElem j2)
      rw [List.getElem?_eq_getElem h1] at e1
      rw [List.getElem?_eq_getElem h2] at e2
      cases e1
      cases e2
      have := eqAt_V (A := X.A.in1) (s := s) s1 s2 (List.all_eq_true.mp fx _ (List.getElem_mem j1)) (List.all_eq_true.mp fy _ (List.getElem_mem j2))
      simpa [List.getD, j1, j2] using this
    · show Value.bool _ = Value.bool _
      rw [eqVs_all hl, List.size_toArray, ← l1]
  · refine SeqAt.eq_list_lengthsAt p1.isList p2.isList (by simp; omega) (by omega) ⟨.bl (eqVs xs ys), H, I, ?_, q⟩
    rw [eqVs_ne hl]; rfl
end

theorem bt_len : bootBuiltins "len" = some (.builtin "len") := by decide +kernel
theorem bt_list : bootBuiltins "list" = some (.type "list") := by decide +kernel
theorem bt_all : bootBuiltins "all" = some (.builtin "all") := by decide +kernel
theorem bt_isinstance : bootBuiltins "isinstance" = some (.builtin "isinstance") := by decide +kernel
theorem same_upd {H : Hp} {l : Addr} {o : HO} (h : H l = none) : Same H (upd H l o) := fun b u e => by
  rw [upd_ne (ne_of_none e h)]; exact e
end L2

set_option Elab.async false
set_option linter.all false
set_option maxRecDepth 100000
set_option maxHeartbeats 4000000
/-! Rules over the hand layer: != of lists, sum, list(range(..)), bit_length. Own work. -/
namespace L2
open PySem PySem.Spec PyProof.Rows SI
section
variable {X : Cx}
theorem op_neL (hu : X.A.units + 1 < cLine) : OpR X (compareOp .NotEq) (rEqL X.K true) := by
  intro pins s σ H x y v u Q I rx ry h
  obtain ⟨a, b, xs, ys, rfl, rfl, ha, hb, fx, fy, q⟩ := h
  cases rx
  cases ry
  obtain ⟨i1, r1, p1, z1⟩ := I.list ha
  obtain ⟨i2, r2, p2, z2⟩ := I.list hb
  have l1 := r1.length
  have l2 := r2.length
  by_cases hl : xs.length = ys.length
  · refine SeqAt.RcNeAt.lists (e := fun i => eqV (xs.getD i .non) (ys.getD i .non)) p1.isList p2.isList (by simp; omega) (by omega) (fun j h1 h2 => ?_) X.prog X.w X.xe _ ⟨.bl (!eqVs xs ys), H, I, ?_, q⟩
    · simp only [List.size_toArray] at h1 h2
      have j1 : j < xs.length := by omega
      have j2 : j < ys.length := by omega
      obtain ⟨u1, e1, s1⟩ := r1.get (List.getElem?_eq_getElem j1)
      obtain ⟨u2, e2, s2⟩ := r2.get (List.getElem?_eq_getElem j2)
      rw [List.getElem?_eq_getElem h1] at e1
      rw [List.getElem?_eq_getElem h2] at e2
      cases e1
      cases e2
      have := eqAt_V (A := X.A.in1) (s := s) s1 s2 (List.all_eq_true.mp fx _ (List.getElem_mem j1)) (List.all_eq_true.mp fy _ (List.getElem_mem j2))
      simpa [List.getD, j1, j2] using this
    · show Value.bool _ = Value.bool _
      rw [eqVs_all hl, List.size_toArray, ← l1]
  · refine SeqAt.RcNeAt.lists_lengths p1.isList p2.isList (by simp; omega) (by omega) X.prog X.w X.xe _ ⟨.bl (!eqVs xs ys), H, I, ?_, q⟩
    rw [eqVs_ne hl]; rfl
end
end L2

set_option Elab.async false
set_option linter.all false
set_option maxRecDepth 100000
set_option maxHeartbeats 4000000
/-! Rules over the hand layer: classes' functions, methods by class, pairs walked (enumerate, zip), tuples compared, is. Own work. -/
namespace L2
open PySem PySem.Spec PyProof.Rows SI
/-! ### records of an iterator that is more than one object -/
section
variable {X : Cx} {pins : List (Addr × Obj)} {σ : St} {H : Hp} {s : Shared} {h' : Heap}
theorem Inv.turnedL {ch : List Addr} {t' : Nat} (I : Inv X pins σ H s) (hch : ∀ b ∈ ch, FpOk X pins H b) (k : ∀ b u, b ∉ ch → s.heap.get? b = some u → h'.get? b = some u) : Inv X pins σ H { s with heap := h', toks := t' } := by
  have nit : ∀ b u, H b = some u → b ∉ ch := fun b u e z => by rw [(hch b z).1] at e; cases e
  refine I.step (g' := s.gens) (d' := s.drawn) (ch := ch) (fun b hb => ?_) (fun b o _ _ hc e _ => k b o hc e) (fun b o _ _ hc e _ => ⟨o.slots, k b o hc e⟩) (fun _ _ _ _ n => n)
    (fun b o hc e => ⟨o, k b o hc e⟩) (fun _ _ e => e) (fun _ _ _ e => e) (fun b ps e => ⟨#[], by rw [e]; simp⟩) (fun m hm => ?_) (fun b u e => ?_) I.bare
  · obtain ⟨f0, f1, f2, f3, f4, f5⟩ := hch b hb
    exact ⟨f3, f1, f4, f5⟩
  · obtain ⟨o, es, ep, ho, r⟩ := hm
    exact ⟨o, es, ep, k _ o (fun z => (hch _ z).2.1 rfl) ho, r⟩
  · refine (I.hok b u e).stay (fun c v hc q => k c v ?_ q) (fun _ q => q) fun _ _ q => q
    rcases hc with z | z
    · rw [z]; exact nit b u e
    · exact nit c _ z
end

/-! ### enumerate(a list), walked by a target of two -/
theorem bt_str : bootBuiltins "str" = some (.type "str") := by decide +kernel
section
variable {X : Cx}
end

/-! ### zip(a list, a list), walked by a target of two -/
section
variable {X : Cx}
end
end L2

set_option Elab.async false
set_option linter.all false
set_option maxRecDepth 100000
set_option maxHeartbeats 4000000
/-! Rules over the hand layer: a class's function by the class, a method by the instance's class, max with a default, tuples compared, is, defs with defaults, comprehensions that make things. Own work. -/
namespace L2
open PySem PySem.Spec PyProof.Rows SI
/-! ### C.m(..) -/
section
variable {X : Cx} {CX : CXT} {k : Nat} {f C : Addr} {fd : FuncData} {ps : List Str} {sp : Sp} {dvs : List V} {ds : List Value} {E : XK} {x m : Str} {p pos apos : Pos} {e o : Expr} {es : List Expr} {ta : TE} {t : TA}

/-! ### o.m(..), by the class of o -/
end

/-! ### a def with defaults -/
section
variable {P : Program} {w : World} {K : PySem.W.Frag} {mg : Str → Option Value} {base : Heap}
end

/-! ### max(a list of ints, default = d) -/
section
variable {prog : Program} {w : World} {A : Around} {R : Result → Shared → Prop}
end
end L2

set_option Elab.async false
set_option linter.all false
set_option maxRecDepth 100000
set_option maxHeartbeats 4000000
/-! Rules over the hand layer: max with a default, tuples compared, is, comprehensions that make things. Own work. -/
namespace L2
open PySem PySem.Spec PyProof.Rows SI
section
variable {X : Cx}
/-! ### tuples compared -/
/-! ### is, of bools -/
end
/-! ### comprehensions over a list, of which each element may make things -/
end L2

set_option Elab.async false
set_option linter.all false
set_option maxRecDepth 100000
set_option maxHeartbeats 4000000
/-! dicts: a copy, clear, == and != of alike ones; f-strings of a str and an int. Own work. -/
namespace DQ
open PySem PyProof.Rows
section
variable {prog : Program} {w : World} {κ : Type} [DecidableEq κ] {knd : PySem.KeyKind prog w κ} {A : Around} {E : Value → Shared → Prop} {s : Shared}
end
end DQ
namespace L2
open PySem PySem.Spec PyProof.Rows
section
variable {X : Cx}
/-- dict(d) -/
theorem call_dcopy : CallR X (.type "dict") (fun xs H Q => ∃ a kvs, xs = [V.ref a] ∧ H a = some (.dK kvs) ∧ ∀ p, H p = none → Q (.ref p) (upd H p (.dK kvs))) := by
  intro pins s σ H xs us Q I r h
  obtain ⟨a, kvs, rfl, ha, q⟩ := h
  obtain ⟨u, rfl, ru⟩ := vals1 r
  cases ru
  exact d_copyOf I (.inl ha) fun p s' hp I' => ⟨.ref p, _, I', rfl, q p hp⟩
/-- f'{a}{b}', a str and an int -/
def tFstr2 (ta tb : TE) : TE := fun σ H Q => ta σ H fun x H1 => ∃ n : Str, x = .str n ∧ n.length ≤ sizeLine ∧ tb σ H1 fun y H2 => ∃ i : Int, y = .int i ∧ i.natAbs.log2 < 1920 ∧ (n ++ Str.ofString (toString i)).length ≤ sizeLine ∧ Q (.str (n ++ Str.ofString (toString i))) H2
theorem pe_fstr2 {a b : Expr} {ta tb : TE} {p1 p2 pos : Pos} (ha : PE X a ta) (hb : PE X b tb) : PE X (.JoinedStr [.FormattedValue a (-1) none p1, .FormattedValue b (-1) none p2] pos) (tFstr2 ta tb) := by
  intro pins s σ H Q I h
  refine JoinedStr_many (joinParts_cons (FormattedValue_plain (thn (ha pins s σ H _ I h) fun v s1 ⟨x, H1, I1, r1, n, ex, hn, q1⟩ => ?_)))
  subst ex
  obtain ⟨t, rfl⟩ := r1
  refine formatField_str (fun t' tk => ?_) hn
  have e0 : Str.empty ++ n = n := by obtain ⟨c⟩ := n; show Str.mk (Str.empty.cps ++ c) = Str.mk c; rw [show Str.empty.cps = #[] from rfl]; simp
  refine ⟨by rw [e0]; exact hn, ?_⟩
  rw [e0]
  refine joinParts_cons (FormattedValue_plain (thn (hb pins _ σ H1 _ (I1.tok tk) q1) fun v2 s2 ⟨y, H2, I2, r2, i, ey, hlog, hl, q2⟩ => ?_))
  subst ey
  obtain ⟨t2, rfl⟩ := r2
  refine formatField_int_small hlog ⟨hl, ?_⟩
  exact joinParts_nil ⟨.str _, H2, (I2.tok _).tok _, ⟨_, rfl⟩, q2⟩ hl
end
end L2

set_option Elab.async false
set_option linter.all false
set_option maxRecDepth 100000
set_option maxHeartbeats 4000000
/-! Rules over the hand layer: lists of different length compared, whatever they hold. Own work. -/
namespace L2
open PySem PySem.Spec PyProof.Rows SI
section
variable {X : Cx}
end
end L2

set_option Elab.async false
set_option linter.all false
set_option maxRecDepth 100000
set_option maxHeartbeats 4000000
/-! Comprehensions over enumerate, zip, range, whatever their elements do. Own work. -/
namespace L2
open PySem PySem.Spec PyProof.Rows
theorem lc_gen {J : It} {n : Nat} {g : TG} {tt : TT} {te : TE} {σ : St} {H : Hp} {D : Addr} {Q : Hp → Prop} (P : Nat → List V → St → Hp → Prop) (h0 : P 0 [] σ (upd H D (.lst [])))
    (hs : ∀ k ys σ' H', k < n → P k ys σ' H' → J.go k H' ∧ ∀ x H1, J.yld k H' x H1 → g x σ' H1 (fun σ2 H2 => tt σ2 H2 fun b H3 =>
      if b = true then te σ2 H3 fun y H4 => H4 D = some (.lst ys) ∧ ys.length < sizeLine ∧ ∃ m', m' < n - k ∧ m' = n - (k + 1) ∧ k + 1 ≤ n ∧ P (k + 1) (ys ++ [y]) σ2 (upd H4 D (.lst (ys ++ [y]))) else ∃ m', m' < n - k ∧ m' = n - (k + 1) ∧ k + 1 ≤ n ∧ P (k + 1) ys σ2 H3))
    (hd : ∀ ys σ' H', P n ys σ' H' → J.stop n H' ∧ Q H') :
    ∃ W : Nat → Nat → List V → St → Hp → Prop, (∃ m, W 0 m [] σ (upd H D (.lst []))) ∧ lcTurn J D g tt te Q W := by
  refine ⟨fun k m ys σ' H' => m = n - k ∧ k ≤ n ∧ P k ys σ' H', ⟨n, by simp, Nat.zero_le _, h0⟩, ?_⟩
  rintro k m ys σ' H' ⟨rfl, hk, hP⟩
  by_cases hlt : k < n
  · exact .inr (hs k ys σ' H' hlt hP)
  · have e : k = n := by omega
    subst e
    exact .inl (hd ys σ' H' hP)
/-- what stands behind a turn -/
def Beh (n k : Nat) (P : Nat → List V → St → Hp → Prop) (ys : List V) (σ : St) (H : Hp) : Prop := ∃ m', m' < n - k ∧ m' = n - (k + 1) ∧ k + 1 ≤ n ∧ P (k + 1) ys σ H
theorem Beh.of {n k : Nat} {P : Nat → List V → St → Hp → Prop} {ys : List V} {σ : St} {H : Hp} (hk : k < n) (h : P (k + 1) ys σ H) : Beh n k P ys σ H := ⟨n - (k + 1), by omega, rfl, hk, h⟩
theorem lc_rng {lo : Int} {n : Nat} {g : TG} {tt : TT} {te : TE} {σ : St} {H : Hp} {D : Addr} {Q : Hp → Prop} (P : Nat → List V → St → Hp → Prop) (h0 : P 0 [] σ (upd H D (.lst [])))
    (hs : ∀ k ys σ' H', k < n → P k ys σ' H' → g (.int (lo + k)) σ' H' (fun σ2 H2 => tt σ2 H2 fun b H3 =>
      if b = true then te σ2 H3 fun y H4 => H4 D = some (.lst ys) ∧ ys.length < sizeLine ∧ Beh n k P (ys ++ [y]) σ2 (upd H4 D (.lst (ys ++ [y]))) else Beh n k P ys σ2 H3))
    (hd : ∀ ys σ' H', P n ys σ' H' → Q H') :
    ∃ W : Nat → Nat → List V → St → Hp → Prop, (∃ m, W 0 m [] σ (upd H D (.lst []))) ∧ lcTurn (Itr lo n) D g tt te Q W := by
  refine lc_gen (n := n) P h0 (fun k ys σ' H' hk hP => ⟨hk, fun x H1 y => ?_⟩) (fun ys σ' H' hP => ⟨Nat.le_refl _, hd ys σ' H' hP⟩)
  obtain ⟨rfl, rfl⟩ := y
  exact hs k ys σ' _ hk hP
end L2

set_option Elab.async false
set_option linter.all false
set_option maxRecDepth 100000
set_option maxHeartbeats 4000000
/-! A comprehension over a list, whatever its elements do. Own work (as in K24f). -/
namespace L2
open PySem PySem.Spec PyProof.Rows
theorem lc_lst {K : PySem.W.Frag} {a : Addr} {xs : List V} {g : TG} {tt : TT} {te : TE} {σ : St} {H : Hp} {D : Addr} {Q : Hp → Prop} (P : Nat → List V → St → Hp → Prop) (h0 : P 0 [] σ (upd H D (.lst []))) (hl : ∀ k ys σ' H', k ≤ xs.length → P k ys σ' H' → SqL K H' a xs)
    (hs : ∀ k x ys σ' H', xs[k]? = some x → P k ys σ' H' → g x σ' H' (fun σ2 H2 => tt σ2 H2 fun b H3 =>
      if b = true then te σ2 H3 fun y H4 => H4 D = some (.lst ys) ∧ ys.length < sizeLine ∧ Beh xs.length k P (ys ++ [y]) σ2 (upd H4 D (.lst (ys ++ [y]))) else Beh xs.length k P ys σ2 H3))
    (hd : ∀ ys σ' H', P xs.length ys σ' H' → Q H') :
    ∃ W : Nat → Nat → List V → St → Hp → Prop, (∃ m, W 0 m [] σ (upd H D (.lst []))) ∧ lcTurn (Itl K a) D g tt te Q W := by
  refine lc_gen (n := xs.length) P h0 (fun k ys σ' H' hk hP => ?_) (fun ys σ' H' hP => ⟨⟨xs, hl _ _ _ _ (Nat.le_refl _) hP, Nat.le_refl _⟩, hd ys σ' H' hP⟩)
  have q := hl k ys σ' H' (Nat.le_of_lt hk) hP
  refine ⟨⟨xs, xs[k], q, by simp [hk]⟩, fun x H1 y => ?_⟩
  obtain ⟨rfl, y⟩ := y
  exact hs k x ys σ' _ (y xs q) hP
/-- strs written out -/
def strsOf : List Expr → Option (List Str)
  | [] => some []
  | .Constant (.str x) _ _ :: r => (strsOf r).map (x :: ·)
  | _ => none
def tStrs (xs : List Str) : TA := fun _ H Q => Q (xs.map V.str) H
theorem pa_strs {X : Cx} : ∀ {es : List Expr} {xs : List Str}, strsOf es = some xs → PA X es (tStrs xs)
  | [], xs, h => by
    cases h
    exact pa_nil
  | e :: r, xs, h => by
    cases e with
    | Constant c j p =>
      cases c with
      | str x =>
        cases hr : strsOf r with
        | none =>
          have h' : (strsOf r).map (x :: ·) = some xs := h
          rw [hr] at h'
          exact nomatch h'
        | some ys =>
          have h' : (strsOf r).map (x :: ·) = some xs := h
          rw [hr] at h'
          cases h'
          intro pos pins s σ H Q I q
          exact pa_cons (pe_str (x := x) (j := j) (pos := p)) (pa_strs hr) rfl pos pins s σ H Q I q
      | _ => exact nomatch h
    | _ => exact nomatch h
end L2

set_option Elab.async false
set_option linter.all false
set_option maxRecDepth 100000
set_option maxHeartbeats 4000000
/-! list.insert; a comprehension over a tuple. Own work. -/
namespace L2
open PySem PySem.Spec PyProof.Rows
theorem lc_tpl {K : PySem.W.Frag} {a : Addr} {xs : List V} {g : TG} {tt : TT} {te : TE} {σ : St} {H : Hp} {D : Addr} {Q : Hp → Prop} (P : Nat → List V → St → Hp → Prop) (h0 : P 0 [] σ (upd H D (.lst []))) (hl : ∀ k ys σ' H', k ≤ xs.length → P k ys σ' H' → SqT K H' a xs)
    (hs : ∀ k x ys σ' H', xs[k]? = some x → P k ys σ' H' → g x σ' H' (fun σ2 H2 => tt σ2 H2 fun b H3 =>
      if b = true then te σ2 H3 fun y H4 => H4 D = some (.lst ys) ∧ ys.length < sizeLine ∧ Beh xs.length k P (ys ++ [y]) σ2 (upd H4 D (.lst (ys ++ [y]))) else Beh xs.length k P ys σ2 H3))
    (hd : ∀ ys σ' H', P xs.length ys σ' H' → Q H') :
    ∃ W : Nat → Nat → List V → St → Hp → Prop, (∃ m, W 0 m [] σ (upd H D (.lst []))) ∧ lcTurn (Itt K a) D g tt te Q W := by
  refine lc_gen (n := xs.length) P h0 (fun k ys σ' H' hk hP => ?_) (fun ys σ' H' hP => ⟨⟨xs, hl _ _ _ _ (Nat.le_refl _) hP, Nat.le_refl _⟩, hd ys σ' H' hP⟩)
  have q := hl k ys σ' H' (Nat.le_of_lt hk) hP
  refine ⟨⟨xs, xs[k], q, by simp [hk]⟩, fun x H1 y => ?_⟩
  obtain ⟨rfl, y⟩ := y
  exact hs k x ys σ' _ (y xs q) hP
section
variable {X : Cx}
/-- xs.insert(i, y), 0 ≤ i ≤ len(xs) -/
def rInsert : V → List V → Hp → VK → Prop := fun x vs H Q => ∃ (l : Addr) (i : Int) (y : V) (xs : List V), x = .ref l ∧ vs = [.int i, y] ∧ H l = some (.lst xs) ∧ 0 ≤ i ∧ i ≤ xs.length ∧ xs.length < sizeLine ∧ Q .non (upd H l (.lst (xs.take i.toNat ++ y :: xs.drop i.toNat)))
theorem fits_index {i : Int} (h0 : 0 ≤ i) (h : i ≤ 16777216) : ¬ (!Builtin.List.listFitsIndex i) = true := by
  simp [Builtin.List.listFitsIndex]
  omega
theorem mt_insert : MtM X "list.insert" rInsert := by
  intro pins s σ H x vs v us Q I rx rv h
  obtain ⟨l, i, y, xs, rfl, rfl, hH, h0, hk, hz, q⟩ := h
  cases rx
  obtain ⟨u1, u2, rfl, ru1, ru2⟩ := rv.two
  obtain ⟨t, rfl⟩ := ru1
  obtain ⟨z, its, n, r, hl, e⟩ := I.lstM hH
  have hz' := hz
  rw [sizeLine_eq] at hz'
  have hsz : its.toArray.size ≤ sizeLine := by rw [List.size_toArray, ← hl]; exact z
  refine call_meets F.slot_list_insert ⟨_, e, rfl⟩ F.entry_list_insert (F.args_list_insert_3 (.ref l) (.int i t) u2) (PySem.AutoListH.list_insert_list_int_val_1 l its.toArray n i t u2 (fits_index h0 (by omega)) hsz) ⟨e, ?_⟩
  refine ⟨.non, _, I.lset (its' := its.take i.toNat ++ u2 :: its.drop i.toNat) hH e ?_ ((r.take i.toNat).append (.cons ru2 (r.drop i.toNat))) ?_, rfl, q⟩
  · have hk' : ¬ (i < 0) := by omega
    show (have k' := if i < 0 then (i + ((its.toArray.size : Nat) : Int)).toNat else min i.toNat its.toArray.size; (its.toArray.extract 0 k').push u2 ++ its.toArray.extract k') = _
    rw [if_neg hk', List.size_toArray, show min i.toNat its.length = i.toNat by omega]
    apply Array.ext'
    simp
    rw [← List.length_drop, List.take_length]
  · rw [List.length_append, List.length_cons, List.length_take, List.length_drop]
    omega
end
end L2

set_option Elab.async false
set_option linter.all false
set_option maxRecDepth 100000
set_option maxHeartbeats 4000000
/-! reversed(a list): walked, and as a list; cuts of a list by steps. Own work. -/
namespace RV
open PySem PyProof.Rows
section
variable {prog : Program} {w : World} {A : Around} {E : Value → Shared → Prop} {s : Shared} {J : Addr} {fp wr : List Addr} {G : Array GenState → Array GenState → Prop} {n : Nat} {P : Nat → Value → Prop} {St : Nat → Shared → Prop}
end
end RV
namespace L2
open PySem PySem.Spec PyProof.Rows
theorem bt_reversed : bootBuiltins "reversed" = some (.type "reversed") := by decide +kernel
section
variable {X : Cx} {e : Expr} {te : TE} {p1 p2 p3 p4 : Pos}
end
/-! ### a walk back over a list -/
def Itv (K : PySem.W.Frag) (a : Addr) (n : Nat) : It :=
  ⟨fun i H => i < n ∧ ∃ xs, SqL K H a xs ∧ xs.length = n, fun i H x H' => H' = H ∧ ∀ xs, SqL K H a xs → xs[n - 1 - i]? = some x, fun i H => i = n ∧ ∃ xs, SqL K H a xs ∧ xs.length = n⟩
theorem turn_rev {P : Program} {w : World} {K : PySem.W.Frag} {tg : Expr} (a it : Addr) (n : Nat) (hne : a ≠ it) :
    Turn P w K tg (Itv K a n) [it] it (fun i h => i ≤ n ∧ h.IsRevIter it a ((n : Int) - 1 - (i : Int))) where
  mem := by simp
  obj := fun i h st b hb => by
    obtain ⟨_, o, ho, c, d⟩ := st
    rw [List.mem_singleton.mp hb]
    exact ⟨o, ho, fun v z => by rw [d] at z; cases z⟩
  keep := fun i h h' st k => ⟨st.1, st.2.at fun o ho => k it (by simp) o ho⟩
  item := by
    intro X hP hw hK hc i pins s σ H E I hf st hg
    subst hP hw hK
    obtain ⟨hi, xs, hq, hx⟩ := hg
    obtain ⟨its, rv, p, hz⟩ := I.list hq
    have hlen := rv.length
    obtain ⟨u, hu, ru⟩ := rv.get (i := n - 1 - i) (x := xs[n - 1 - i]'(by omega)) (List.getElem?_eq_getElem (by omega))
    have hit := st.2
    have e : (n : Int) - 1 - (i : Int) = ((n - 1 - i : Nat) : Int) := by omega
    rw [e] at hit
    refine wpAny_pyNext_rev_item hit p.isList (x := u) (by simpa using hu) fun h1 hit1 hs1 => ?_
    obtain ⟨o1, ho1, hc1, hd1⟩ := id hit1
    refine ⟨_, rfl, go_of ho1 hc1 hd1 (by decide) ⟨xs[n - 1 - i]'(by omega), H, ?_, ru, ⟨rfl, fun ys hy => by rw [I.list_inj hy hq]; exact List.getElem?_eq_getElem (by omega)⟩, ⟨hi, ?_⟩, fun b hb => (hf b hb).1⟩⟩
    · exact I.turnedL (ch := [it]) (t' := s.toks) hf fun b o hb q => hs1.extBut b o (fun z => hb (by simp [z])) q
    · have e2 : ((n - 1 - i : Nat) : Int) - 1 = (n : Int) - 1 - ((i + 1 : Nat) : Int) := by omega
      rw [e2] at hit1
      exact hit1
  done := by
    intro X hP hw hK hc i pins s σ H E I hf st hg
    subst hP hw hK
    obtain ⟨hi, xs, hq, hx⟩ := hg
    have hit := st.2
    have e : (n : Int) - 1 - (i : Int) = -1 := by omega
    rw [e] at hit
    exact wpAny_pyNext_rev_end (I.ok.hd hc) hit fun h' eb => ⟨rfl, I.turnedL (ch := [it]) (t' := s.toks) hf fun b o hb q => eb b o (fun z => hb (by simp [z])) q⟩
  self := fun _ _ _ _ _ st h => wpAny_pyIter_revIter st.2 h
def iRev (K : PySem.W.Frag) (te : TE) : TI := fun σ H R => te σ H fun x H1 => ∃ a xs, x = .ref a ∧ SqL K H1 a xs ∧ R (Itv K a xs.length) H1
section
variable {X : Cx}
theorem pi_rev {e : Expr} {te : TE} {p pos : Pos} {tg : Expr} (hg : Gl X "reversed") (hm : X.mg "reversed" = none) (he : PE X e te) (hs : starEach [e] X.env = [(false, eval e X.env)] := by rfl) :
    PI X tg (.Call (.Name "reversed" p) [e] [] pos) (iRev X.K te) := by
  intro pins s σ H R I h
  refine wpAny_Call_Name_kw (ld_blt I hg hm bt_reversed ?_)
  refine PyProof.Rows.callWith_type1 ?_ hs rfl
  rw [hs]
  show wpAny _ _ (spliced ((false, eval e X.env) :: [])) _ _ s
  refine Calls.spliced_cons (thn (he pins s σ H _ I h) fun u s1 ⟨x, H1, I1, r1, q1⟩ => Calls.spliced_nil ?_)
  obtain ⟨a, xs, rfl, hq, q⟩ := q1
  cases r1
  obtain ⟨its, rv, pl, hz⟩ := I1.list hq
  have hlen := rv.length
  have ha : a < s1.heap.objs.size := by obtain ⟨o, ho, _⟩ := pl.isList; exact Heap.lt_size ho
  refine call_reversed_list pl.isList ?_
  have hJ : (s1.heap.push (revObj a ((its.toArray.size : Int) - 1))).IsRevIter s1.heap.objs.size a ((xs.length : Int) - 1 - ((0 : Nat) : Int)) := by
    rw [hlen]
    refine ⟨_, Heap.get?_push_size _ rfl, rfl, ?_⟩
    show Data.fields #[.ref a, rawInt ((its.toArray.size : Int) - 1)] = _
    rw [List.size_toArray, show ((its.length : Int) - 1 - ((0 : Nat) : Int)) = (its.length : Int) - 1 by omega]
  refine wpAny_pyIter_revIter hJ ?_
  have I2 : Inv X pins σ H1 { s1 with heap := s1.heap.push (revObj a ((its.toArray.size : Int) - 1)) } := I1.kept (t' := s1.toks) fun b o q => Heap.get?_push_of_some _ q
  refine ⟨s1.heap.objs.size, [s1.heap.objs.size], _, _, H1, rfl, I2, turn_rev a _ xs.length (Nat.ne_of_lt ha), ⟨Nat.zero_le _, hJ⟩, fun b hb => ?_, q⟩
  rw [List.mem_singleton.mp hb]
  exact I1.fpOk (Nat.le_refl _) (I1.hok.fresh (Nat.le_refl _))
end
theorem for_rev {K : PySem.W.Frag} {a : Addr} {xs : List V} {g : TG} {tb : TS} {D : Ends} {σ : St} {H : Hp} (Pv : Nat → St → Hp → Prop) (h0 : Pv 0 σ H) (hl : ∀ i σ H, i ≤ xs.length → Pv i σ H → SqL K H a xs)
    (hs : ∀ i x σ H, xs[xs.length - 1 - i]? = some x → i < xs.length → Pv i σ H → g x σ H fun σ2 H2 => tb { D with nx := Pv (i + 1), ct := Pv (i + 1), bk := D.nx } σ2 H2) (hd : ∀ σ H, Pv xs.length σ H → D.nx σ H) :
    ∃ W : Nat → Nat → St → Hp → Prop, (∃ m, W 0 m σ H) ∧ ∀ i m σ H, W i m σ H →
      ((Itv K a xs.length).stop i H ∧ D.nx σ H) ∨ ((Itv K a xs.length).go i H ∧ ∃ N : St → Hp → Prop, (∀ σ' H', N σ' H' → ∃ m', m' < m ∧ W (i + 1) m' σ' H') ∧ ∀ x H', (Itv K a xs.length).yld i H x H' → g x σ H' fun σ2 H2 => tb { D with nx := N, ct := N, bk := D.nx } σ2 H2) := by
  refine ⟨fun i m σ H => m = xs.length - i ∧ i ≤ xs.length ∧ Pv i σ H, ⟨xs.length, by simp, Nat.zero_le _, h0⟩, ?_⟩
  rintro i m σ H ⟨rfl, hi, p⟩
  have q := hl i σ H hi p
  by_cases hlt : i < xs.length
  · refine .inr ⟨⟨hlt, xs, q, rfl⟩, Pv (i + 1), fun σ' H' p' => ⟨xs.length - (i + 1), by omega, rfl, hlt, p'⟩, fun x H' y => ?_⟩
    obtain ⟨rfl, y⟩ := y
    exact hs i x σ _ (y xs q) hlt p
  · have e : i = xs.length := by omega
    exact .inl ⟨⟨e, xs, q, rfl⟩, hd σ H (by rw [← e]; exact p)⟩
/-! ### cuts by steps -/
def pickA {α : Type} (xs : List α) (lo hi st : Option Int) : List α :=
  (sliceRange (sliceBounds lo hi st xs.length).1 (sliceBounds lo hi st xs.length).2.1 (sliceBounds lo hi st xs.length).2.2).filterMap (xs[·]?)
theorem pick_map {α β : Type} (f : α → β) (xs : List α) (lo hi st : Option Int) : pickA (xs.map f) lo hi st = (pickA xs lo hi st).map f := by
  unfold pickA
  rw [List.length_map, List.map_filterMap]
  congr 1
  funext i
  rw [List.getElem?_map]
theorem vals_pick {xs : List V} {us : List Value} (r : Vals xs us) : ∀ ix : List Nat, Vals (ix.filterMap (xs[·]?)) (ix.filterMap (us[·]?))
  | [] => .nil
  | i :: ix => by
    have ih := vals_pick r ix
    cases e : xs[i]? with
    | none => rw [List.filterMap_cons_none (by exact e), List.filterMap_cons_none (by exact r.none_of e)]; exact ih
    | some x =>
      obtain ⟨u, hu, ru⟩ := r.get e
      rw [List.filterMap_cons_some (by exact e), List.filterMap_cons_some (by exact hu)]
      exact .cons ru ih
theorem len_pick (its : List Value) (lo hi st : Option Int) : ((sliceRange (sliceBounds lo hi st its.length).1 (sliceBounds lo hi st its.length).2.1 (sliceBounds lo hi st its.length).2.2).filterMap (its[·]?)).length ≤ its.length := by
  have := slicePick_size_le its.toArray lo hi st
  unfold slicePick at this
  simpa using this
def tSlS (K : PySem.W.Frag) (te : TE) (tl th ts : TO) : TE := fun σ H Q => te σ H fun x H1 => tl σ H1 fun l H2 => th σ H2 fun u H3 => ts σ H3 fun k H4 =>
  ∃ a xs, x = .ref a ∧ SqL K H4 a xs ∧ k ≠ some 0 ∧ ∀ p, H4 p = none → Q (.ref p) (upd H4 p (.lst (pickA xs l u k)))
section
variable {X : Cx} {e : Expr} {te : TE} {lo hi : Option Expr} {ke : Expr} {tl th ts : TO} {pos p2 : Pos}
/-- a[lo:hi:step], a list -/
theorem pe_sliceS (he : PE X e te) (hl : PO X lo tl) (hu : PO X hi th) (hk : PO X (some ke) ts) : PE X (.Subscript e (.Slice lo hi (some ke) p2) pos) (tSlS X.K te tl th ts) := by
  intro pins s σ H Q I h
  refine Subscript_ (thn (he pins s σ H _ I h) fun v s1 ⟨x, H1, I1, r1, q1⟩ => ?_)
  refine wpAny_Slice (thn (hl pins s1 σ H1 _ I1 q1) fun vl s2 ⟨l, H2, I2, pl, q2⟩ => thn (hu pins s2 σ H2 _ I2 q2) fun vu s3 ⟨u, H3, I3, pu, q3⟩ => thn (hk pins s3 σ H3 _ I3 q3) fun vk s4 ⟨k, H4, I4, pk, q4⟩ => ?_)
  obtain ⟨a, xs, rfl, hq, hk0, q⟩ := q4
  cases r1
  have I5 : Inv X pins σ H4 { s4 with heap := s4.heap.push { cls := .type "slice", data := .fields #[vl, vu, vk] } } := I4.kept (t' := s4.toks) fun b ob z => Heap.get?_push_of_some _ z
  obtain ⟨its, r, ht, hz⟩ := I5.list hq
  have hlen := r.length
  show wpAny (model X.prog X.w) X.A (subscriptTail e (.Slice lo hi (some ke) p2) (.ref a) (.ref s4.heap.objs.size)) (EP X pins σ Q) X.xe { s4 with heap := s4.heap.push { cls := .type "slice", data := .fields #[vl, vu, vk] } }
  refine tail_any (ops := [.ref a, .ref s4.heap.objs.size]) ht.isList.typeIs slot_list_getitem.lookup ?_ (by with_unfolding_all rfl)
  refine wpAny_getItem_list_slice ht.isList (Heap.IsSliceOf.new ..) pl pu pk hk0 ?_ (by rw [List.size_toArray]; omega)
  have hle := len_pick its l u k
  refine ⟨.ref _, _, I5.laid (t' := s4.toks) (o := .lst (pickA xs l u k)) (fun b ob z => Heap.get?_push_of_some _ z) (Nat.le_refl _) ?_, rfl, q _ (I5.hok.fresh (Nat.le_refl _))⟩
  have rp : Vals (pickA xs l u k) ((sliceRange (sliceBounds l u k its.length).1 (sliceBounds l u k its.length).2.1 (sliceBounds l u k its.length).2.2).filterMap (its[·]?)) := by
    unfold pickA
    rw [hlen]
    exact vals_pick r _
  refine ⟨by rw [rp.length]; omega, _, 0, rp, ?_⟩
  have e0 : slicePick its.toArray l u k = ((sliceRange (sliceBounds l u k its.length).1 (sliceBounds l u k its.length).2.1 (sliceBounds l u k its.length).2.2).filterMap (its[·]?)).toArray := by
    unfold slicePick
    simp only [List.size_toArray, List.getElem?_toArray]
  rw [← e0]
  exact Heap.get?_push_size _ rfl
end
theorem len_pickA {α : Type} (xs : List α) (lo hi st : Option Int) : (pickA xs lo hi st).length ≤ xs.length := by
  have := len_pick (xs.map fun _ => Value.none) lo hi st
  rw [List.length_map] at this
  refine Nat.le_trans (Nat.le_of_eq ?_) this
  unfold pickA
  have e : ∀ ix : List Nat, (ix.filterMap (xs[·]?)).length = (ix.filterMap ((xs.map fun _ => Value.none)[·]?)).length := by
    intro ix
    induction ix with
    | nil => rfl
    | cons i r ih =>
      cases q : xs[i]? with
      | none => rw [List.filterMap_cons_none (by exact q), List.filterMap_cons_none (by rw [List.getElem?_map, q]; rfl)]; exact ih
      | some z => rw [List.filterMap_cons_some (by exact q), List.filterMap_cons_some (b := Value.none) (by rw [List.getElem?_map, q]; rfl), List.length_cons, List.length_cons, ih]
  exact e _
end L2

set_option Elab.async false
set_option linter.all false
set_option maxRecDepth 100000
set_option maxHeartbeats 4000000
/-! d.setdefault(y, x); sorted(a list of ints). Own work. -/
namespace SDf
open PySem PyProof.Rows
section
variable {prog : Program} {w : World} {κ : Type} [DecidableEq κ] {knd : PySem.KeyKind prog w κ} {A : Around} {E : Value → Shared → Prop} {s : Shared}
end
end SDf
namespace L2
open PySem PySem.Spec PyProof.Rows
section
variable {X : Cx} {o e f : Expr} {apos cpos : Pos} {td ty tx : TE}
end
end L2

set_option Elab.async false
set_option linter.all false
set_option maxRecDepth 100000
set_option maxHeartbeats 4000000
/-! sorted(a list of ints); lists and tuples that are alike, within one another. Own work. -/
namespace L2
open PySem PySem.Spec PyProof.Rows SI
section
variable {X : Cx}
end
/-! ### alike, within one another -/
theorem paired_get {α β : Type} {R : α → β → Prop} {xs : List α} {ys : List β} (h : Paired R xs ys) : ∀ {j : Nat} {x : α} {y : β}, xs[j]? = some x → ys[j]? = some y → R x y := by
  induction h with
  | nil => exact fun e => nomatch e
  | cons h t ih =>
    intro j x y e1 e2
    cases j with
    | zero => cases e1; cases e2; exact h
    | succ j => exact ih e1 e2
section
variable {X : Cx} {pins : List (Addr × Obj)} {σ : St} {H : Hp} {s : Shared}
end
section
variable {X : Cx}
end
end L2

set_option Elab.async false
set_option linter.all false
set_option maxRecDepth 100000
set_option maxHeartbeats 4000000
/-! t[lo:hi], the whole of it too. Own work. -/
namespace HT
open PySem PySem.Spec PyProof.Rows
section
variable {prog : Program} {w : World} {A : Around} {E : Value → Shared → Prop} {s : Shared}
end
end HT
namespace L2
open PySem PySem.Spec PyProof.Rows
end L2

set_option linter.all false
/-! Signs of texts as lists of numbers: parts at one sign, words between blanks, padding. Own work. -/
namespace TX
/-- each sign c exchanged for z -/
def rep (c : Nat) (z : List Nat) (l : List Nat) : List Nat := l.flatMap fun k => if k = c then z else [k]
end TX

set_option Elab.async false
set_option linter.all false
set_option maxRecDepth 100000
set_option maxHeartbeats 4000000
/-! Texts over the hand layer: their mathematics as lists of numbers; split, replace, startswith, walks over the signs, cuts, repeats. Own work. -/
namespace L2
open PySem PySem.Spec PyProof.Rows Builtin Builtin.Str
/-! ### texts as lists of numbers -/
def cpl (x : Str) : List Nat := x.cps.toList
def ofL (l : List Nat) : Str := ⟨l.toArray⟩
theorem ofL_cpl (x : Str) : ofL (cpl x) = x := by cases x; simp [cpl, ofL]
theorem cpl_inj {x y : Str} (h : cpl x = cpl y) : x = y := by rw [← ofL_cpl x, ← ofL_cpl y, h]
theorem cpl_len (x : Str) : (cpl x).length = x.length := by simp [cpl, Str.length]
theorem cpl_cat (x y : Str) : cpl (x ++ y) = cpl x ++ cpl y := by
  show (x ++ y).cps.toList = _
  rw [Str.cps_append, Array.toList_append]; rfl
/-! ### rules -/
section
variable {X : Cx}
end
end L2

set_option Elab.async false
set_option linter.all false
set_option maxRecDepth 100000
set_option maxHeartbeats 4000000
/-! Texts over the hand layer: walks over the signs, repeats, replace behind a def's entry. Own work. -/
namespace L2
open PySem PySem.Spec PyProof.Rows Builtin Builtin.Str
/-- a text's signs, as values -/
def sgn (c : Nat) : V := .str ⟨#[c]⟩
def sgns (x : Str) : List V := (cpl x).map sgn
/-- the signs of x, one after another -/
def Its (x : Str) : It := ⟨fun i _ => i < x.length, fun i H v H' => H' = H ∧ (sgns x)[i]? = some v, fun i _ => i = x.length⟩
section
variable {X : Cx} {tg : Expr}
end
end L2

set_option Elab.async false
set_option linter.all false
set_option maxRecDepth 100000
set_option maxHeartbeats 4000000
/-! Behind a def's entry at least one token has been counted: str.replace with written texts. Own work. -/
namespace L2
open PySem PySem.Spec PyProof.Rows Builtin Builtin.Str
section
variable {X : Cx}
end
/-! ### the entry -/
section
variable {M : Model} {A : Around} {E : Value → Shared → Prop} {s₀ : Shared} {env : Env}
end
end L2

set_option Elab.async false
set_option linter.all false
set_option maxRecDepth 100000
set_option maxHeartbeats 4000000
/-! Texts over the hand layer: join. Own work. -/
namespace L2
open PySem PySem.Spec PyProof.Rows Builtin Builtin.Str
section
variable {X : Cx}
end
end L2
namespace TX
end TX
namespace L2
open PySem
end L2

set_option Elab.async false
set_option linter.all false
set_option maxRecDepth 100000
set_option maxHeartbeats 4000000
set_option exponentiation.threshold 3000
/-! k72: cores as trees, on the heap; names that are numbered. Own work. -/
namespace K72
open PySem L2 Builtin.Str
def top (i : Nat) : Stmt := PySem.Challenge.pw_macrohouse_k72_the_first_that_may.main.body.getD i (.Pass ⟨0, 0, 0, 0⟩)
abbrev sInner : Stmt := top 1
abbrev sWithin : Stmt := top 2
abbrev sNames : Stmt := top 4
abbrev sTaken : Stmt := top 5
abbrev sPut : Stmt := top 6
abbrev sNumbered : Stmt := top 7
abbrev sCell : Stmt := top 9
abbrev sNext : Stmt := top 10
abbrev sPool : Stmt := top 11
abbrev sNew : Stmt := top 12
abbrev sLeaf : Stmt := top 13
abbrev sParams : Stmt := top 14
abbrev sMany : Stmt := top 15
abbrev sCore : Stmt := top 16
abbrev sNest : Stmt := top 17
abbrev sItems : Stmt := top 18
abbrev sWords : Stmt := top 19
abbrev sFirst : Stmt := top 20
abbrev sFits : Stmt := top 21
abbrev sPlaces : Stmt := top 22
abbrev sGood : Stmt := top 23
abbrev sLaw : Stmt := top 24
structure Txt (mg : Str → Option Value) : Prop where
  len : mg "len" = none
  list : mg "list" = none
  rev : mg "reversed" = none
  range : mg "range" = none
  isi : mg "isinstance" = none
  tuple : mg "tuple" = none
  dict : mg "dict" = none
  all : mg "all" = none
  str : mg "str" = none
  sorted : mg "sorted" = none
/-! ### one for one -/
def Al {α : Type} (R : α → V → Prop) (xs : List α) (vs : List V) : Prop := vs.length = xs.length ∧ ∀ (i : Nat) a, xs[i]? = some a → ∃ v, vs[i]? = some v ∧ R a v
section
variable {α : Type} {R R' : α → V → Prop} {xs : List α} {vs : List V}
theorem Al.nil : Al R [] [] := ⟨rfl, fun i a e => by simp at e⟩
theorem Al.mono (f : ∀ a v, R a v → R' a v) (h : Al R xs vs) : Al R' xs vs := ⟨h.1, fun i a e => by obtain ⟨v, e1, r⟩ := h.2 i a e; exact ⟨v, e1, f _ _ r⟩⟩
theorem Al.append {ys : List α} {us : List V} (h : Al R xs vs) (g : Al R ys us) : Al R (xs ++ ys) (vs ++ us) := by
  refine ⟨by rw [List.length_append, List.length_append, h.1, g.1], fun i b e => ?_⟩
  by_cases hi : i < xs.length
  · rw [List.getElem?_append_left hi] at e
    obtain ⟨u, e1, r1⟩ := h.2 i b e
    exact ⟨u, by rw [List.getElem?_append_left (by rw [h.1]; exact hi)]; exact e1, r1⟩
  · rw [List.getElem?_append_right (by omega)] at e
    obtain ⟨u, e1, r1⟩ := g.2 _ b e
    exact ⟨u, by rw [List.getElem?_append_right (by rw [h.1]; omega), h.1]; exact e1, r1⟩
theorem Al.cons {a : α} {v : V} (r : R a v) (h : Al R xs vs) : Al R (a :: xs) (v :: vs) := by
  refine ⟨by rw [List.length_cons, List.length_cons, h.1], fun i b e => ?_⟩
  cases i with
  | zero => simp at e; subst e; exact ⟨v, rfl, r⟩
  | succ i => simpa using h.2 i b (by simpa using e)
theorem Al.snoc (h : Al R xs vs) {a : α} {v : V} (r : R a v) : Al R (xs ++ [a]) (vs ++ [v]) := h.append (Al.cons r Al.nil)
theorem Al.at (h : Al R xs vs) {i : Nat} {v : V} (hv : vs[i]? = some v) : ∃ a, xs[i]? = some a ∧ R a v := by
  have hi := (List.getElem?_eq_some_iff.mp hv).1
  have hx : i < xs.length := by rw [← h.1]; exact hi
  obtain ⟨u, eu, r⟩ := h.2 i xs[i] (List.getElem?_eq_getElem hx)
  rw [hv] at eu
  have : v = u := by injection eu
  exact ⟨xs[i], List.getElem?_eq_getElem hx, by rw [this]; exact r⟩
theorem Al.uncons {a : α} (h : Al R (a :: xs) vs) : ∃ v vs', vs = v :: vs' ∧ R a v ∧ Al R xs vs' := by
  cases vs with
  | nil => exact absurd h.1 (by simp)
  | cons v vs' =>
    refine ⟨v, vs', rfl, ?_, by simpa using h.1, fun i b e => ?_⟩
    · obtain ⟨u, e1, r⟩ := h.2 0 a rfl
      simp at e1; subst e1; exact r
    · simpa using h.2 (i + 1) b (by simpa using e)
theorem Al.nil_of (h : Al R [] vs) : vs = [] := List.length_eq_zero_iff.mp h.1
theorem Al.unsnoc {a : α} (h : Al R (xs ++ [a]) vs) : ∃ vs' v, vs = vs' ++ [v] ∧ R a v ∧ Al R xs vs' := by
  have hl := h.1
  rw [List.length_append, List.length_singleton] at hl
  have hd : vs = vs.dropLast ++ [vs.getLast (fun e => by rw [e] at hl; simp at hl)] := (List.dropLast_concat_getLast _).symm
  have hdl : vs.dropLast.length = xs.length := by rw [List.length_dropLast]; omega
  refine ⟨vs.dropLast, vs.getLast (fun e => by rw [e] at hl; simp at hl), hd, ?_, hdl, fun i b e => ?_⟩
  · obtain ⟨u, e1, r⟩ := h.2 xs.length a (by rw [List.getElem?_append_right (Nat.le_refl _), Nat.sub_self]; rfl)
    rw [hd, List.getElem?_append_right (by omega), hdl, Nat.sub_self] at e1
    have e2 := Option.some.inj e1
    rw [e2]; exact r
  · have hi := (List.getElem?_eq_some_iff.mp e).1
    obtain ⟨u, e1, r⟩ := h.2 i b (by rw [List.getElem?_append_left hi]; exact e)
    rw [hd, List.getElem?_append_left (by omega)] at e1
    exact ⟨u, e1, r⟩
theorem Al.reverse : ∀ {xs : List α} {vs : List V}, Al R xs vs → Al R xs.reverse vs.reverse
  | [], vs, h => by have := h.nil_of; subst this; exact Al.nil
  | a :: xs, vs, h => by
    obtain ⟨v, vs', rfl, r, h'⟩ := h.uncons
    rw [List.reverse_cons, List.reverse_cons]
    exact (Al.reverse h').snoc r
theorem Al.drop (h : Al R xs vs) (k : Nat) : Al R (xs.drop k) (vs.drop k) := by
  refine ⟨by rw [List.length_drop, List.length_drop, h.1], fun i a e => ?_⟩
  rw [List.getElem?_drop] at e
  obtain ⟨v, e1, r⟩ := h.2 _ a e
  exact ⟨v, by rw [List.getElem?_drop]; exact e1, r⟩
theorem Al.take (h : Al R xs vs) (k : Nat) : Al R (xs.take k) (vs.take k) := by
  refine ⟨by rw [List.length_take, List.length_take, h.1], fun i a e => ?_⟩
  rw [List.getElem?_take] at e
  split at e
  · rename_i hik
    obtain ⟨v, e1, r⟩ := h.2 _ a e
    exact ⟨v, by rw [List.getElem?_take, if_pos hik]; exact e1, r⟩
  · exact nomatch e
end
/-- tuples stay -/
def Tup (H H' : Hp) : Prop := ∀ e xs, H e = some (.tup xs) → H' e = some (.tup xs)
theorem Tup.refl (H : Hp) : Tup H H := fun _ _ q => q
theorem Tup.trans {H H' H'' : Hp} (a : Tup H H') (b : Tup H' H'') : Tup H H'' := fun e xs q => b e xs (a e xs q)
theorem Tup.of {H H' : Hp} (s : Same H H') : Tup H H' := fun e xs q => s _ _ q
theorem kind_ne {H : Hp} {a c : Addr} {o u : HO} (h1 : H a = some o) (h2 : H c = some u) (h : o ≠ u) : a ≠ c := fun e => by
  rw [e, h2] at h1
  exact h (Option.some.inj h1).symm
theorem Tup.lst {H : Hp} {D : Addr} {xs ys : List V} (h : H D = some (.lst xs)) : Tup H (upd H D (.lst ys)) := fun e zs q => by rw [upd_ne (kind_ne q h (fun z => nomatch z))]; exact q
/-! ### cores -/
inductive Tg where
  | num (z : Int)
  | free (n : Str)
  | seen (p : Int)
  | fn (ps : List (Int × Str))
  | call
  | pick
  | now
inductive Co where
  | mk (t : Tg) (ks : List Co)
def PaIn (H : Hp) (p : Int × Str) (v : V) : Prop := ∃ t, v = .ref t ∧ H t = some (.tup [.int p.1, .str p.2])
theorem PaIn.tup {H H' : Hp} (s : Tup H H') {p : Int × Str} {v : V} (h : PaIn H p v) : PaIn H' p v := by obtain ⟨t, e, q⟩ := h; exact ⟨t, e, s _ _ q⟩
/-- a core's own object -/
def CoAt (H : Hp) : Tg → Addr → List V → Prop
  | .num z, a, vs => vs = [] ∧ H a = some (.tup [.str "num", .int z])
  | .free n, a, vs => vs = [] ∧ H a = some (.tup [.str "free", .str n])
  | .seen p, a, vs => vs = [] ∧ H a = some (.tup [.str "seen", .int p])
  | .fn ps, a, vs => ∃ (u : Addr) (pv : List V) (b : V), vs = [b] ∧ H a = some (.tup [.str "fn", .ref u, b]) ∧ H u = some (.tup pv) ∧ Al (PaIn H) ps pv
  | .call, a, vs => ∃ (u : Addr) (f : V) (as : List V), vs = f :: as ∧ H a = some (.tup [.str "call", f, .ref u]) ∧ H u = some (.tup as)
  | .pick, a, vs => ∃ x y z, vs = [x, y, z] ∧ H a = some (.tup [.str "pick", x, y, z])
  | .now, a, vs => ∃ x, vs = [x] ∧ H a = some (.tup [.str "now", x])
theorem CoAt.tup {H H' : Hp} (s : Tup H H') : ∀ {t : Tg} {a : Addr} {vs : List V}, CoAt H t a vs → CoAt H' t a vs
  | .num z, a, vs, ⟨e, h⟩ => ⟨e, s _ _ h⟩
  | .free z, a, vs, ⟨e, h⟩ => ⟨e, s _ _ h⟩
  | .seen z, a, vs, ⟨e, h⟩ => ⟨e, s _ _ h⟩
  | .fn ps, a, vs, ⟨u, pv, b, e, h, hu, hp⟩ => ⟨u, pv, b, e, s _ _ h, s _ _ hu, hp.mono fun _ _ r => r.tup s⟩
  | .call, a, vs, ⟨u, f, as, e, h, hu⟩ => ⟨u, f, as, e, s _ _ h, s _ _ hu⟩
  | .pick, a, vs, ⟨x, y, z, e, h⟩ => ⟨x, y, z, e, s _ _ h⟩
  | .now, a, vs, ⟨x, e, h⟩ => ⟨x, e, s _ _ h⟩
def Tg.kind : Tg → Str
  | .num _ => "num"
  | .free _ => "free"
  | .seen _ => "seen"
  | .fn _ => "fn"
  | .call => "call"
  | .pick => "pick"
  | .now => "now"
mutual
def CoIn (H : Hp) : Co → V → Prop
  | .mk t ks, v => ∃ a vs, v = .ref a ∧ CoAt H t a vs ∧ CosIn H ks vs
def CosIn (H : Hp) : List Co → List V → Prop
  | [], vs => vs = []
  | k :: ks, vs => ∃ x xs, vs = x :: xs ∧ CoIn H k x ∧ CosIn H ks xs
end
mutual
theorem CoIn.tup {H H' : Hp} (s : Tup H H') : ∀ {c : Co} {v : V}, CoIn H c v → CoIn H' c v
  | .mk t ks, v, h => by
    unfold CoIn at h ⊢
    obtain ⟨a, vs, e, h1, h2⟩ := h
    exact ⟨a, vs, e, h1.tup s, CosIn.tup s h2⟩
theorem CosIn.tup {H H' : Hp} (s : Tup H H') : ∀ {ks : List Co} {vs : List V}, CosIn H ks vs → CosIn H' ks vs
  | [], vs, h => by unfold CosIn at h ⊢; exact h
  | k :: ks, vs, h => by
    unfold CosIn at h ⊢
    obtain ⟨x, xs, e, h1, h2⟩ := h
    exact ⟨x, xs, e, CoIn.tup s h1, CosIn.tup s h2⟩
end
theorem CosIn.al {H : Hp} : ∀ {ks : List Co} {vs : List V}, CosIn H ks vs → Al (CoIn H) ks vs
  | [], vs, h => by unfold CosIn at h; subst h; exact Al.nil
  | k :: ks, vs, h => by
    unfold CosIn at h
    obtain ⟨x, xs, rfl, h1, h2⟩ := h
    exact Al.cons h1 (CosIn.al h2)
theorem CosIn.of {H : Hp} : ∀ {ks : List Co} {vs : List V}, Al (CoIn H) ks vs → CosIn H ks vs
  | [], vs, h => by unfold CosIn; exact h.nil_of
  | k :: ks, vs, h => by
    unfold CosIn
    obtain ⟨x, xs, rfl, h1, h2⟩ := h.uncons
    exact ⟨x, xs, rfl, h1, CosIn.of h2⟩
theorem CoIn.cut {H : Hp} {t : Tg} {ks : List Co} {v : V} (h : CoIn H (.mk t ks) v) : ∃ a vs, v = .ref a ∧ CoAt H t a vs ∧ Al (CoIn H) ks vs := by
  unfold CoIn at h
  obtain ⟨a, vs, e, h1, h2⟩ := h
  exact ⟨a, vs, e, h1, h2.al⟩
theorem CoIn.mk' {H : Hp} {t : Tg} {ks : List Co} {a : Addr} {vs : List V} (h1 : CoAt H t a vs) (h2 : Al (CoIn H) ks vs) : CoIn H (.mk t ks) (.ref a) := by
  unfold CoIn
  exact ⟨a, vs, rfl, h1, CosIn.of h2⟩
def Co.tg : Co → Tg
  | .mk t _ => t
def Co.ks : Co → List Co
  | .mk _ ks => ks
mutual
def sz : Co → Nat
  | .mk _ ks => 1 + szs ks
def szs : List Co → Nat
  | [] => 0
  | k :: ks => sz k + szs ks
end
mutual
def pre : Co → List Co
  | .mk t ks => .mk t ks :: pres ks
def pres : List Co → List Co
  | [] => []
  | k :: ks => pre k ++ pres ks
end
theorem szs_cons (k : Co) (ks : List Co) : szs (k :: ks) = sz k + szs ks := by rw [szs]
theorem sz_mk (t : Tg) (ks : List Co) : sz (.mk t ks) = 1 + szs ks := by rw [sz]
theorem pre_eq (t : Tg) (ks : List Co) : pre (.mk t ks) = .mk t ks :: pres ks := by rw [pre]
theorem pres_cons (k : Co) (ks : List Co) : pres (k :: ks) = pre k ++ pres ks := by rw [pres]
theorem szs_append : ∀ (xs ys : List Co), szs (xs ++ ys) = szs xs + szs ys
  | [], ys => by simp [szs]
  | x :: xs, ys => by
    show szs (x :: (xs ++ ys)) = _
    rw [szs_cons, szs_cons, szs_append xs ys]; omega
theorem szs_reverse : ∀ (xs : List Co), szs xs.reverse = szs xs
  | [] => rfl
  | x :: xs => by
    rw [List.reverse_cons, szs_append, szs_reverse xs]
    simp only [szs]
    omega
theorem pres_append : ∀ (xs ys : List Co), pres (xs ++ ys) = pres xs ++ pres ys
  | [], ys => by simp [pres]
  | x :: xs, ys => by
    show pres (x :: (xs ++ ys)) = _
    simp only [pres]
    rw [pres_append xs ys, List.append_assoc]
mutual
theorem pre_len : ∀ (c : Co), (pre c).length = sz c
  | .mk t ks => by
    unfold pre sz
    rw [List.length_cons, pres_len ks]; omega
theorem pres_len : ∀ (cs : List Co), (pres cs).length = szs cs
  | [] => by simp [pres, szs]
  | c :: cs => by
    unfold pres szs
    rw [List.length_append, pre_len c, pres_len cs]
end
theorem pre_self (c : Co) : c ∈ pre c := by cases c; unfold pre; exact List.mem_cons_self ..
theorem mem_pres : ∀ {cs : List Co} {d : Co}, d ∈ pres cs ↔ ∃ c ∈ cs, d ∈ pre c
  | [], d => by simp [pres]
  | c :: cs, d => by
    unfold pres
    rw [List.mem_append, mem_pres (cs := cs)]
    simp
theorem pre_mk {t : Tg} {ks : List Co} {d : Co} : d ∈ pre (.mk t ks) ↔ d = .mk t ks ∨ ∃ k ∈ ks, d ∈ pre k := by
  rw [pre_eq, List.mem_cons, mem_pres]
/-! ### what is taken -/
def nm : Co → Option Str
  | .mk (.free n) _ => some n
  | .mk (.fn _) _ => some "fn"
  | .mk .pick _ => some "pick"
  | .mk .now _ => some "now"
  | _ => none
/-- a dict's strs -/
def Ks (kvs : List (Key × V)) (U : Str → Prop) : Prop := ∀ n : Str, (valV kvs (.inr n)).isSome = true ↔ U n
theorem Ks.nil : Ks [] (fun _ => False) := fun n => by rw [valV_nil]; simp
theorem Ks.put {kvs : List (Key × V)} {U : Str → Prop} (h : Ks kvs U) (x : Str) (v : V) : Ks (putK kvs (.inr x) v) (fun n => n = x ∨ U n) := fun n => by
  rw [valV_put]
  by_cases e : n = x
  · subst e; simp
  · rw [if_neg (fun z => e (Sum.inr.inj z)), h n]
    constructor
    · exact .inr
    · rintro (z | z)
      · exact absurd z e
      · exact z
theorem Ks.iff {kvs : List (Key × V)} {U U' : Str → Prop} (h : Ks kvs U) (e : ∀ n, U n ↔ U' n) : Ks kvs U' := fun n => (h n).trans (e n)
/-! ### numbered names -/
def nbn (n : Str) (m : Int) : Str := if m = 1 then n else n ++ Str.ofString (toString m)
theorem text_inj {a b : Int} (ha : 0 ≤ a) (hb : 0 ≤ b) (h : Str.ofString (toString a) = Str.ofString (toString b)) : a = b := by
  obtain ⟨m, rfl⟩ := Int.eq_ofNat_of_zero_le ha
  obtain ⟨k, rfl⟩ := Int.eq_ofNat_of_zero_le hb
  have e1 := PySem.W.KIN.signs_num m
  have e2 := PySem.W.KIN.signs_num k
  have e3 : (Nat.toDigits 10 m).map Char.toNat = (Nat.toDigits 10 k).map Char.toNat := by rw [← e1, ← e2]; exact congrArg (fun z : Str => z.cps.toList) h
  have e4 := PySem.W.KIN.val_back m
  have e5 := PySem.W.KIN.val_back k
  rw [e3, e5] at e4
  rw [e4]
theorem text_len {k : Int} (h0 : 0 ≤ k) : (Str.ofString (toString k)).length ≤ k.toNat + 1 ∧ 1 ≤ (Str.ofString (toString k)).length := by
  obtain ⟨m, rfl⟩ : ∃ m : Nat, k = (m : Int) := ⟨k.toNat, by omega⟩
  have e : (Str.ofString (toString (m : Int))).length = (Str.ofString (toString (m : Int))).cps.toList.length := by simp [Str.length]
  rw [e, PySem.W.KIN.signs_num, List.length_map]
  have h1 := PySem.toDigits_len_le 10 m
  have h3 : 1 ≤ (Nat.toDigits 10 m).length := PyProof.Rows.tDigits_len_ge 10 m
  constructor
  · have : ((m : Nat) : Int).toNat = m := by omega
    omega
  · omega
theorem str_cat_len (x y : Str) : (x ++ y).length = x.length + y.length := by
  rw [← cpl_len, cpl_cat, List.length_append, cpl_len, cpl_len]
theorem str_cat_inj {x y z : Str} (h : x ++ y = x ++ z) : y = z := by
  apply cpl_inj
  have := congrArg cpl h
  rw [cpl_cat, cpl_cat] at this
  exact List.append_cancel_left this
theorem nbn_inj {n : Str} {a b : Int} (ha : 1 ≤ a) (hb : 1 ≤ b) (h : nbn n a = nbn n b) : a = b := by
  have no : ∀ c : Int, 1 ≤ c → n ++ Str.ofString (toString c) ≠ n := fun c hc e => by
    have h1 := congrArg Str.length e
    rw [str_cat_len] at h1
    have := (text_len (k := c) (by omega)).2
    omega
  unfold nbn at h
  by_cases h1 : a = 1
  · by_cases h2 : b = 1
    · omega
    · rw [if_pos h1, if_neg h2] at h
      exact absurd h.symm (no b hb)
  · by_cases h2 : b = 1
    · rw [if_neg h1, if_pos h2] at h
      exact absurd h (no a ha)
    · rw [if_neg h1, if_neg h2] at h
      exact text_inj (by omega) (by omega) (str_cat_inj h)
theorem nbn_len (n : Str) {m : Int} (h : 1 ≤ m) : (nbn n m).length ≤ n.length + (m.toNat + 1) := by
  unfold nbn
  split
  · omega
  · rw [str_cat_len]
    have := (text_len (k := m) (by omega)).1
    omega
theorem pig : ∀ (l ks : List Str), l.Nodup → (∀ x ∈ l, x ∈ ks) → l.length ≤ ks.length
  | [], ks, _, _ => Nat.zero_le _
  | x :: l, ks, hn, hs => by
    have hx : x ∈ ks := hs x (List.mem_cons_self ..)
    rw [List.nodup_cons] at hn
    have h1 := pig l (ks.erase x) hn.2 fun y hy => (List.mem_erase_of_ne (fun e : y = x => hn.1 (by rw [← e]; exact hy))).mpr (hs y (List.mem_cons_of_mem _ hy))
    have h2 := List.length_erase_of_mem hx
    have h3 : 0 < ks.length := List.length_pos_of_mem hx
    rw [List.length_cons]
    omega
theorem keys_mem {kvs : List (Key × V)} {n : Str} (h : (valV kvs (.inr n)).isSome = true) : n ∈ kvs.filterMap fun kv => match kv.1 with | .inr x => some x | _ => none := by
  cases e : valV kvs (.inr n) with
  | none => rw [e] at h; exact nomatch h
  | some v =>
    have := valV_in e
    obtain ⟨p, hp, e2⟩ := List.mem_map.mp this
    rw [List.mem_filterMap]
    exact ⟨p, hp, by rw [e2]⟩
/-- of so many numbers one is not used -/
theorem one_free (kvs : List (Key × V)) (n : Str) {k : Int} (hk : 1 ≤ k) : ∃ j : Nat, j ≤ kvs.length ∧ valV kvs (.inr (nbn n (k + (j : Int)))) = none := by
  apply Classical.byContradiction
  intro hno
  have all : ∀ j : Nat, j ≤ kvs.length → (valV kvs (.inr (nbn n (k + (j : Int))))).isSome = true := fun j hj => by
    cases e : valV kvs (.inr (nbn n (k + (j : Int)))) with
    | none => exact absurd ⟨j, hj, e⟩ hno
    | some v => rfl
  have h1 := pig ((List.range (kvs.length + 1)).map fun j : Nat => nbn n (k + (j : Int))) (kvs.filterMap fun kv => match kv.1 with | .inr x => some x | _ => none) ?_ ?_
  · rw [List.length_map, List.length_range] at h1
    have := List.length_filterMap_le (fun kv : Key × V => match kv.1 with | .inr x => some x | _ => none) kvs
    omega
  · refine List.Pairwise.map _ (fun (a b : Nat) (hab : a ≠ b) e => hab ?_) List.nodup_range
    have := nbn_inj (by omega) (by omega) e
    omega
  · intro x hx
    obtain ⟨j, hj, rfl⟩ := List.mem_map.mp hx
    exact keys_mem (all j (by rw [List.mem_range] at hj; omega))
/-- the first number that is not used -/
def Lst (U : Str → Prop) (n : Str) (m : Int) : Prop := 1 ≤ m ∧ ¬ U (nbn n m) ∧ ∀ j : Int, 1 ≤ j → j < m → U (nbn n j)
inductive NT (U0 : Str → Prop) : List (Int × Str) → List (Int × Str) → (Str → Prop) → Prop where
  | nil : NT U0 [] [] U0
  | snoc {ps r : List (Int × Str)} {U : Str → Prop} {p : Int} {n : Str} {m : Int} (h : NT U0 ps r U) (hm : Lst U n m) : NT U0 (ps ++ [(p, n)]) (r ++ [(p, nbn n m)]) (fun x => x = nbn n m ∨ U x)
theorem NT.len {U0 : Str → Prop} {ps r : List (Int × Str)} {U : Str → Prop} (h : NT U0 ps r U) : r.length = ps.length := by
  induction h with
  | nil => rfl
  | snoc h hm ih => rw [List.length_append, List.length_append, ih]; rfl
/-- put into a dict one by one -/
def puts (kvs : List (Key × V)) (r : List (Int × Str)) : List (Key × V) := r.foldl (fun acc pn => putK acc (.inl (some pn.1)) (.str pn.2)) kvs
theorem puts_snoc (kvs : List (Key × V)) (r : List (Int × Str)) (p : Int) (n : Str) : puts kvs (r ++ [(p, n)]) = putK (puts kvs r) (.inl (some p)) (.str n) := by
  unfold puts
  rw [List.foldl_append]; rfl
theorem puts_len (kvs : List (Key × V)) : ∀ (r : List (Int × Str)), (puts kvs r).length ≤ kvs.length + r.length := by
  intro r
  unfold puts
  induction r generalizing kvs with
  | nil => exact Nat.le_refl _
  | cons x r ih =>
    rw [List.foldl_cons, List.length_cons]
    have h1 := ih (putK kvs (.inl (some x.1)) (.str x.2))
    have h2 := length_putK kvs (.inl (some x.1)) (.str x.2)
    omega
/-- a dict of names -/
def Strs (kvs : List (Key × V)) : Prop := ∀ k v, valV kvs k = some v → ∃ n : Str, v = .str n
theorem Strs.nil : Strs [] := fun k v e => by rw [valV_nil] at e; exact nomatch e
theorem Strs.put {kvs : List (Key × V)} (h : Strs kvs) (k : Key) (n : Str) : Strs (putK kvs k (.str n)) := fun j v e => by
  rw [valV_put] at e
  split at e
  · exact ⟨n, (Option.some.inj e).symm⟩
  · exact h j v e
theorem Strs.puts : ∀ (r : List (Int × Str)) {kvs : List (Key × V)}, Strs kvs → Strs (puts kvs r)
  | [], kvs, h => h
  | x :: r, kvs, h => by
    show Strs (K72.puts (putK kvs (.inl (some x.1)) (.str x.2)) r)
    exact Strs.puts r (h.put _ _)
/-! ### items -/
inductive It where
  | defi (p : Int) (n : Str) (c : Co)
  | shw (c : Co)
def It.core : It → Co
  | .defi _ _ c => c
  | .shw c => c
def It.top : It → Option (Int × Str)
  | .defi p n _ => some (p, n)
  | .shw _ => none
def ItIn (H : Hp) : It → V → Prop
  | .defi p n c, v => ∃ t cv, v = .ref t ∧ H t = some (.tup [.str "def", .int p, .str n, cv]) ∧ CoIn H c cv
  | .shw c, v => ∃ t cv, v = .ref t ∧ H t = some (.tup [.str "show", cv]) ∧ CoIn H c cv
theorem ItIn.tup {H H' : Hp} (s : Tup H H') : ∀ {it : It} {v : V}, ItIn H it v → ItIn H' it v
  | .defi p n c, v, ⟨t, cv, e, h, hc⟩ => ⟨t, cv, e, s _ _ h, hc.tup s⟩
  | .shw c, v, ⟨t, cv, e, h, hc⟩ => ⟨t, cv, e, s _ _ h, hc.tup s⟩
theorem ItIn.last {K : PySem.W.Frag} {H : Hp} : ∀ {it : It} {v : V}, ItIn H it v → ∃ t xs cv, v = .ref t ∧ SqT K H t xs ∧ atI xs (-1) = some cv ∧ CoIn H it.core cv
  | .defi p n c, v, ⟨t, cv, e, h, hc⟩ => ⟨t, _, cv, e, SqT.of h, rfl, hc⟩
  | .shw c, v, ⟨t, cv, e, h, hc⟩ => ⟨t, _, cv, e, SqT.of h, rfl, hc⟩
def tops (its : List It) : List (Int × Str) := its.filterMap It.top
def cores (its : List It) : List Co := its.flatMap fun it => pre it.core
/-- what is taken by the cores -/
def UI (its : List It) : Str → Prop := fun x => ∃ d ∈ cores its, nm d = some x
theorem tops_len (its : List It) : (tops its).length ≤ its.length := List.length_filterMap_le ..
/-- what is taken by a core, where these have names -/
def nmS (kvs : List (Key × V)) (d : Co) (x : Str) : Prop := nm d = some x ∨ ∃ p ks, d = .mk (.seen p) ks ∧ valV kvs (.inl (some p)) = some (.str x)
def parms : Co → List (Int × Str)
  | .mk (.fn ps) _ => ps
  | _ => []
/-- fns named one behind the other -/
inductive FN : List (Key × V) → List Co → List (Key × V) → Prop where
  | nil {k : List (Key × V)} : FN k [] k
  | skip {k k' : List (Key × V)} {d : Co} {cs : List Co} (hd : ∀ ps ks, d ≠ .mk (.fn ps) ks) (h : FN k cs k') : FN k (d :: cs) k'
  | fn {k k' : List (Key × V)} {ps r : List (Int × Str)} {b : Co} {U : Str → Prop} {cs : List Co} (hn : NT (fun x => ∃ e ∈ pre b, nmS k e x) ps r U) (h : FN (puts k r) cs k') : FN k (.mk (.fn ps) [b] :: cs) k'
theorem FN.append {k k1 k2 : List (Key × V)} {xs ys : List Co} (h : FN k xs k1) (g : FN k1 ys k2) : FN k (xs ++ ys) k2 := by
  induction h with
  | nil => exact g
  | skip hd h ih => exact .skip hd (ih g)
  | fn hn h ih => exact .fn hn (ih g)
theorem FN.split {ys : List Co} : ∀ {xs : List Co} {k k2 : List (Key × V)}, FN k (xs ++ ys) k2 → ∃ k1, FN k xs k1 ∧ FN k1 ys k2
  | [], k, k2, h => ⟨k, .nil, h⟩
  | x :: xs, k, k2, h => by
    cases h with
    | skip hd h =>
      obtain ⟨k1, h1, h2⟩ := FN.split h
      exact ⟨k1, .skip hd h1, h2⟩
    | fn hn h =>
      obtain ⟨k1, h1, h2⟩ := FN.split h
      exact ⟨k1, .fn hn h1, h2⟩
theorem FN.strs {k k' : List (Key × V)} {cs : List Co} (h : FN k cs k') : Strs k → Strs k' := by
  induction h with
  | nil => exact id
  | skip hd h ih => exact ih
  | fn hn h ih => exact fun z => ih (Strs.puts _ z)
theorem FN.len {k k' : List (Key × V)} {cs : List Co} (h : FN k cs k') : k'.length ≤ k.length + (cs.flatMap parms).length := by
  induction h with
  | nil => exact Nat.le_refl _
  | skip hd h ih => rw [List.flatMap_cons, List.length_append]; omega
  | @fn k k' ps r b U cs hn h ih =>
    have h1 := puts_len k r
    have h2 := hn.len
    rw [List.flatMap_cons, List.length_append]
    show k'.length ≤ k.length + (ps.length + _)
    omega
/-- items that are not too many -/
structure Its (its : List It) : Prop where
  len : its.length ≤ 200
  csz : (cores its).length ≤ 100000
  tnm : ∀ p n, (p, n) ∈ tops its → n.length ≤ 100
  pnm : ∀ d ∈ cores its, ∀ x ∈ parms d, x.2.length ≤ 100
  pln : ∀ d ∈ cores its, (parms d).length ≤ 20
theorem log_small {i : Int} (h0 : 0 ≤ i) (h : i < 10 ^ 100) : i.natAbs.log2 < 1920 := by
  by_cases e : i.natAbs = 0
  · rw [e]; decide
  · rw [Nat.log2_lt e]
    have h1 : (i.natAbs : Int) < ((10 ^ 100 : Nat) : Int) := by rw [Int.natAbs_of_nonneg h0]; exact_mod_cast h
    have h2 : i.natAbs < 10 ^ 100 := by exact_mod_cast h1
    exact Nat.lt_trans h2 (by decide)
end K72

set_option Elab.async false
set_option linter.all false
set_option maxRecDepth 100000
set_option maxHeartbeats 4000000
set_option exponentiation.threshold 3000
/-! k72: inner_cores, cores_within, numbered_name. Own work. -/
namespace K72
open PySem L2 Builtin.Str
theorem dec_I {i j : Int} : decide (V.int i = V.int j) = decide (i = j) := by
  by_cases h : i = j
  · rw [decide_eq_true h, decide_eq_true (by rw [h])]
  · rw [decide_eq_false h, decide_eq_false (fun e => h (V.int.inj e))]
theorem yes_if {σ : St} {H : Hp} {A B : Hp → Prop} (h : A H) : tYes σ H (fun b H3 => if b = true then A H3 else B H3) := by
  show if true = true then A H else B H
  rw [if_pos rfl]; exact h
theorem last_at {α : Type} (xs : List α) (x : α) : (xs ++ [x])[(xs ++ [x]).length - 1]? = some x := by
  rw [List.length_append, List.length_singleton, Nat.add_sub_cancel, List.getElem?_append_right (Nat.le_refl _), Nat.sub_self]; rfl
theorem last_ref {xs : List V} {v : V} : atI (xs ++ [v]) (-1) = some v := by
  unfold atI ixN
  rw [if_neg (by decide), if_pos (by rw [List.length_append, List.length_singleton]; omega)]
  show (xs ++ [v])[(-1 + ((xs ++ [v]).length : Int)).toNat]? = some v
  rw [show (-1 + ((xs ++ [v]).length : Int)).toNat = xs.length by rw [List.length_append, List.length_singleton]; omega, List.getElem?_append_right (Nat.le_refl _), Nat.sub_self]
  rfl
theorem cut_tail (x : V) (xs : List V) : cutV (x :: xs) (some 1) none = xs := by
  unfold cutV
  rw [HT.sIx_none]
  have e : HT.sIx (x :: xs).length 0 (some 1) = 1 := by
    have := HT.sIx_nat (x :: xs).length 0 1
    rw [List.length_cons] at this ⊢
    rw [show (some (1 : Int)) = some (((1 : Nat) : Int)) from rfl, this]
    omega
  rw [e, List.length_cons, Nat.add_sub_cancel]
  show xs.take xs.length = xs
  exact List.take_length
theorem cut_no (x : V) (xs : List V) : ¬ (HT.sIx (x :: xs).length 0 (some 1) = 0 ∧ HT.sIx (x :: xs).length (x :: xs).length none = (x :: xs).length) := fun h => by
  have := HT.sIx_nat (x :: xs).length 0 1
  rw [List.length_cons] at this
  have h1 := h.1
  rw [show (some (1 : Int)) = some (((1 : Nat) : Int)) from rfl, List.length_cons, this] at h1
  omega
def spInner : Sp := fun vs H Q _ => ∃ (v : V) (t : Tg) (ks : List Co), vs = [v] ∧ CoIn H (.mk t ks) v ∧ ks.length ≤ 100000 ∧ ∀ (H' : Hp) (D : Addr) (xs : List V), Same H H' → H D = none → H' D = some (.lst xs) → Al (CoIn H') ks xs → Q (.ref D) H'
def spWithin : Sp := fun vs H Q _ => ∃ (v : V) (c : Co), vs = [v] ∧ CoIn H c v ∧ sz c ≤ 100000 ∧ ∀ (H' : Hp) (D : Addr) (xs : List V), Same H H' → H D = none → H' D = some (.lst xs) → Al (CoIn H') (pre c) xs → Q (.ref D) H'
def spNbn : Sp := fun vs H Q _ => ∃ (n : Str) (m : Int), vs = [.str n, .int m] ∧ 1 ≤ m ∧ m ≤ 300000 ∧ n.length ≤ 100 ∧ Q (.str (nbn n m)) H
section
variable {P : Program} {w : World} {K : PySem.W.Frag} {mg : Str → Option Value} {base : Heap}
theorem scInner : FnScope ["core"] ["core"] (defScope sInner) := ⟨rfl, rfl, rfl, by decide +kernel, rfl, by decide +kernel, by decide +kernel⟩
theorem ok_inner {f : Addr} {fd : FuncData} (F : Fun K "inner_cores" "inner_cores" sInner f fd) (T : Txt mg) : FnOk P w K mg base CX0 1 f fd ["core"] spInner := by
  refine F.ok scInner (fun vs H Q E h => ?_) (fun cdv A outer s H vs Q E hr h => ?_)
  · obtain ⟨v, t, ks, rfl, _⟩ := h; rfl
  · obtain ⟨v, t, ks, rfl, hc, hk, q⟩ := h
    obtain ⟨a, vs, rfl, hat, hal⟩ := hc.cut
    have z1 : 1 ≤ sizeLine := by rw [sizeLine_eq]; decide
    have z2 : 2 ≤ sizeLine := by rw [sizeLine_eq]; decide
    refine ⟨_, pss_cons (ps_if (pt_cmpR op_eq (pe_ix ix_tup (pv 0) pe_int (fun _ _ => rfl)) pe_str (nomark _))
      (pss_one (ps_ret (pe_lst (pa_cons (pe_ix ix_tup (pv 0) pe_int (fun _ _ => rfl)) pa_nil))))
      pss_nil)
      (pss_cons (ps_if (pt_cmpR op_eq (pe_ix ix_tup (pv 0) pe_int (fun _ _ => rfl)) pe_str (nomark _))
      (pss_one (ps_ret (pe_op op_cat (pe_lst (pa_cons (pe_ix ix_tup (pv 0) pe_int (fun _ _ => rfl)) pa_nil)) (pe_callTy call_list_of (by rfl) T.list bt_list (pa_cons (pe_ix ix_tup (pv 0) pe_int (fun _ _ => rfl)) pa_nil)))))
      pss_nil)
      (pss_cons (ps_if (pt_cmpR op_in_seq (pe_ix ix_tup (pv 0) pe_int (fun _ _ => rfl)) (pe_tup (pa_cons pe_str (pa_cons pe_str pa_nil))) rfl)
      (pss_one (ps_ret (pe_callTy call_list_of (by rfl) T.list bt_list (pa_cons (pe_slice sl_tup (pv 0) (po_some pe_int) po_none) pa_nil))))
      pss_nil)
      (pss_one (ps_ret (pe_lst pa_nil))))), ?_⟩
    cases t with
    | num z =>
      obtain ⟨rfl, ha⟩ := hat
      refine ⟨_, rfl, a, _, _, _, rfl, rfl, SqT.of ha, rfl, rfl, false, rfl, iteF ?_⟩
      refine ⟨_, rfl, a, _, _, _, rfl, rfl, SqT.of ha, rfl, rfl, false, rfl, iteF ?_⟩
      refine ⟨_, rfl, a, _, _, _, rfl, rfl, SqT.of ha, rfl, z2, fun p hp => ?_⟩
      refine ⟨p, _, rfl, .inr (SqT.of upd_same), rfl, rfl, false, rfl, iteF ⟨Nat.zero_le _, fun D hD => ?_⟩⟩
      have s2 := (same_upd (o := .tup [.str "pick", .str "now"]) hp).trans (same_upd (o := .lst []) hD)
      exact q _ D [] s2 ((same_upd hp).free hD) upd_same (hal.mono fun _ _ r => r.tup (Tup.of s2))
    | free z =>
      obtain ⟨rfl, ha⟩ := hat
      refine ⟨_, rfl, a, _, _, _, rfl, rfl, SqT.of ha, rfl, rfl, false, rfl, iteF ?_⟩
      refine ⟨_, rfl, a, _, _, _, rfl, rfl, SqT.of ha, rfl, rfl, false, rfl, iteF ?_⟩
      refine ⟨_, rfl, a, _, _, _, rfl, rfl, SqT.of ha, rfl, z2, fun p hp => ?_⟩
      refine ⟨p, _, rfl, .inr (SqT.of upd_same), rfl, rfl, false, rfl, iteF ⟨Nat.zero_le _, fun D hD => ?_⟩⟩
      have s2 := (same_upd (o := .tup [.str "pick", .str "now"]) hp).trans (same_upd (o := .lst []) hD)
      exact q _ D [] s2 ((same_upd hp).free hD) upd_same (hal.mono fun _ _ r => r.tup (Tup.of s2))
    | seen z =>
      obtain ⟨rfl, ha⟩ := hat
      refine ⟨_, rfl, a, _, _, _, rfl, rfl, SqT.of ha, rfl, rfl, false, rfl, iteF ?_⟩
      refine ⟨_, rfl, a, _, _, _, rfl, rfl, SqT.of ha, rfl, rfl, false, rfl, iteF ?_⟩
      refine ⟨_, rfl, a, _, _, _, rfl, rfl, SqT.of ha, rfl, z2, fun p hp => ?_⟩
      refine ⟨p, _, rfl, .inr (SqT.of upd_same), rfl, rfl, false, rfl, iteF ⟨Nat.zero_le _, fun D hD => ?_⟩⟩
      have s2 := (same_upd (o := .tup [.str "pick", .str "now"]) hp).trans (same_upd (o := .lst []) hD)
      exact q _ D [] s2 ((same_upd hp).free hD) upd_same (hal.mono fun _ _ r => r.tup (Tup.of s2))
    | fn ps =>
      obtain ⟨u, pv', b, rfl, ha, hu, hp⟩ := hat
      refine ⟨_, rfl, a, _, _, _, rfl, rfl, SqT.of ha, rfl, rfl, true, rfl, iteT ?_⟩
      refine ⟨_, rfl, a, _, _, _, rfl, rfl, SqT.of ha, rfl, z1, fun D hD => ?_⟩
      exact q _ D [b] (same_upd hD) hD upd_same (hal.mono fun _ _ r => r.tup (Tup.of (same_upd hD)))
    | call =>
      obtain ⟨u, f', as, rfl, ha, hu⟩ := hat
      refine ⟨_, rfl, a, _, _, _, rfl, rfl, SqT.of ha, rfl, rfl, false, rfl, iteF ?_⟩
      refine ⟨_, rfl, a, _, _, _, rfl, rfl, SqT.of ha, rfl, rfl, true, rfl, iteT ?_⟩
      refine ⟨_, rfl, a, _, _, _, rfl, rfl, SqT.of ha, rfl, z1, fun l hl => ?_⟩
      have s1 := same_upd (o := .lst [f']) hl
      refine ⟨_, rfl, a, _, _, _, rfl, rfl, SqT.of (s1 _ _ ha), rfl, u, as, rfl, .inr (SqT.of (s1 _ _ hu)), fun l2 hl2 => ?_⟩
      have s2 := same_upd (o := .lst as) hl2
      have hlen : as.length + 1 = ks.length := hal.1
      refine ⟨l, l2, [f'], as, rfl, rfl, s2 _ _ upd_same, upd_same, by rw [sizeLine_eq]; show 1 + as.length ≤ _; omega, fun D hD => ?_⟩
      have s3 := same_upd (o := .lst ([f'] ++ as)) hD
      have s := (s1.trans s2).trans s3
      exact q _ D (f' :: as) s ((s1.trans s2).free hD) upd_same (hal.mono fun _ _ r => r.tup (Tup.of s))
    | pick =>
      obtain ⟨x, y, z, rfl, ha⟩ := hat
      refine ⟨_, rfl, a, _, _, _, rfl, rfl, SqT.of ha, rfl, rfl, false, rfl, iteF ?_⟩
      refine ⟨_, rfl, a, _, _, _, rfl, rfl, SqT.of ha, rfl, rfl, false, rfl, iteF ?_⟩
      refine ⟨_, rfl, a, _, _, _, rfl, rfl, SqT.of ha, rfl, z2, fun p hp => ?_⟩
      have s1 := same_upd (o := .tup [.str "pick", .str "now"]) hp
      refine ⟨p, _, rfl, .inr (SqT.of upd_same), rfl, rfl, true, rfl, iteT ?_⟩
      refine ⟨_, rfl, _, rfl, a, _, rfl, SqT.of (s1 _ _ ha), cut_no _ _, fun p2 hp2 => ?_⟩
      have s2 := same_upd (o := .tup [x, y, z]) hp2
      refine ⟨p2, [x, y, z], rfl, .inr (SqT.of upd_same), fun D hD => ?_⟩
      have s := (s1.trans s2).trans (same_upd (o := .lst [x, y, z]) hD)
      exact q _ D [x, y, z] s ((s1.trans s2).free hD) upd_same (hal.mono fun _ _ r => r.tup (Tup.of s))
    | now =>
      obtain ⟨x, rfl, ha⟩ := hat
      refine ⟨_, rfl, a, _, _, _, rfl, rfl, SqT.of ha, rfl, rfl, false, rfl, iteF ?_⟩
      refine ⟨_, rfl, a, _, _, _, rfl, rfl, SqT.of ha, rfl, rfl, false, rfl, iteF ?_⟩
      refine ⟨_, rfl, a, _, _, _, rfl, rfl, SqT.of ha, rfl, z2, fun p hp => ?_⟩
      have s1 := same_upd (o := .tup [.str "pick", .str "now"]) hp
      refine ⟨p, _, rfl, .inr (SqT.of upd_same), rfl, rfl, true, rfl, iteT ?_⟩
      refine ⟨_, rfl, _, rfl, a, _, rfl, SqT.of (s1 _ _ ha), cut_no _ _, fun p2 hp2 => ?_⟩
      have s2 := same_upd (o := .tup [x]) hp2
      refine ⟨p2, [x], rfl, .inr (SqT.of upd_same), fun D hD => ?_⟩
      have s := (s1.trans s2).trans (same_upd (o := .lst [x]) hD)
      exact q _ D [x] s ((s1.trans s2).free hD) upd_same (hal.mono fun _ _ r => r.tup (Tup.of s))
theorem scNbn : FnScope ["name", "number"] ["name", "number"] (defScope sNumbered) := ⟨rfl, rfl, rfl, by decide +kernel, rfl, by decide +kernel, by decide +kernel⟩
theorem ok_nbn {f : Addr} {fd : FuncData} (F : Fun K "numbered_name" "numbered_name" sNumbered f fd) : FnOk P w K mg base CX0 1 f fd ["name", "number"] spNbn := by
  refine F.ok scNbn (fun vs H Q E h => ?_) (fun cdv A outer s H vs Q E hr h => ?_)
  · obtain ⟨n, m, rfl, _⟩ := h; rfl
  · obtain ⟨n, m, rfl, m1, m2, hn, q⟩ := h
    refine ⟨_, pss_one (ps_ret (pe_ifExp (pt_cmpR op_eq (pv 1) pe_int (nomark _)) (pv 0) (pe_fstr2 (pv 0) (pv 1)))), ?_⟩
    unfold nbn at q
    refine ⟨_, rfl, rfl, decide (m = 1), by rw [dec_I], ite2 (fun c1 => ?_) (fun c1 => ?_)⟩
    · rw [if_pos (of_decide_eq_true c1)] at q
      exact ⟨_, rfl, q⟩
    · rw [if_neg (fun z => c1 (decide_eq_true z))] at q
      have hlog : m.natAbs.log2 < 1920 := log_small (by omega) (Int.lt_of_le_of_lt m2 (by decide))
      have hlen := (text_len (k := m) (by omega)).1
      refine ⟨_, rfl, n, rfl, by rw [sizeLine_eq]; omega, _, rfl, m, rfl, hlog, ?_, q⟩
      rw [str_cat_len, sizeLine_eq]; omega
theorem len_szs : ∀ (cs : List Co), cs.length ≤ szs cs
  | [] => Nat.le_refl _
  | .mk t ks :: cs => by
    have := len_szs cs
    simp only [szs, sz, List.length_cons]
    omega
/-- the walk's state -/
def WithinW (H : Hp) (c : Co) (v0 : V) (D1 D2 : Addr) (m : Nat) (σ : St) (H5 : Hp) : Prop := ∃ (v3 : Option V) (xs ls : List V) (done st : List Co), σ = [some v0, some (.ref D1), some (.ref D2), v3] ∧ Same H H5 ∧ H5 D1 = some (.lst xs) ∧ H5 D2 = some (.lst ls) ∧
  Al (CoIn H5) done xs ∧ Al (CoIn H5) st ls ∧ pre c = done ++ pres st.reverse ∧ m = szs st
abbrev NWithin : List Str := ["core", "found", "left", "inner"]
theorem scWithin : FnScope NWithin ["core"] (defScope sWithin) := ⟨rfl, rfl, rfl, by decide +kernel, rfl, by decide +kernel, by decide +kernel⟩
theorem ok_within {f fI : Addr} {fd fdI : FuncData} (F : Fun K "cores_within" "cores_within" sWithin f fd) (T : Txt mg)
    (FI : Fun K "inner_cores" "inner_cores" sInner fI fdI) (bI : Binds K fdI ["core"] []) (mI : mg "inner_cores" = some (.ref fI)) : FnOk P w K mg base CX0 2 f fd ["core"] spWithin := by
  have GI : FnOk P w K mg base CX0 1 fI fdI ["core"] spInner := ok_inner FI T
  refine F.ok scWithin (fun vs H Q E h => ?_) (fun cdv A outer s H vs Q E hr h => ?_)
  · obtain ⟨v, c, rfl, _⟩ := h; rfl
  · obtain ⟨v0, c, rfl, hc, hsz, q⟩ := h
    have nd := scWithin.nd
    have z1 : 1 ≤ sizeLine := by rw [sizeLine_eq]; decide
    refine ⟨_, pss_cons (ps_set (i := 1) nd rfl (Or.inl rfl) (pe_lst pa_nil))
      (pss_cons (ps_set (i := 2) nd rfl (Or.inl rfl) (pe_lst (pa_cons (pv 0) pa_nil)))
      (pss_cons (ps_while PassesOwn.never (pt_cmpR op_gt (pe_callB call_len_seq (by rfl) T.len bt_len (pa_cons (pv 2) pa_nil)) pe_int (nomark _))
      (pss_cons (ps_expr (pe_bm PySem.F.plainAttrs_list PySem.F.slot_list_append PySem.F.type_list_append mt_append (pv 1) (pa_cons (pe_bm0 PySem.F.plainAttrs_list PySem.F.slot_list_pop PySem.F.type_list_pop mt_pop (pv 2)) pa_nil)))
        (pss_one (ps_for PassesOwn.never rfl (pi_rev (by rfl) T.rev (pe_call GI hr (by rfl) mI FI.kp bI .nil pass0 (pa_cons (pe_ix ix_list (pv 1) (pe_un un_neg pe_int) (fun _ _ => rfl)) pa_nil))) (pg_name (i := 3) nd rfl (Or.inl rfl))
        (pss_one (ps_expr (pe_bm PySem.F.plainAttrs_list PySem.F.slot_list_append PySem.F.type_list_append mt_append (pv 2) (pa_cons (pv 3) pa_nil))))))))
      (pss_one (ps_ret (pv 1))))), ?_⟩
    refine ⟨Nat.zero_le _, fun D1 hD1 => ⟨_, rfl, z1, fun D2 hD2 => ?_⟩⟩
    have s1 := same_upd (o := .lst []) hD1
    have s2 := same_upd (o := .lst [v0]) hD2
    have n12 : D1 ≠ D2 := ne_of_none (H := upd H D1 (.lst [])) upd_same hD2
    have hD2H : H D2 = none := s1.free hD2
    have s12 := s1.trans s2
    have lenpre := pre_len c
    refine ⟨WithinW H c v0 D1 D2, ⟨_, none, [], [v0], [], [c], rfl, s12, s2 _ _ upd_same, upd_same, Al.nil, Al.cons (hc.tup (Tup.of s12)) Al.nil, by simp [pres], rfl⟩, ?_⟩
    rintro m σ H5 ⟨v3, xs, ls, done, st, rfl, sH, h1, h2, hx, hl, hpre, rfl⟩
    have hlen := congrArg List.length hpre
    rw [List.length_append, pres_len, szs_reverse, lenpre] at hlen
    have hst := len_szs st
    refine ⟨_, rfl, D2, _, rfl, .inl (SqL.of h2), _, _, rfl, rfl, _, rfl, ite2 (fun c1 => ?_) (fun c1 => ?_)⟩
    · have hpos : 0 < ls.length := by have := of_decide_eq_true c1; omega
      have hne : st ≠ [] := fun e => by rw [e] at hl; rw [hl.1] at hpos; simp at hpos
      obtain ⟨st', k, rfl⟩ : ∃ st' k, st = st' ++ [k] := ⟨_, _, (List.dropLast_concat_getLast hne).symm⟩
      obtain ⟨ls', v, rfl, hv, hl'⟩ := hl.unsnoc
      obtain ⟨t, ks⟩ := k
      refine ⟨fun σ' H' => ∃ m', m' < szs (st' ++ [Co.mk t ks]) ∧ WithinW H c v0 D1 D2 m' σ' H', fun _ _ z => z, ?_⟩
      rw [szs_append] at hlen ⊢
      simp only [szs, sz, Nat.add_zero] at hlen ⊢
      refine ⟨_, rfl, .inl ⟨rfl, _, SqL.of h1⟩, _, rfl, .inl ⟨rfl, _, SqL.of h2⟩, D2, _, v, rfl, rfl, h2, last_at ls' v, ?_⟩
      rw [List.dropLast_concat]
      have t6 : Tup H5 (upd H5 D2 (.lst ls')) := Tup.lst h2
      have h16 : upd H5 D2 (.lst ls') D1 = some (.lst xs) := by rw [upd_ne n12]; exact h1
      refine ⟨D1, xs, v, rfl, rfl, h16, by rw [hx.1, sizeLine_eq]; omega, ?_⟩
      have t7 := t6.trans (Tup.lst (ys := xs ++ [v]) h16)
      have h17 : upd (upd H5 D2 (.lst ls')) D1 (.lst (xs ++ [v])) D1 = some (.lst (xs ++ [v])) := upd_same
      have h27 : upd (upd H5 D2 (.lst ls')) D1 (.lst (xs ++ [v])) D2 = some (.lst ls') := by rw [upd_ne (Ne.symm n12), upd_same]
      have s7 : Same H (upd (upd H5 D2 (.lst ls')) D1 (.lst (xs ++ [v]))) := fun e o qe => by rw [upd_ne (ne_of_none qe hD1), upd_ne (ne_of_none qe hD2H)]; exact sH _ _ qe
      generalize upd (upd H5 D2 (.lst ls')) D1 (.lst (xs ++ [v])) = H7 at t7 h17 h27 s7 ⊢
      have hv7 := hv.tup t7
      refine ⟨_, rfl, _, rfl, D1, _, _, v, rfl, rfl, SqL.of h17, last_ref, v, t, ks, rfl, hv7, by have := len_szs ks; omega, fun H8 D3 ys s8 hD3 h38 hal8 => ?_⟩
      have h18 := s8 _ _ h17
      have h28 := s8 _ _ h27
      have t8 := t7.trans (Tup.of s8)
      have n32 : D3 ≠ D2 := Ne.symm (ne_of_none h27 hD3)
      have n31 : D3 ≠ D1 := Ne.symm (ne_of_none h17 hD3)
      refine ⟨D3, ys, rfl, SqL.of h38, for_rev (K := K) (a := D3) (xs := ys) (fun i σ' H' => (∃ v3, σ' = [some v0, some (.ref D1), some (.ref D2), v3]) ∧ Same H H' ∧ Tup H8 H' ∧ H' D1 = some (.lst (xs ++ [v])) ∧ H' D3 = some (.lst ys) ∧ H' D2 = some (.lst (ls' ++ ys.reverse.take i)))
        ⟨⟨_, rfl⟩, s7.trans s8, Tup.refl _, h18, h38, by rw [List.take_zero, List.append_nil]; exact h28⟩ (fun i σ' H' _ hP => SqL.of hP.2.2.2.2.1) ?_ ?_⟩
      · rintro i x σ' H' hx' hi ⟨⟨v3', rfl⟩, sH', tH', g1, g3, g2⟩
        have hyl : ys.length = ks.length := hal8.1
        have hkl := len_szs ks
        refine ⟨_, rfl, .inl ⟨rfl, _, SqL.of g2⟩, _, rfl, D2, _, x, rfl, rfl, g2, by rw [List.length_append, List.length_take, hl'.1, List.length_reverse, sizeLine_eq]; have := len_szs st'; omega, ⟨_, rfl⟩, fun e o qe => ?_, tH'.trans (Tup.lst g2), ?_, ?_, ?_⟩
        · rw [upd_ne (ne_of_none qe hD2H)]; exact sH' _ _ qe
        · rw [upd_ne n12]; exact g1
        · rw [upd_ne n32]; exact g3
        · have ex : ys.reverse[i]? = some x := by rw [List.getElem?_reverse hi]; exact hx'
          rw [upd_same, List.take_succ, ex, ← List.append_assoc]; rfl
      · rintro σ' H' ⟨⟨v3', rfl⟩, sH', tH', g1, g3, g2⟩
        rw [← List.length_reverse (as := ys), List.take_length] at g2
        refine ⟨szs (st' ++ ks.reverse), by rw [szs_append, szs_reverse]; omega, v3', xs ++ [v], ls' ++ ys.reverse, done ++ [Co.mk t ks], st' ++ ks.reverse, rfl, sH', g1, g2, ?_, ?_, ?_, rfl⟩
        · exact (hx.mono fun _ _ r => r.tup (t8.trans tH')).snoc (hv.tup (t8.trans tH'))
        · exact (hl'.mono fun _ _ r => r.tup (t8.trans tH')).append ((hal8.mono fun _ _ r => r.tup tH').reverse)
        · rw [hpre, List.reverse_append, List.reverse_append, List.reverse_reverse, pres_append, pres_append, List.append_assoc]
          simp [pres, pre]
    · have hz : ls.length = 0 := by
        have : ¬ (0 : Int) < (ls.length : Int) := fun z => c1 (decide_eq_true z)
        omega
      have est : st = [] := List.length_eq_zero_iff.mp (by rw [← hl.1]; exact hz)
      subst est
      refine ⟨_, rfl, q H5 D1 xs sH hD1 h1 ?_⟩
      rw [hpre]
      simpa [pres] using hx
end
end K72

set_option Elab.async false
set_option linter.all false
set_option maxRecDepth 100000
set_option maxHeartbeats 4000000
/-! k72: taken_in, put_names. Own work. -/
namespace K72
open PySem L2 Builtin.Str
theorem bt_dict' : bootBuiltins "dict" = some (.type "dict") := by decide +kernel
theorem Ks.step {kvs tk : List (Key × V)} {cs : List Co} {i : Nat} {d : Co} (hd : cs[i]? = some d) (h : Ks tk (fun x => ∃ d ∈ cs.take i, nmS kvs d x)) {x : Str} (e : ∀ y, nmS kvs d y ↔ y = x) (v : V) : Ks (putK tk (.inr x) v) (fun y => ∃ d ∈ cs.take (i + 1), nmS kvs d y) := by
  refine (h.put x v).iff fun y => ?_
  rw [List.take_succ, hd]
  constructor
  · rintro (z | ⟨d', hd', z⟩)
    · exact ⟨d, by simp, (e y).mpr z⟩
    · exact ⟨d', List.mem_append_left _ hd', z⟩
  · rintro ⟨d', hd', z⟩
    rcases List.mem_append.mp hd' with hd' | hd'
    · exact .inr ⟨d', hd', z⟩
    · have : d' = d := by simpa using hd'
      subst this
      exact .inl ((e y).mp z)
theorem Ks.skip {kvs tk : List (Key × V)} {cs : List Co} {i : Nat} {d : Co} (hd : cs[i]? = some d) (h : Ks tk (fun x => ∃ d ∈ cs.take i, nmS kvs d x)) (e : ∀ y, ¬ nmS kvs d y) : Ks tk (fun y => ∃ d ∈ cs.take (i + 1), nmS kvs d y) := by
  refine h.iff fun y => ?_
  rw [List.take_succ, hd]
  constructor
  · rintro ⟨d', hd', z⟩
    exact ⟨d', List.mem_append_left _ hd', z⟩
  · rintro ⟨d', hd', z⟩
    rcases List.mem_append.mp hd' with hd' | hd'
    · exact ⟨d', hd', z⟩
    · have : d' = d := by simpa using hd'
      subst this
      exact absurd z (e y)
def spTaken : Sp := fun vs H Q _ => ∃ (sl dn : Addr) (cs : List Co) (xs : List V) (kvs : List (Key × V)), vs = [.ref sl, .ref dn] ∧ H sl = some (.lst xs) ∧ Al (CoIn H) cs xs ∧ H dn = some (.dK kvs) ∧ Strs kvs ∧ cs.length ≤ 100000 ∧
  ∀ (H' : Hp) (D : Addr) (tk : List (Key × V)), Same H H' → H D = none → H' D = some (.dK tk) → Ks tk (fun x => ∃ d ∈ cs, nmS kvs d x) → tk.length ≤ cs.length → Q (.ref D) H'
/-- numbers that were reached -/
def Rch (rk : List (Key × V)) (U : Str → Prop) : Prop := ∀ (n : Str) v, valV rk (.inr n) = some v → ∃ m : Int, v = .int m ∧ 1 ≤ m ∧ ∀ j : Int, 1 ≤ j → j < m → U (nbn n j)
theorem Rch.nil {U : Str → Prop} : Rch [] U := fun n v e => by rw [valV_nil] at e; exact nomatch e
theorem Rch.put {rk : List (Key × V)} {U : Str → Prop} (h : Rch rk U) {n : Str} {m : Int} (hm : Lst U n m) : Rch (putK rk (.inr n) (.int m)) (fun x => x = nbn n m ∨ U x) := fun n' v e => by
  rw [valV_put] at e
  split at e
  · rename_i en
    cases en
    cases e
    exact ⟨m, rfl, hm.1, fun j h1 h2 => .inr (hm.2.2 j h1 h2)⟩
  · obtain ⟨m', e1, h1, h2⟩ := h n' v e
    exact ⟨m', e1, h1, fun j g1 g2 => .inr (h2 j g1 g2)⟩
theorem bound_of {uk : List (Key × V)} {U : Str → Prop} (h : Ks uk U) {n : Str} {m : Int} (h2 : ∀ j : Int, 1 ≤ j → j < m → U (nbn n j)) : m ≤ uk.length + 1 := by
  obtain ⟨j, hj, e⟩ := one_free uk n (k := 1) (Int.le_refl _)
  have hno : ¬ U (nbn n (1 + (j : Int))) := fun z => by
    have := (h _).mpr z
    rw [e] at this
    exact nomatch this
  apply Classical.byContradiction
  intro hlt
  exact hno (h2 _ (by omega) (by omega))
def spPut : Sp := fun vs H Q _ => ∃ (dn pl dt : Addr) (ps : List (Int × Str)) (pvs : List V) (kvs tk : List (Key × V)) (U : Str → Prop), vs = [.ref dn, .ref pl, .ref dt] ∧ H dn = some (.dK kvs) ∧ H dt = some (.dK tk) ∧ Ks tk U ∧ kvs.length ≤ 3000000 ∧ tk.length ≤ 100000 ∧ ps.length ≤ 200 ∧ (∀ x ∈ ps, x.2.length ≤ 100) ∧
  ((H pl = some (.lst pvs) ∧ Al (PaIn H) ps pvs) ∨ (H pl = some (.tup pvs) ∧ Al (PaIn H) ps pvs)) ∧ ∀ (H' : Hp) (r : List (Int × Str)) (U' : Str → Prop), NT U ps r U' → H' dn = some (.dK (puts kvs r)) → (∀ c o, c ≠ dn → H c = some o → H' c = some o) → Q .non H'
section
variable {P : Program} {w : World} {K : PySem.W.Frag} {mg : Str → Option Value} {base : Heap}
theorem scTaken : FnScope ["scope", "names", "taken", "core"] ["scope", "names"] (defScope sTaken) := ⟨rfl, rfl, rfl, by decide +kernel, rfl, by decide +kernel, by decide +kernel⟩
theorem ok_taken {f : Addr} {fd : FuncData} (F : Fun K "taken_in" "taken_in" sTaken f fd) : FnOk P w K mg base CX0 1 f fd ["scope", "names"] spTaken := by
  refine F.ok scTaken (fun vs H Q E h => ?_) (fun cdv A outer s H vs Q E hr h => ?_)
  · obtain ⟨sl, dn, cs, xs, kvs, rfl, _⟩ := h; rfl
  · obtain ⟨sl, dn, cs, xs, kvs, rfl, hsl, hal, hdn, hS, hlen, q⟩ := h
    have nd := scTaken.nd
    have hu := hu_of hr
    have z3 : 3 ≤ sizeLine := by rw [sizeLine_eq]; decide
    refine ⟨_, pss_cons (ps_set (i := 2) nd rfl (Or.inl rfl) pe_dnewK)
      (pss_cons (ps_for PassesOwn.never rfl (pi_list (pv 0)) (pg_name (i := 3) nd rfl (Or.inl rfl))
      (pss_one (ps_if (pt_cmpR op_eq (pe_ix ix_tup (pv 3) pe_int (fun _ _ => rfl)) pe_str (nomark _))
        (pss_one (ps_dput hu (pv 2) (pe_ix ix_tup (pv 3) pe_int (fun _ _ => rfl)) pe_bl rfl))
        (pss_one (ps_if (pt_cmpR op_in_seq (pe_ix ix_tup (pv 3) pe_int (fun _ _ => rfl)) (pe_tup (pa_cons pe_str (pa_cons pe_str (pa_cons pe_str pa_nil)))) rfl)
          (pss_one (ps_dput hu (pv 2) (pe_ix ix_tup (pv 3) pe_int (fun _ _ => rfl)) pe_bl rfl))
          (pss_one (ps_if (PW.pt (pw_and (pt_cmpR op_eq (pe_ix ix_tup (pv 3) pe_int (fun _ _ => rfl)) pe_str (nomark _)) (pw_and1 (pt_cmp (pc_din hu (pe_ix ix_tup (pv 3) pe_int (fun _ _ => rfl)) (pv 1))))))
            (pss_one (ps_dput hu (pv 2) (pe_dget hu (pv 1) (pe_ix ix_tup (pv 3) pe_int (fun _ _ => rfl)) (fun _ _ => rfl)) pe_bl rfl))
            pss_nil)))))))
      (pss_one (ps_ret (pv 2)))), ?_⟩
    intro D hD
    have s1 := same_upd (o := .dK []) hD
    refine ⟨_, rfl, sl, rfl, ⟨_, SqL.of (s1 _ _ hsl)⟩, for_list (xs := xs) (fun i σ H' => (∃ v3, σ = [some (.ref sl), some (.ref dn), some (.ref D), v3]) ∧ Same H H' ∧ ∃ tk, H' D = some (.dK tk) ∧ Ks tk (fun x => ∃ d ∈ cs.take i, nmS kvs d x) ∧ tk.length ≤ i)
      ⟨⟨_, rfl⟩, s1, [], upd_same, Ks.nil.iff (fun n => by simp), Nat.le_refl _⟩ (fun i σ H' _ hP => SqL.of (hP.2.1 _ _ hsl)) ?_ ?_⟩
    · rintro i x σ H' hi ⟨⟨v3, rfl⟩, sH, tk, hDt, hKs, htl⟩
      obtain ⟨d, ed, hd⟩ := hal.at hi
      have hil : i < cs.length := (List.getElem?_eq_some_iff.mp ed).1
      obtain ⟨t, ks⟩ := d
      obtain ⟨a, us, rfl, hat, hks⟩ := (hd.tup (Tup.of sH)).cut
      -- a name put
      have fin : ∀ (H2 : Hp) (x : Str), Same H' H2 → H2 D = some (.dK tk) → (∀ y, nmS kvs (.mk t ks) y ↔ y = x) →
          (∃ v3, [some (V.ref sl), some (.ref dn), some (.ref D), some (.ref a)] = [some (.ref sl), some (.ref dn), some (.ref D), v3]) ∧ Same H (upd H2 D (.dK (putK tk (.inr x) (.bl true)))) ∧ ∃ tk', upd H2 D (.dK (putK tk (.inr x) (.bl true))) D = some (.dK tk') ∧ Ks tk' (fun x => ∃ d ∈ cs.take (i + 1), nmS kvs d x) ∧ tk'.length ≤ i + 1 := fun H2 x s2 h2 e => by
        refine ⟨⟨_, rfl⟩, fun c o qe => ?_, _, upd_same, hKs.step ed e _, ?_⟩
        · rw [upd_ne (ne_of_none qe hD)]; exact s2 _ _ (sH _ _ qe)
        · have := length_putK tk (.inr x) (.bl true); omega
      have fin0 : ∀ (H2 : Hp), Same H' H2 → H2 D = some (.dK tk) → (∀ y, ¬ nmS kvs (.mk t ks) y) →
          (∃ v3, [some (V.ref sl), some (.ref dn), some (.ref D), some (.ref a)] = [some (.ref sl), some (.ref dn), some (.ref D), v3]) ∧ Same H H2 ∧ ∃ tk', H2 D = some (.dK tk') ∧ Ks tk' (fun x => ∃ d ∈ cs.take (i + 1), nmS kvs d x) ∧ tk'.length ≤ i + 1 := fun H2 s2 h2 e =>
        ⟨⟨_, rfl⟩, sH.trans s2, _, h2, hKs.skip ed e, by omega⟩
      cases t with
      | free n =>
        obtain ⟨rfl, ha⟩ := hat
        refine ⟨_, rfl, a, _, _, _, rfl, rfl, SqT.of ha, rfl, rfl, true, rfl, iteT ?_⟩
        refine ⟨_, rfl, _, rfl, a, _, _, _, rfl, rfl, SqT.of ha, rfl, D, _, rfl, DPut.k (k := .inr n) hDt (by rw [sizeLine_eq]; omega), ?_⟩
        exact fin _ n (Same.refl _) hDt (fun y => ⟨(fun z => by rcases z with z | ⟨p', ks', z, _⟩ <;> first | exact (Option.some.inj z).symm | exact (nomatch z)), (fun z => .inl (by rw [z]; rfl))⟩)
      | fn ps =>
        obtain ⟨u, pv', b, e, ha, hu', hp'⟩ := hat
        refine ⟨_, rfl, a, _, _, _, rfl, rfl, SqT.of ha, rfl, rfl, false, rfl, iteF ?_⟩
        refine ⟨_, rfl, a, _, _, _, rfl, rfl, SqT.of ha, rfl, z3, fun p hp => ?_⟩
        have s2 := same_upd (o := .tup [.str "fn", .str "pick", .str "now"]) hp
        have hD2 := s2 _ _ hDt
        refine ⟨p, _, rfl, .inr (SqT.of upd_same), rfl, rfl, true, rfl, iteT ?_⟩
        refine ⟨_, rfl, _, rfl, a, _, _, _, rfl, rfl, SqT.of (s2 _ _ ha), rfl, D, _, rfl, DPut.k (k := .inr "fn") hD2 (by rw [sizeLine_eq]; omega), ?_⟩
        exact fin _ "fn" s2 hD2 (fun y => ⟨(fun z => by rcases z with z | ⟨p', ks', z, _⟩ <;> first | exact (Option.some.inj z).symm | exact (nomatch z)), (fun z => .inl (by rw [z]; rfl))⟩)
      | pick =>
        obtain ⟨x', y', z', e, ha⟩ := hat
        refine ⟨_, rfl, a, _, _, _, rfl, rfl, SqT.of ha, rfl, rfl, false, rfl, iteF ?_⟩
        refine ⟨_, rfl, a, _, _, _, rfl, rfl, SqT.of ha, rfl, z3, fun p hp => ?_⟩
        have s2 := same_upd (o := .tup [.str "fn", .str "pick", .str "now"]) hp
        have hD2 := s2 _ _ hDt
        refine ⟨p, _, rfl, .inr (SqT.of upd_same), rfl, rfl, true, rfl, iteT ?_⟩
        refine ⟨_, rfl, _, rfl, a, _, _, _, rfl, rfl, SqT.of (s2 _ _ ha), rfl, D, _, rfl, DPut.k (k := .inr "pick") hD2 (by rw [sizeLine_eq]; omega), ?_⟩
        exact fin _ "pick" s2 hD2 (fun y => ⟨(fun z => by rcases z with z | ⟨p', ks', z, _⟩ <;> first | exact (Option.some.inj z).symm | exact (nomatch z)), (fun z => .inl (by rw [z]; rfl))⟩)
      | now =>
        obtain ⟨x', e, ha⟩ := hat
        refine ⟨_, rfl, a, _, _, _, rfl, rfl, SqT.of ha, rfl, rfl, false, rfl, iteF ?_⟩
        refine ⟨_, rfl, a, _, _, _, rfl, rfl, SqT.of ha, rfl, z3, fun p hp => ?_⟩
        have s2 := same_upd (o := .tup [.str "fn", .str "pick", .str "now"]) hp
        have hD2 := s2 _ _ hDt
        refine ⟨p, _, rfl, .inr (SqT.of upd_same), rfl, rfl, true, rfl, iteT ?_⟩
        refine ⟨_, rfl, _, rfl, a, _, _, _, rfl, rfl, SqT.of (s2 _ _ ha), rfl, D, _, rfl, DPut.k (k := .inr "now") hD2 (by rw [sizeLine_eq]; omega), ?_⟩
        exact fin _ "now" s2 hD2 (fun y => ⟨(fun z => by rcases z with z | ⟨p', ks', z, _⟩ <;> first | exact (Option.some.inj z).symm | exact (nomatch z)), (fun z => .inl (by rw [z]; rfl))⟩)
      | num z =>
        obtain ⟨rfl, ha⟩ := hat
        refine ⟨_, rfl, a, _, _, _, rfl, rfl, SqT.of ha, rfl, rfl, false, rfl, iteF ?_⟩
        refine ⟨_, rfl, a, _, _, _, rfl, rfl, SqT.of ha, rfl, z3, fun p hp => ?_⟩
        have s2 := same_upd (o := .tup [.str "fn", .str "pick", .str "now"]) hp
        refine ⟨p, _, rfl, .inr (SqT.of upd_same), rfl, rfl, false, rfl, iteF ?_⟩
        refine ⟨_, rfl, a, _, _, _, rfl, rfl, SqT.of (s2 _ _ ha), rfl, rfl, false, rfl, iteF (iteF ?_)⟩
        exact fin0 _ s2 (s2 _ _ hDt) (fun y z => by rcases z with z | ⟨p', ks', z, _⟩ <;> exact nomatch z)
      | call =>
        obtain ⟨u, f', as, e, ha, hu'⟩ := hat
        refine ⟨_, rfl, a, _, _, _, rfl, rfl, SqT.of ha, rfl, rfl, false, rfl, iteF ?_⟩
        refine ⟨_, rfl, a, _, _, _, rfl, rfl, SqT.of ha, rfl, z3, fun p hp => ?_⟩
        have s2 := same_upd (o := .tup [.str "fn", .str "pick", .str "now"]) hp
        refine ⟨p, _, rfl, .inr (SqT.of upd_same), rfl, rfl, false, rfl, iteF ?_⟩
        refine ⟨_, rfl, a, _, _, _, rfl, rfl, SqT.of (s2 _ _ ha), rfl, rfl, false, rfl, iteF (iteF ?_)⟩
        exact fin0 _ s2 (s2 _ _ hDt) (fun y z => by rcases z with z | ⟨p', ks', z, _⟩ <;> exact nomatch z)
      | seen p0 =>
        obtain ⟨rfl, ha⟩ := hat
        refine ⟨_, rfl, a, _, _, _, rfl, rfl, SqT.of ha, rfl, rfl, false, rfl, iteF ?_⟩
        refine ⟨_, rfl, a, _, _, _, rfl, rfl, SqT.of ha, rfl, z3, fun p hp => ?_⟩
        have s2 := same_upd (o := .tup [.str "fn", .str "pick", .str "now"]) hp
        have hdn2 := s2 _ _ (sH _ _ hdn)
        have ha2 := s2 _ _ ha
        have hD2 := s2 _ _ hDt
        refine ⟨p, _, rfl, .inr (SqT.of upd_same), rfl, rfl, false, rfl, iteF ?_⟩
        have hg := DGet.k (k := (.inl (some p0) : Key)) hdn2
        refine ⟨_, rfl, a, _, _, _, rfl, rfl, SqT.of ha2, rfl, rfl, true, rfl, iteT ⟨_, rfl, a, _, _, _, rfl, rfl, SqT.of ha2, rfl, _, rfl, dn, _, rfl, hg, _, rfl, ?_⟩⟩
        cases ev : valV kvs (.inl (some p0)) with
        | none =>
          refine iteF ?_
          exact fin0 _ s2 hD2 (fun y z => by
            rcases z with z | ⟨p', ks', z, z2⟩
            · exact nomatch z
            · injection z with z3 z4
              injection z3 with z5
              subst z5
              rw [ev] at z2
              exact nomatch z2)
        | some v =>
          obtain ⟨n, rfl⟩ := hS _ _ ev
          rw [ev] at hg
          refine iteT ⟨_, rfl, _, rfl, _, rfl, a, _, _, _, rfl, rfl, SqT.of ha2, rfl, dn, .str n, rfl, hg, D, _, rfl, DPut.k (k := .inr n) hD2 (by rw [sizeLine_eq]; omega), ?_⟩
          exact fin _ n s2 hD2 (fun y => ⟨fun z => by
            rcases z with z | ⟨p', ks', z, z2⟩
            · exact nomatch z
            · injection z with z3 z4
              injection z3 with z5
              subst z5
              rw [ev] at z2
              exact (V.str.inj (Option.some.inj z2)).symm, fun z => .inr ⟨p0, ks, rfl, by rw [ev, z]⟩⟩)
    · rintro σ H' ⟨⟨v3, rfl⟩, sH, tk, hDt, hKs, htl⟩
      rw [hal.1, List.take_length] at hKs
      rw [hal.1] at htl
      exact ⟨_, rfl, q H' D tk sH hD hDt hKs htl⟩
abbrev NPut : List Str := ["names", "places", "taken", "used", "reached", "place", "name", "number"]
theorem scPut : FnScope NPut ["names", "places", "taken"] (defScope sPut) := ⟨rfl, rfl, rfl, by decide +kernel, rfl, by decide +kernel, by decide +kernel⟩
theorem ok_put {f fB : Addr} {fd fdB : FuncData} (F : Fun K "put_names" "put_names" sPut f fd) (T : Txt mg)
    (FB : Fun K "numbered_name" "numbered_name" sNumbered fB fdB) (bB : Binds K fdB ["name", "number"] []) (mB : mg "numbered_name" = some (.ref fB)) : FnOk P w K mg base CX0 2 f fd ["names", "places", "taken"] spPut := by
  have GB : FnOk P w K mg base CX0 1 fB fdB ["name", "number"] spNbn := ok_nbn FB
  refine F.ok scPut (fun vs H Q E h => ?_) (fun cdv A outer s H vs Q E hr h => ?_)
  · obtain ⟨dn, pl, dt, ps, pvs, kvs, tk, U, rfl, _⟩ := h; rfl
  · obtain ⟨dn, pl, dt, ps, pvs, kvs, tk, U, rfl, hdn, hdt, hKs, hkl, htl, hpl, hps, hplace, q⟩ := h
    have nd := scPut.nd
    have hu := hu_of hr
    rcases hplace with ⟨hpl1, hal⟩ | ⟨hpl1, hal⟩
    · refine ⟨_, pss_cons (ps_set (i := 3) nd rfl (Or.inl rfl) (pe_callTy call_dcopy (by rfl) T.dict bt_dict' (pa_cons (pv 2) pa_nil)))
      (pss_cons (ps_set (i := 4) nd rfl (Or.inl rfl) pe_dnewK)
      (pss_one (ps_for PassesOwn.never rfl (pi_list (pv 1)) (pg_tup rfl (pgs_cons (pg_name (i := 5) nd rfl (Or.inl rfl)) (pgs_cons (pg_name (i := 6) nd rfl (Or.inl rfl)) pgs_nil)))
      (pss_cons (ps_set (i := 7) nd rfl (Or.inl rfl) (pe_dget2 hu (pv 4) (pv 6) pe_int ⟨rfl, rfl, rfl, rfl⟩))
        (pss_cons (ps_while PassesOwn.never (pt_cmp (pc_din hu (pe_call GB hr (by rfl) mB FB.kp bB .nil pass0 (pa_cons (pv 6) (pa_cons (pv 7) pa_nil))) (pv 3)))
        (pss_one (ps_aug (i := 7) nd rfl (Or.inl rfl) pe_int iop_add)))
        (pss_cons (ps_dput hu (pv 4) (pv 6) (pv 7) rfl)
        (pss_cons (ps_dput hu (pv 0) (pv 5) (pe_call GB hr (by rfl) mB FB.kp bB .nil pass0 (pa_cons (pv 6) (pa_cons (pv 7) pa_nil))) rfl)
        (pss_one (ps_dput hu (pv 3) (pe_dget hu (pv 0) (pv 5) (fun _ _ => rfl)) pe_bl rfl))))))))), ?_⟩
      refine ⟨_, rfl, dt, tk, rfl, hdt, fun Du hDu => ?_⟩
      intro Dr hDr
      have s1 := same_upd (o := .dK tk) hDu
      have s2 := same_upd (o := .dK []) hDr
      have s12 := s1.trans s2
      have nur : Du ≠ Dr := ne_of_none (H := upd H Du (.dK tk)) upd_same hDr
      have hDrH : H Dr = none := s1.free hDr
      have nnu : dn ≠ Du := ne_of_none hdn hDu
      have nnr : dn ≠ Dr := ne_of_none hdn hDrH
      refine ⟨_, rfl, pl, rfl, ⟨_, SqL.of (s12 _ _ hpl1)⟩, for_list (xs := pvs) (fun i σ H' => ∃ (v5 v6 v7 : Option V) (r : List (Int × Str)) (U' : Str → Prop) (uk rk : List (Key × V)), σ = [some (.ref dn), some (.ref pl), some (.ref dt), some (.ref Du), some (.ref Dr), v5, v6, v7] ∧ NT U (ps.take i) r U' ∧ H' dn = some (.dK (puts kvs r)) ∧ H' Du = some (.dK uk) ∧ Ks uk U' ∧ uk.length ≤ tk.length + i ∧ H' Dr = some (.dK rk) ∧ Rch rk U' ∧ rk.length ≤ i ∧ ∀ c o, c ≠ dn → H c = some o → H' c = some o)
        ⟨none, none, none, [], U, tk, [], rfl, .nil, s12 _ _ hdn, s2 _ _ upd_same, hKs, Nat.le_refl _, upd_same, Rch.nil, Nat.le_refl _, fun c o _ e => s12 _ _ e⟩ (fun i σ H' _ hP => by obtain ⟨_, _, _, _, _, _, _, _, _, _, _, _, _, _, _, _, k⟩ := hP; exact SqL.of (k _ _ (kind_ne hpl1 hdn (fun z => nomatch z)) hpl1)) ?_ ?_⟩
      · rintro i x σ H' hi ⟨v5, v6, v7, r, U', uk, rk, rfl, hNT, h1, h2, hK2, hul, h3, hR, hrl, hk⟩
        obtain ⟨⟨p, n⟩, ep, hp⟩ := hal.at hi
        have hil : i < ps.length := (List.getElem?_eq_some_iff.mp ep).1
        have hnl : n.length ≤ 100 := hps _ (List.mem_of_getElem? ep)
        obtain ⟨t, rfl, ht⟩ := hp
        have ht' := hk _ _ (kind_ne ht hdn (fun z => nomatch z)) ht
        have hrlen := hNT.len
        rw [List.length_take] at hrlen
        have hpul := puts_len kvs r
        refine ⟨t, _, rfl, SqT.of ht', rfl, _, _, rfl, _, _, rfl, rfl, ?_⟩
        -- where it begins
        have hgr := DGet.k (k := (.inr n : Key)) h3
        refine ⟨_, rfl, Dr, rfl, .inl ⟨_, .inl h3⟩, _, rfl, _, hgr, ?_⟩
        obtain ⟨m0, em0, hm0, hb0⟩ : ∃ m0 : Int, (valV rk (.inr n)).getD (.int 1) = .int m0 ∧ 1 ≤ m0 ∧ ∀ j : Int, 1 ≤ j → j < m0 → U' (nbn n j) := by
          cases ev : valV rk (.inr n) with
          | none => exact ⟨1, rfl, Int.le_refl _, fun j h1 h2 => by omega⟩
          | some v =>
            obtain ⟨m, rfl, h1, h2⟩ := hR n v ev
            exact ⟨m, rfl, h1, h2⟩
        rw [em0]
        refine ⟨fun k σ' H2 => ∃ m : Int, σ' = [some (.ref dn), some (.ref pl), some (.ref dt), some (.ref Du), some (.ref Dr), some (.int p), some (.str n), some (.int m)] ∧ H' = H2 ∧ 1 ≤ m ∧ (∀ j : Int, 1 ≤ j → j < m → U' (nbn n j)) ∧ k = ((uk.length : Int) + 2 - m).toNat, ⟨_, m0, rfl, rfl, hm0, hb0, rfl⟩, ?_⟩
        rintro k σ' H2 ⟨m, rfl, rfl, hm, hb, rfl⟩
        have hmu := bound_of hK2 hb
        have hgu := DGet.k (k := (.inr (nbn n m) : Key)) h2
        refine ⟨_, rfl, _, rfl, n, m, rfl, hm, by omega, hnl, _, rfl, Du, _, rfl, hgu, _, rfl, ite2 (fun c1 => ?_) (fun c1 => ?_)⟩
        · refine ⟨fun σ' H3 => ∃ m' : Int, m' = m + 1 ∧ σ' = [some (.ref dn), some (.ref pl), some (.ref dt), some (.ref Du), some (.ref Dr), some (.int p), some (.str n), some (.int m')] ∧ H' = H3, fun σ' H3 hz => ?_, _, rfl, _, _, rfl, rfl, _, rfl, rfl, rfl⟩
          obtain ⟨m', rfl, rfl, rfl⟩ := hz
          refine ⟨_, ?_, m + 1, rfl, rfl, by omega, fun j g1 g2 => ?_, rfl⟩
          · omega
          · by_cases ej : j = m
            · rw [ej]; exact (hK2 _).mp c1
            · exact hb j g1 (by omega)
        · have hL : Lst U' n m := ⟨hm, fun z => c1 ((hK2 _).mpr z), hb⟩
          -- reached[name] = number
          refine ⟨_, rfl, _, rfl, _, rfl, Dr, _, rfl, DPut.k (k := .inr n) h3 (by rw [sizeLine_eq]; omega), ?_⟩
          have g1 : upd H' Dr (.dK (putK rk (.inr n) (.int m))) dn = some (.dK (puts kvs r)) := by rw [upd_ne nnr]; exact h1
          -- names[place]
          refine ⟨_, rfl, _, rfl, n, m, rfl, hm, by omega, hnl, _, rfl, _, rfl, dn, _, rfl, DPut.k (k := .inl (some p)) g1 (by rw [sizeLine_eq]; omega), ?_⟩
          have g2 : upd (upd H' Dr (.dK (putK rk (.inr n) (.int m)))) dn (.dK (putK (puts kvs r) (.inl (some p)) (.str (nbn n m)))) dn = some (.dK (putK (puts kvs r) (.inl (some p)) (.str (nbn n m)))) := upd_same
          have hg2 := DGet.k (k := (.inl (some p) : Key)) g2
          rw [valV_put, if_pos rfl] at hg2
          have g3 : upd (upd H' Dr (.dK (putK rk (.inr n) (.int m)))) dn (.dK (putK (puts kvs r) (.inl (some p)) (.str (nbn n m)))) Du = some (.dK uk) := by rw [upd_ne (Ne.symm nnu), upd_ne nur]; exact h2
          refine ⟨_, rfl, _, rfl, _, rfl, dn, .str (nbn n m), rfl, hg2, Du, _, rfl, DPut.k (k := .inr (nbn n m)) g3 (by rw [sizeLine_eq]; omega), ?_⟩
          refine ⟨_, _, _, r ++ [(p, nbn n m)], _, putK uk (.inr (nbn n m)) (.bl true), putK rk (.inr n) (.int m), rfl, ?_, ?_, upd_same, hK2.put _ _, ?_, ?_, hR.put hL, ?_, fun c o nc e => ?_⟩
          · rw [List.take_succ, ep]
            exact hNT.snoc hL
          · rw [upd_ne nnu, puts_snoc]; exact g2
          · have := length_putK uk (.inr (nbn n m)) (.bl true); omega
          · rw [upd_ne (Ne.symm nur), upd_ne (Ne.symm nnr), upd_same]
          · have := length_putK rk (.inr n) (.int m); omega
          · rw [upd_ne (ne_of_none e hDu), upd_ne nc, upd_ne (ne_of_none e hDrH)]
            exact hk c o nc e
      · rintro σ H' ⟨v5, v6, v7, r, U', uk, rk, rfl, hNT, h1, h2, hK2, hul, h3, hR, hrl, hk⟩
        rw [hal.1, List.take_length] at hNT
        exact q H' r U' hNT h1 hk
    · refine ⟨_, pss_cons (ps_set (i := 3) nd rfl (Or.inl rfl) (pe_callTy call_dcopy (by rfl) T.dict bt_dict' (pa_cons (pv 2) pa_nil)))
      (pss_cons (ps_set (i := 4) nd rfl (Or.inl rfl) pe_dnewK)
      (pss_one (ps_for PassesOwn.never rfl (pi_tup (pv 1)) (pg_tup rfl (pgs_cons (pg_name (i := 5) nd rfl (Or.inl rfl)) (pgs_cons (pg_name (i := 6) nd rfl (Or.inl rfl)) pgs_nil)))
      (pss_cons (ps_set (i := 7) nd rfl (Or.inl rfl) (pe_dget2 hu (pv 4) (pv 6) pe_int ⟨rfl, rfl, rfl, rfl⟩))
        (pss_cons (ps_while PassesOwn.never (pt_cmp (pc_din hu (pe_call GB hr (by rfl) mB FB.kp bB .nil pass0 (pa_cons (pv 6) (pa_cons (pv 7) pa_nil))) (pv 3)))
        (pss_one (ps_aug (i := 7) nd rfl (Or.inl rfl) pe_int iop_add)))
        (pss_cons (ps_dput hu (pv 4) (pv 6) (pv 7) rfl)
        (pss_cons (ps_dput hu (pv 0) (pv 5) (pe_call GB hr (by rfl) mB FB.kp bB .nil pass0 (pa_cons (pv 6) (pa_cons (pv 7) pa_nil))) rfl)
        (pss_one (ps_dput hu (pv 3) (pe_dget hu (pv 0) (pv 5) (fun _ _ => rfl)) pe_bl rfl))))))))), ?_⟩
      refine ⟨_, rfl, dt, tk, rfl, hdt, fun Du hDu => ?_⟩
      intro Dr hDr
      have s1 := same_upd (o := .dK tk) hDu
      have s2 := same_upd (o := .dK []) hDr
      have s12 := s1.trans s2
      have nur : Du ≠ Dr := ne_of_none (H := upd H Du (.dK tk)) upd_same hDr
      have hDrH : H Dr = none := s1.free hDr
      have nnu : dn ≠ Du := ne_of_none hdn hDu
      have nnr : dn ≠ Dr := ne_of_none hdn hDrH
      refine ⟨_, rfl, pl, rfl, ⟨_, SqT.of (s12 _ _ hpl1)⟩, for_tup (xs := pvs) (fun i σ H' => ∃ (v5 v6 v7 : Option V) (r : List (Int × Str)) (U' : Str → Prop) (uk rk : List (Key × V)), σ = [some (.ref dn), some (.ref pl), some (.ref dt), some (.ref Du), some (.ref Dr), v5, v6, v7] ∧ NT U (ps.take i) r U' ∧ H' dn = some (.dK (puts kvs r)) ∧ H' Du = some (.dK uk) ∧ Ks uk U' ∧ uk.length ≤ tk.length + i ∧ H' Dr = some (.dK rk) ∧ Rch rk U' ∧ rk.length ≤ i ∧ ∀ c o, c ≠ dn → H c = some o → H' c = some o)
        ⟨none, none, none, [], U, tk, [], rfl, .nil, s12 _ _ hdn, s2 _ _ upd_same, hKs, Nat.le_refl _, upd_same, Rch.nil, Nat.le_refl _, fun c o _ e => s12 _ _ e⟩ (fun i σ H' _ hP => by obtain ⟨_, _, _, _, _, _, _, _, _, _, _, _, _, _, _, _, k⟩ := hP; exact SqT.of (k _ _ (kind_ne hpl1 hdn (fun z => nomatch z)) hpl1)) ?_ ?_⟩
      · rintro i x σ H' hi ⟨v5, v6, v7, r, U', uk, rk, rfl, hNT, h1, h2, hK2, hul, h3, hR, hrl, hk⟩
        obtain ⟨⟨p, n⟩, ep, hp⟩ := hal.at hi
        have hil : i < ps.length := (List.getElem?_eq_some_iff.mp ep).1
        have hnl : n.length ≤ 100 := hps _ (List.mem_of_getElem? ep)
        obtain ⟨t, rfl, ht⟩ := hp
        have ht' := hk _ _ (kind_ne ht hdn (fun z => nomatch z)) ht
        have hrlen := hNT.len
        rw [List.length_take] at hrlen
        have hpul := puts_len kvs r
        refine ⟨t, _, rfl, SqT.of ht', rfl, _, _, rfl, _, _, rfl, rfl, ?_⟩
        -- where it begins
        have hgr := DGet.k (k := (.inr n : Key)) h3
        refine ⟨_, rfl, Dr, rfl, .inl ⟨_, .inl h3⟩, _, rfl, _, hgr, ?_⟩
        obtain ⟨m0, em0, hm0, hb0⟩ : ∃ m0 : Int, (valV rk (.inr n)).getD (.int 1) = .int m0 ∧ 1 ≤ m0 ∧ ∀ j : Int, 1 ≤ j → j < m0 → U' (nbn n j) := by
          cases ev : valV rk (.inr n) with
          | none => exact ⟨1, rfl, Int.le_refl _, fun j h1 h2 => by omega⟩
          | some v =>
            obtain ⟨m, rfl, h1, h2⟩ := hR n v ev
            exact ⟨m, rfl, h1, h2⟩
        rw [em0]
        refine ⟨fun k σ' H2 => ∃ m : Int, σ' = [some (.ref dn), some (.ref pl), some (.ref dt), some (.ref Du), some (.ref Dr), some (.int p), some (.str n), some (.int m)] ∧ H' = H2 ∧ 1 ≤ m ∧ (∀ j : Int, 1 ≤ j → j < m → U' (nbn n j)) ∧ k = ((uk.length : Int) + 2 - m).toNat, ⟨_, m0, rfl, rfl, hm0, hb0, rfl⟩, ?_⟩
        rintro k σ' H2 ⟨m, rfl, rfl, hm, hb, rfl⟩
        have hmu := bound_of hK2 hb
        have hgu := DGet.k (k := (.inr (nbn n m) : Key)) h2
        refine ⟨_, rfl, _, rfl, n, m, rfl, hm, by omega, hnl, _, rfl, Du, _, rfl, hgu, _, rfl, ite2 (fun c1 => ?_) (fun c1 => ?_)⟩
        · refine ⟨fun σ' H3 => ∃ m' : Int, m' = m + 1 ∧ σ' = [some (.ref dn), some (.ref pl), some (.ref dt), some (.ref Du), some (.ref Dr), some (.int p), some (.str n), some (.int m')] ∧ H' = H3, fun σ' H3 hz => ?_, _, rfl, _, _, rfl, rfl, _, rfl, rfl, rfl⟩
          obtain ⟨m', rfl, rfl, rfl⟩ := hz
          refine ⟨_, ?_, m + 1, rfl, rfl, by omega, fun j g1 g2 => ?_, rfl⟩
          · omega
          · by_cases ej : j = m
            · rw [ej]; exact (hK2 _).mp c1
            · exact hb j g1 (by omega)
        · have hL : Lst U' n m := ⟨hm, fun z => c1 ((hK2 _).mpr z), hb⟩
          -- reached[name] = number
          refine ⟨_, rfl, _, rfl, _, rfl, Dr, _, rfl, DPut.k (k := .inr n) h3 (by rw [sizeLine_eq]; omega), ?_⟩
          have g1 : upd H' Dr (.dK (putK rk (.inr n) (.int m))) dn = some (.dK (puts kvs r)) := by rw [upd_ne nnr]; exact h1
          -- names[place]
          refine ⟨_, rfl, _, rfl, n, m, rfl, hm, by omega, hnl, _, rfl, _, rfl, dn, _, rfl, DPut.k (k := .inl (some p)) g1 (by rw [sizeLine_eq]; omega), ?_⟩
          have g2 : upd (upd H' Dr (.dK (putK rk (.inr n) (.int m)))) dn (.dK (putK (puts kvs r) (.inl (some p)) (.str (nbn n m)))) dn = some (.dK (putK (puts kvs r) (.inl (some p)) (.str (nbn n m)))) := upd_same
          have hg2 := DGet.k (k := (.inl (some p) : Key)) g2
          rw [valV_put, if_pos rfl] at hg2
          have g3 : upd (upd H' Dr (.dK (putK rk (.inr n) (.int m)))) dn (.dK (putK (puts kvs r) (.inl (some p)) (.str (nbn n m)))) Du = some (.dK uk) := by rw [upd_ne (Ne.symm nnu), upd_ne nur]; exact h2
          refine ⟨_, rfl, _, rfl, _, rfl, dn, .str (nbn n m), rfl, hg2, Du, _, rfl, DPut.k (k := .inr (nbn n m)) g3 (by rw [sizeLine_eq]; omega), ?_⟩
          refine ⟨_, _, _, r ++ [(p, nbn n m)], _, putK uk (.inr (nbn n m)) (.bl true), putK rk (.inr n) (.int m), rfl, ?_, ?_, upd_same, hK2.put _ _, ?_, ?_, hR.put hL, ?_, fun c o nc e => ?_⟩
          · rw [List.take_succ, ep]
            exact hNT.snoc hL
          · rw [upd_ne nnu, puts_snoc]; exact g2
          · have := length_putK uk (.inr (nbn n m)) (.bl true); omega
          · rw [upd_ne (Ne.symm nur), upd_ne (Ne.symm nnr), upd_same]
          · have := length_putK rk (.inr n) (.int m); omega
          · rw [upd_ne (ne_of_none e hDu), upd_ne nc, upd_ne (ne_of_none e hDrH)]
            exact hk c o nc e
      · rintro σ H' ⟨v5, v6, v7, r, U', uk, rk, rfl, hNT, h1, h2, hK2, hul, h3, hR, hrl, hk⟩
        rw [hal.1, List.take_length] at hNT
        exact q H' r U' hNT h1 hk
end
end K72

set_option Elab.async false
set_option linter.all false
set_option maxRecDepth 100000
set_option maxHeartbeats 4000000
/-! k72: names_of. Own work. -/
namespace K72
open PySem L2 Builtin.Str
def spNames : Sp := fun vs H Q _ => ∃ (l : Addr) (its : List It) (iv : List V), vs = [.ref l] ∧ H l = some (.lst iv) ∧ Al (ItIn H) its iv ∧ Its its ∧
  ∀ (H' : Hp) (D : Addr) (r : List (Int × Str)) (U' : Str → Prop) (kvs : List (Key × V)), NT (UI its) (tops its) r U' → FN (puts [] r) (cores its) kvs → H' D = some (.dK kvs) → Same H H' → H D = none → Q (.ref D) H'
theorem cores_snoc (its : List It) (it : It) : cores (its ++ [it]) = cores its ++ pre it.core := by
  unfold cores
  simp
theorem tops_snoc (its : List It) (it : It) : tops (its ++ [it]) = tops its ++ it.top.toList := by
  unfold tops
  rw [List.filterMap_append]
  congr 1
theorem core_len : ∀ {its : List It} {it : It}, it ∈ its → sz it.core ≤ (cores its).length
  | x :: its, it, h => by
    have e : cores (x :: its) = pre x.core ++ cores its := rfl
    rw [e, List.length_append, pre_len]
    rcases List.mem_cons.mp h with h | h
    · rw [h]; omega
    · have := core_len h; omega
theorem cores_take (its : List It) (i : Nat) : (cores (its.take i)).length ≤ (cores its).length := by
  have e : cores its = cores (its.take i) ++ cores (its.drop i) := by
    unfold cores
    rw [← List.flatMap_append, List.take_append_drop]
  rw [e, List.length_append]; omega
mutual
theorem pre_sz : ∀ {c d : Co}, d ∈ pre c → sz d ≤ sz c
  | .mk t ks, d, h => by
    unfold pre at h
    rcases List.mem_cons.mp h with e | h
    · rw [e]; exact Nat.le_refl _
    · have := pres_sz h
      simp only [sz]
      omega
theorem pres_sz : ∀ {cs : List Co} {d : Co}, d ∈ pres cs → sz d ≤ szs cs
  | [], d, h => by unfold pres at h; exact nomatch h
  | c :: cs, d, h => by
    unfold pres at h
    simp only [szs]
    rcases List.mem_append.mp h with h | h
    · have := pre_sz h; omega
    · have := pres_sz h; omega
end
theorem flat_len : ∀ {cs : List Co} {n : Nat}, (∀ d ∈ cs, (parms d).length ≤ n) → (cs.flatMap parms).length ≤ n * cs.length
  | [], n, _ => by simp
  | d :: cs, n, h => by
    have h1 := flat_len (cs := cs) (n := n) fun x hx => h x (List.mem_cons_of_mem _ hx)
    have h2 := h d (List.mem_cons_self ..)
    rw [List.flatMap_cons, List.length_append, List.length_cons, Nat.mul_succ]
    omega
theorem mem_cores {its : List It} {d : Co} : d ∈ cores its ↔ ∃ it ∈ its, d ∈ pre it.core := by
  unfold cores
  rw [List.mem_flatMap]
section
variable {P : Program} {w : World} {K : PySem.W.Frag} {mg : Str → Option Value} {base : Heap}
abbrev NNames : List Str := ["items", "cores", "item", "names", "tops", "core"]
theorem scNames : FnScope NNames ["items"] (defScope sNames) := ⟨rfl, rfl, rfl, by decide +kernel, rfl, by decide +kernel, by decide +kernel⟩
theorem lcNames1 : LcS (defScope sNames).names [(".0", .local), ("item", .local)] NNames [false, false, false, false, false, false] := ⟨by decide +kernel, by decide +kernel, by decide +kernel, by decide +kernel, by decide +kernel, rfl⟩
theorem ndNames1 : (["items", "cores", "item", "names", "tops", "core"] : List Str).Nodup := by decide +kernel
theorem ok_names {f fI fW fT fP fB : Addr} {fd fdI fdW fdT fdP fdB : FuncData} (F : Fun K "names_of" "names_of" sNames f fd) (T : Txt mg)
    (FI : Fun K "inner_cores" "inner_cores" sInner fI fdI) (bI : Binds K fdI ["core"] []) (mI : mg "inner_cores" = some (.ref fI))
    (FW : Fun K "cores_within" "cores_within" sWithin fW fdW) (bW : Binds K fdW ["core"] []) (mW : mg "cores_within" = some (.ref fW))
    (FT : Fun K "taken_in" "taken_in" sTaken fT fdT) (bT : Binds K fdT ["scope", "names"] []) (mT : mg "taken_in" = some (.ref fT))
    (FP : Fun K "put_names" "put_names" sPut fP fdP) (bP : Binds K fdP ["names", "places", "taken"] []) (mP : mg "put_names" = some (.ref fP))
    (FB : Fun K "numbered_name" "numbered_name" sNumbered fB fdB) (bB : Binds K fdB ["name", "number"] []) (mB : mg "numbered_name" = some (.ref fB)) : FnOk P w K mg base CX0 3 f fd ["items"] spNames := by
  have GW : FnOk P w K mg base CX0 2 fW fdW ["core"] spWithin := ok_within FW T FI bI mI
  have GT : FnOk P w K mg base CX0 2 fT fdT ["scope", "names"] spTaken := (ok_taken FT).mono (by decide)
  have GP : FnOk P w K mg base CX0 2 fP fdP ["names", "places", "taken"] spPut := ok_put FP T FB bB mB
  refine F.ok scNames (fun vs H Q E h => ?_) (fun cdv A outer s H vs Q E hr h => ?_)
  · obtain ⟨l, its, iv, rfl, _⟩ := h; rfl
  · obtain ⟨l, its, iv, rfl, hl, hal, hIts, q⟩ := h
    have nd := scNames.nd
    have z2 : 2 ≤ sizeLine := by rw [sizeLine_eq]; decide
    have hcl := hIts.csz
    have hsz4 : ∀ it ∈ its, sz it.core ≤ 100000 := fun it hi => by have := core_len hi; omega
    refine ⟨_, pss_cons (ps_set (i := 1) nd rfl (Or.inl rfl) (pe_lst pa_nil))
      (pss_cons (ps_for PassesOwn.never rfl (pi_list (pv 0)) (pg_name (i := 2) nd rfl (Or.inl rfl))
      (pss_one (ps_expr (pe_bm PySem.F.plainAttrs_list PySem.F.slot_list_extend PySem.F.type_list_extend mt_extend (pv 1) (pa_cons (pe_call GW hr (by rfl) mW FW.kp bW .nil pass0 (pa_cons (pe_ix ix_tup (pv 2) (pe_un un_neg pe_int) (fun _ _ => rfl)) pa_nil)) pa_nil)))))
      (pss_cons (ps_set (i := 3) nd rfl (Or.inl rfl) pe_dnewK)
      (pss_cons (ps_lc (i := 4) (ext := []) nd rfl rfl lcNames1 rfl (pi_list (pv 0))
          ⟨fun _ _ _ _ _ => (pg_name (i := 2) ndNames1 rfl (Or.inl rfl) (.inr rfl)), fun _ _ _ _ _ => (pts_one (pt_cmpR op_eq (pe_ix (ix_tup : IxR _ (rIxT K)) (pv 2) pe_int (fun _ _ => rfl)) pe_str (nomark _))), fun _ _ _ _ _ => (pe_tup (pa_cons (pe_ix (ix_tup : IxR _ (rIxT K)) (pv 2) pe_int (fun _ _ => rfl)) (pa_cons (pe_ix (ix_tup : IxR _ (rIxT K)) (pv 2) pe_int (fun _ _ => rfl)) pa_nil)))⟩)
      (pss_cons (ps_expr (pe_call GP hr (by rfl) mP FP.kp bP .nil pass0 (pa_cons (pv 3) (pa_cons (pv 4) (pa_cons (pe_call GT hr (by rfl) mT FT.kp bT .nil pass0 (pa_cons (pv 1) (pa_cons (pv 3) pa_nil))) pa_nil)))))
      (pss_cons (ps_for PassesOwn.never rfl (pi_list (pv 1)) (pg_name (i := 5) nd rfl (Or.inl rfl))
      (pss_one (ps_if (pt_cmpR op_eq (pe_ix ix_tup (pv 5) pe_int (fun _ _ => rfl)) pe_str (nomark _))
        (pss_one (ps_expr (pe_call GP hr (by rfl) mP FP.kp bP .nil pass0 (pa_cons (pv 3) (pa_cons (pe_ix ix_tup (pv 5) pe_int (fun _ _ => rfl)) (pa_cons (pe_call GT hr (by rfl) mT FT.kp bT .nil pass0 (pa_cons (pe_call GW hr (by rfl) mW FW.kp bW .nil pass0 (pa_cons (pe_ix ix_tup (pv 5) pe_int (fun _ _ => rfl)) pa_nil)) (pa_cons (pv 3) pa_nil))) pa_nil))))))
        pss_nil)))
      (pss_one (ps_ret (pv 3)))))))), ?_⟩
    refine ⟨Nat.zero_le _, fun C hC => ?_⟩
    have s1 := same_upd (o := .lst []) hC
    refine ⟨_, rfl, l, rfl, ⟨_, SqL.of (s1 _ _ hl)⟩, for_list (xs := iv) (fun i σ H' => (∃ v2, σ = [some (.ref l), some (.ref C), v2, none, none, none]) ∧ Same H H' ∧ ∃ xs, H' C = some (.lst xs) ∧ Al (CoIn H') (cores (its.take i)) xs)
      ⟨⟨_, rfl⟩, s1, [], upd_same, Al.nil⟩ (fun i σ H' _ hP => SqL.of (hP.2.1 _ _ hl)) ?_ ?_⟩
    · rintro i x σ H' hi ⟨⟨v2, rfl⟩, sH, xs, hCx, hcx⟩
      obtain ⟨it, eit, hit⟩ := hal.at hi
      have hmem := List.mem_of_getElem? eit
      have hil : i < its.length := (List.getElem?_eq_some_iff.mp eit).1
      obtain ⟨t, ys, cv, rfl, hsq, hat, hc⟩ := (hit.tup (Tup.of sH)).last (K := K)
      have hs4 := hsz4 it hmem
      refine ⟨_, rfl, .inl ⟨rfl, _, SqL.of hCx⟩, _, rfl, _, rfl, t, ys, _, cv, rfl, rfl, hsq, hat, cv, it.core, rfl, hc, by omega, fun H2 D zs s2 hD hD2 hz => ?_⟩
      have hC2 := s2 _ _ hCx
      have nDC : D ≠ C := Ne.symm (ne_of_none hCx hD)
      have hcl2 := cores_take its i
      have hpl := pre_len it.core
      refine ⟨C, D, xs, zs, rfl, rfl, hC2, hD2, by rw [hcx.1, hz.1, sizeLine_eq]; omega, ⟨_, rfl⟩, fun e o qe => ?_, xs ++ zs, upd_same, ?_⟩
      · rw [upd_ne (ne_of_none qe hC)]; exact s2 _ _ (sH _ _ qe)
      · rw [List.take_succ, eit]
        show Al _ (cores (its.take i ++ [it])) _
        rw [cores_snoc]
        have tk := Tup.lst (ys := xs ++ zs) hC2
        exact (hcx.mono fun _ _ r => (r.tup (Tup.of s2)).tup tk).append (hz.mono fun _ _ r => r.tup tk)
    · rintro σ H1 ⟨⟨v2, rfl⟩, sH1, xs, hCx, hcx⟩
      rw [hal.1, List.take_length] at hcx
      intro dn hdn
      have s2 := same_upd (o := .dK []) hdn
      have hdnH : H dn = none := sH1.free hdn
      have hC2 := s2 _ _ hCx
      have hcx2 := hcx.mono fun _ _ r => CoIn.tup (Tup.of s2) r
      have hdn2 : upd H1 dn (.dK []) dn = some (.dK []) := upd_same
      have sH2 := sH1.trans s2
      generalize upd H1 dn (.dK []) = H2 at hdn2 hC2 hcx2 sH2 ⊢
      refine ⟨_, rfl, l, rfl, ⟨_, SqL.of (sH2 _ _ hl)⟩, fun D hD => ?_⟩
      refine lc_lst (K := K) (a := l) (xs := iv) (fun k ys σ' H' => (∃ v, σ' = [none, none, v, none, none, none]) ∧ Same H2 H' ∧ H' D = some (.lst ys) ∧ Al (PaIn H') (tops (its.take k)) ys)
        ⟨⟨_, rfl⟩, same_upd hD, upd_same, Al.nil⟩ (fun k ys σ' H' _ hP => SqL.of (hP.2.1 _ _ (sH2 _ _ hl))) ?_ ?_
      · rintro k x ys σ' H' hx ⟨⟨v, rfl⟩, sH, hDy, hpa⟩
        unfold gName
        have hk := (List.getElem?_eq_some_iff.mp hx).1
        obtain ⟨it, eit, hit⟩ := hal.at hx
        have hit' := hit.tup (Tup.of (sH2.trans sH))
        have htk : tops (its.take (k + 1)) = tops (its.take k) ++ it.top.toList := by rw [List.take_succ, eit]; exact tops_snoc _ _
        have hyl : ys.length ≤ 200 := by
          rw [hpa.1]
          have h1 := tops_len (its.take k)
          have h2 := hIts.len
          rw [List.length_take] at h1
          omega
        cases it with
        | defi p n c =>
          obtain ⟨t, cv, rfl, ht, hc⟩ := hit'
          refine ⟨_, rfl, t, _, _, _, rfl, rfl, SqT.of ht, rfl, rfl, true, rfl, iteT ?_⟩
          refine ⟨_, rfl, t, _, _, _, rfl, rfl, SqT.of ht, rfl, _, rfl, t, _, _, _, rfl, rfl, SqT.of ht, rfl, z2, fun u hu => ?_⟩
          have s3 := same_upd (o := .tup [.int p, .str n]) hu
          have hD3 := s3 _ _ hDy
          refine ⟨hD3, by rw [sizeLine_eq]; omega, Beh.of hk ⟨⟨_, rfl⟩, fun e o qe => ?_, upd_same, ?_⟩⟩
          · rw [upd_ne (ne_of_none qe hD)]; exact s3 _ _ (sH _ _ qe)
          · rw [htk]
            have tk := Tup.lst (ys := ys ++ [.ref u]) hD3
            exact (hpa.mono fun _ _ r => (r.tup (Tup.of s3)).tup tk).snoc ⟨u, rfl, tk _ _ upd_same⟩
        | shw c =>
          obtain ⟨t, cv, rfl, ht, hc⟩ := hit'
          refine ⟨_, rfl, t, _, _, _, rfl, rfl, SqT.of ht, rfl, rfl, false, rfl, iteF ?_⟩
          refine Beh.of hk ⟨⟨_, rfl⟩, sH, hDy, ?_⟩
          rw [htk]
          simpa [It.top] using hpa
      · rintro ys σ' H3 ⟨_, s3, hDy, hpa⟩
        rw [hal.1, List.take_length] at hpa
        have hC3 := s3 _ _ hC2
        have hdn3 := s3 _ _ hdn2
        have hcx3 := hcx2.mono fun _ _ r => CoIn.tup (Tup.of s3) r
        have sH3 := sH2.trans s3
        have htl := tops_len its
        have hil := hIts.len
        -- put_names(names, tops, taken_in(cores, names))
        refine ⟨_, rfl, _, rfl, _, rfl, _, rfl, C, dn, cores its, xs, [], rfl, hC3, hcx3, hdn3, Strs.nil, by omega, fun H4 dt tk s4 hdt hdt4 hKs htkl => ?_⟩
        have hKs' : Ks tk (UI its) := hKs.iff fun y => by
          constructor
          · rintro ⟨d, hd, z | ⟨p, ks, e, z⟩⟩
            · exact ⟨d, hd, z⟩
            · rw [valV_nil] at z; exact nomatch z
          · rintro ⟨d, hd, z⟩
            exact ⟨d, hd, .inl z⟩
        refine ⟨dn, D, dt, tops its, ys, [], tk, UI its, rfl, s4 _ _ hdn3, hdt4, hKs', Nat.zero_le _, by omega, by omega, fun x hx => ?_, .inl ⟨s4 _ _ hDy, hpa.mono fun _ _ r => r.tup (Tup.of s4)⟩, fun H5 r U' hNT h5 k5 => ?_⟩
        · exact hIts.tnm x.1 x.2 hx
        have hC4 := s4 _ _ hC3
        have hdn4 := s4 _ _ hdn3
        have hC5 := k5 _ _ (kind_ne hC4 hdn4 (fun z => nomatch z)) hC4
        have t5 : Tup H4 H5 := fun e zs qe => k5 _ _ (kind_ne qe hdn4 (fun z => nomatch z)) qe
        have hcx5 := hcx3.mono fun _ _ r => (r.tup (Tup.of s4)).tup t5
        have sH5 : Same H H5 := fun e o qe => k5 _ _ (ne_of_none qe hdnH) (s4 _ _ (sH3 _ _ qe))
        have hrl := hNT.len
        have hpl := puts_len [] r
        have hst := Strs.puts r Strs.nil
        -- the fns
        refine ⟨_, rfl, C, rfl, ⟨_, SqL.of hC5⟩, for_list (xs := xs) (fun i σ H' => (∃ v5, σ = [some (.ref l), some (.ref C), v2, some (.ref dn), some (.ref D), v5]) ∧ Same H H' ∧ H' C = some (.lst xs) ∧ Al (CoIn H') (cores its) xs ∧ ∃ kk, H' dn = some (.dK kk) ∧ FN (puts [] r) ((cores its).take i) kk)
          ⟨⟨_, rfl⟩, sH5, hC5, hcx5, _, h5, .nil⟩ (fun i σ H' _ hP => SqL.of hP.2.2.1) ?_ ?_⟩
        · rintro i x σ H' hi ⟨⟨v5, rfl⟩, sH, gC, gx, kk, gn, gF⟩
          obtain ⟨d, ed, hd⟩ := gx.at hi
          have hdm := List.mem_of_getElem? ed
          obtain ⟨it, hitm, hdp⟩ := mem_cores.mp hdm
          obtain ⟨t, ks⟩ := d
          have hdsz := pre_sz hdp
          have hs4' := hsz4 it hitm
          have etk : (cores its).take (i + 1) = (cores its).take i ++ [Co.mk t ks] := by rw [List.take_succ, ed]; rfl
          have hkl : kk.length ≤ 2100000 := by
            have h1 := gF.len
            have h2 : (((cores its).take i).flatMap parms).length ≤ 20 * ((cores its).take i).length := flat_len fun d hd => hIts.pln d (List.mem_of_mem_take hd)
            have h3 : ((cores its).take i).length ≤ (cores its).length := by rw [List.length_take]; omega
            simp only [List.length_nil] at hpl
            omega
          have hstk := gF.strs hst
          have skip : (∀ ps' ks', Co.mk t ks ≠ .mk (.fn ps') ks') → FN (puts [] r) ((cores its).take (i + 1)) kk := fun hn => by
            rw [etk]
            exact gF.append (.skip hn .nil)
          obtain ⟨a, us, rfl, hat, hks⟩ := hd.cut
          cases t with
          | fn ps =>
            obtain ⟨u, pv', b, rfl, ha, hu, hps⟩ := hat
            have hk1 : ks.length = 1 := hks.1.symm
            obtain ⟨kb, rfl⟩ : ∃ kb, ks = [kb] := match ks, hk1 with | [kb], _ => ⟨kb, rfl⟩
            obtain ⟨b', bs', eb, hb, _⟩ := hks.uncons
            cases eb
            simp only [sz, szs] at hdsz
            have hpln : ps.length ≤ 20 := hIts.pln _ hdm
            refine ⟨_, rfl, a, _, _, _, rfl, rfl, SqT.of ha, rfl, rfl, true, rfl, iteT ?_⟩
            refine ⟨_, rfl, _, rfl, a, _, _, _, rfl, rfl, SqT.of ha, rfl, _, rfl, a, _, _, _, rfl, rfl, SqT.of ha, rfl, b, kb, rfl, hb, by omega, fun H6 D6 zs s6 hD6 hD66 hz6 => ?_⟩
            have hlk : (pre kb).length ≤ 100000 := by rw [pre_len]; omega
            refine ⟨_, rfl, D6, dn, pre kb, zs, kk, rfl, hD66, hz6, s6 _ _ gn, hstk, hlk, fun H7 dt7 tk7 s7 hdt7 hdt77 hKs7 htk7 => ?_⟩
            have s67 := s6.trans s7
            refine ⟨dn, u, dt7, ps, pv', kk, tk7, _, rfl, s67 _ _ gn, hdt77, hKs7, by omega, by omega, by omega, (fun x hx => hIts.pnm _ hdm x hx), .inr ⟨s67 _ _ hu, hps.mono fun _ _ r => r.tup (Tup.of s67)⟩, fun H8 r8 U8 hNT8 h8 k8 => ?_⟩
            have g7 := s67 _ _ gC
            have t8 : Tup H' H8 := fun e zs' qe => k8 _ _ (kind_ne (s67 _ _ qe) (s67 _ _ gn) (fun z => nomatch z)) (s67 _ _ qe)
            refine ⟨⟨_, rfl⟩, fun e o qe => k8 _ _ (ne_of_none qe hdnH) (s67 _ _ (sH _ _ qe)), k8 _ _ (kind_ne g7 (s67 _ _ gn) (fun z => nomatch z)) g7, gx.mono fun _ _ r => r.tup t8, _, h8, ?_⟩
            rw [etk]
            exact gF.append (.fn hNT8 .nil)
          | num z =>
            obtain ⟨e, ha⟩ := hat
            exact ⟨_, rfl, a, _, _, _, rfl, rfl, SqT.of ha, rfl, rfl, false, rfl, iteF ⟨⟨_, rfl⟩, sH, gC, gx, kk, gn, skip (fun ps' ks' z => by injection z with z1 z2; exact nomatch z1)⟩⟩
          | free n =>
            obtain ⟨e, ha⟩ := hat
            exact ⟨_, rfl, a, _, _, _, rfl, rfl, SqT.of ha, rfl, rfl, false, rfl, iteF ⟨⟨_, rfl⟩, sH, gC, gx, kk, gn, skip (fun ps' ks' z => by injection z with z1 z2; exact nomatch z1)⟩⟩
          | seen p =>
            obtain ⟨e, ha⟩ := hat
            exact ⟨_, rfl, a, _, _, _, rfl, rfl, SqT.of ha, rfl, rfl, false, rfl, iteF ⟨⟨_, rfl⟩, sH, gC, gx, kk, gn, skip (fun ps' ks' z => by injection z with z1 z2; exact nomatch z1)⟩⟩
          | call =>
            obtain ⟨u, f', as, e, ha, hu⟩ := hat
            exact ⟨_, rfl, a, _, _, _, rfl, rfl, SqT.of ha, rfl, rfl, false, rfl, iteF ⟨⟨_, rfl⟩, sH, gC, gx, kk, gn, skip (fun ps' ks' z => by injection z with z1 z2; exact nomatch z1)⟩⟩
          | pick =>
            obtain ⟨x', y', z', e, ha⟩ := hat
            exact ⟨_, rfl, a, _, _, _, rfl, rfl, SqT.of ha, rfl, rfl, false, rfl, iteF ⟨⟨_, rfl⟩, sH, gC, gx, kk, gn, skip (fun ps' ks' z => by injection z with z1 z2; exact nomatch z1)⟩⟩
          | now =>
            obtain ⟨x', e, ha⟩ := hat
            exact ⟨_, rfl, a, _, _, _, rfl, rfl, SqT.of ha, rfl, rfl, false, rfl, iteF ⟨⟨_, rfl⟩, sH, gC, gx, kk, gn, skip (fun ps' ks' z => by injection z with z1 z2; exact nomatch z1)⟩⟩
        · rintro σ H' ⟨⟨v5, rfl⟩, sH, gC, gx, kk, gn, gF⟩
          rw [gx.1, List.take_length] at gF
          exact ⟨_, rfl, q H' dn r U' kk hNT gF gn sH hdnH⟩
end
end K72

set_option Elab.async false
set_option linter.all false
set_option maxRecDepth 100000
set_option maxHeartbeats 4000000
/-! k72: names mean what they meant: the mathematics. Own work. -/
namespace K72
open PySem L2 Builtin.Str
abbrev vN (kvs : List (Key × V)) (p : Int) : Option V := valV kvs (.inl (some p))
theorem puts_other : ∀ {r : List (Int × Str)} {kvs : List (Key × V)} {p : Int}, (∀ x ∈ r, x.1 ≠ p) → vN (puts kvs r) p = vN kvs p
  | [], kvs, p, _ => rfl
  | y :: r, kvs, p, h => by
    show vN (puts (putK kvs (.inl (some y.1)) (.str y.2)) r) p = _
    rw [puts_other (r := r) fun x hx => h x (List.mem_cons_of_mem _ hx)]
    show valV _ _ = _
    rw [valV_put, if_neg]
    intro z
    exact h y (List.mem_cons_self ..) (Option.some.inj (Sum.inl.inj z)).symm
theorem puts_mem : ∀ {r : List (Int × Str)} {kvs : List (Key × V)} {p : Int} {n : Str}, (r.map (·.1)).Nodup → (p, n) ∈ r → vN (puts kvs r) p = some (.str n)
  | y :: r, kvs, p, n, hn, h => by
    show vN (puts (putK kvs (.inl (some y.1)) (.str y.2)) r) p = _
    rw [List.map_cons, List.nodup_cons] at hn
    rcases List.mem_cons.mp h with e | h
    · subst e
      rw [puts_other (r := r) fun x hx z => hn.1 (List.mem_map.mpr ⟨x, hx, z⟩)]
      show valV _ _ = _
      rw [valV_put, if_pos rfl]
    · exact puts_mem hn.2 h
theorem NT.fst {U0 : Str → Prop} {ps r : List (Int × Str)} {U : Str → Prop} (h : NT U0 ps r U) : r.map (·.1) = ps.map (·.1) := by
  induction h with
  | nil => rfl
  | snoc h hm ih => rw [List.map_append, List.map_append, ih]; rfl
/-- the places that are told in these -/
def plc (cs : List Co) : List Int := (cs.flatMap parms).map (·.1)
theorem plc_append (xs ys : List Co) : plc (xs ++ ys) = plc xs ++ plc ys := by
  unfold plc
  rw [List.flatMap_append, List.map_append]
theorem plc_cons (x : Co) (ys : List Co) : plc (x :: ys) = (parms x).map (·.1) ++ plc ys := by
  unfold plc
  rw [List.flatMap_cons, List.map_append]
theorem FN.keep {k k' : List (Key × V)} {cs : List Co} (h : FN k cs k') {p : Int} : p ∉ plc cs → vN k' p = vN k p := by
  induction h with
  | nil => exact fun _ => rfl
  | skip hd h ih =>
    intro hp
    rw [plc_cons, List.mem_append] at hp
    exact ih fun z => hp (.inr z)
  | @fn k k' ps r b U cs hn h ih =>
    intro hp
    rw [plc_cons, List.mem_append] at hp
    rw [ih fun z => hp (.inr z)]
    refine puts_other fun x hx e => hp (.inl ?_)
    show p ∈ ps.map (·.1)
    rw [← hn.fst]
    exact List.mem_map.mpr ⟨x, hx, e⟩
theorem FN.at {k0 k' : List (Key × V)} {A B : List Co} {ps : List (Int × Str)} {b : Co} (h : FN k0 (A ++ .mk (.fn ps) [b] :: B) k') : ∃ k r U, FN k0 A k ∧ NT (fun x => ∃ e ∈ pre b, nmS k e x) ps r U ∧ FN (puts k r) B k' := by
  obtain ⟨k, h1, h2⟩ := h.split
  cases h2 with
  | skip hd h => exact absurd rfl (hd ps [b])
  | fn hn h => exact ⟨k, _, _, h1, hn, h⟩
/-! ### what is known -/
def add (κ : Str → Option Int) (r : List (Int × Str)) : Str → Option Int := r.foldl (fun κ pn x => if x = pn.2 then some pn.1 else κ x) κ
/-! ### scopes, meanings -/
def scT (Γ : List Int) : Tg → List Co → Prop
  | .seen p, _ => p ∈ Γ
  | .fn _, ks => ks.length = 1
  | _, _ => True
def scG (Γ : List Int) : Tg → List Int
  | .fn ps => ps.map (·.1) ++ Γ
  | _ => Γ
mutual
def Sc : List Int → Co → Prop
  | Γ, .mk t ks => scT Γ t ks ∧ Scs (scG Γ t) ks
def Scs : List Int → List Co → Prop
  | _, [] => True
  | Γ, k :: ks => Sc Γ k ∧ Scs Γ ks
end
def mnT (N : Int → Option V) (κ : Str → Option Int) : Tg → Prop
  | .num _ => True
  | .call => True
  | .free n => κ n = none
  | .seen p => ∃ n : Str, N p = some (.str n) ∧ κ n = some p
  | .fn _ => κ "fn" = none
  | .pick => κ "pick" = none
  | .now => κ "now" = none
def mnK (N : Int → Option V) (κ κ' : Str → Option Int) : Tg → Prop
  | .fn ps => ∃ r : List (Int × Str), r.map (·.1) = ps.map (·.1) ∧ (r.map (·.2)).Nodup ∧ (∀ x ∈ r, N x.1 = some (.str x.2)) ∧ κ' = add κ r
  | _ => κ' = κ
mutual
def Mn (N : Int → Option V) : (Str → Option Int) → Co → Prop
  | κ, .mk t ks => mnT N κ t ∧ ∃ κ', mnK N κ κ' t ∧ Mns N κ' ks
def Mns (N : Int → Option V) : (Str → Option Int) → List Co → Prop
  | _, [] => True
  | κ, k :: ks => Mn N κ k ∧ Mns N κ ks
end
section
variable {k0 kF : List (Key × V)} {C : List Co} {T : List Int}
end
end K72

set_option Elab.async false
set_option linter.all false
set_option maxRecDepth 100000
set_option maxHeartbeats 4000000
/-! k72: depths and widths of cores. Own work. -/
namespace K72
open PySem L2 Builtin.Str
mutual
def dp : Co → Nat
  | .mk _ ks => 1 + dps ks
def dps : List Co → Nat
  | [] => 0
  | k :: ks => max (dp k) (dps ks)
end
theorem dp_mk (t : Tg) (ks : List Co) : dp (.mk t ks) = 1 + dps ks := by rw [dp]
theorem dp_kid : ∀ {ks : List Co} {k : Co}, k ∈ ks → dp k ≤ dps ks
  | x :: ks, k, h => by
    rw [dps]
    rcases List.mem_cons.mp h with h | h
    · rw [h]; omega
    · have := dp_kid h; omega
/-- cores that are not too wide -/
def Wd (c : Co) : Prop := ∀ e ∈ pre c, e.ks.length ≤ 1000 ∧ (parms e).length ≤ 20
theorem Wd.kid {t : Tg} {ks : List Co} (h : Wd (.mk t ks)) {k : Co} (hk : k ∈ ks) : Wd k := fun e he => h e (pre_mk.mpr (.inr ⟨k, hk, he⟩))
end K72

set_option Elab.async false
set_option linter.all false
set_option maxRecDepth 100000
set_option maxHeartbeats 4000000
/-! The rules once more, behind structures: Lean's elaborator does not look into these, so that suites with long lists written out are read fast. Own work. -/
namespace Z
open PySem L2
structure E (X : Cx) (e : Expr) (t : TE) : Prop where h : PE X e t
structure T (X : Cx) (e : Expr) (t : TT) : Prop where h : PT X e t
structure W (X : Cx) (e : Expr) (t : TT) : Prop where h : PW X e t
structure A (X : Cx) (es : List Expr) (t : TA) : Prop where h : PA X es t
structure S (X : Cx) (st : Stmt) (t : TS) : Prop where h : PS X st t
structure Ss (X : Cx) (sts : List Stmt) (t : TS) : Prop where h : PSs X sts t
structure O (X : Cx) (e : Option Expr) (t : TO) : Prop where h : PO X e t
section
variable {X : Cx} {st : Stmt} {rest : List Stmt} {t u : TS} {a b e : Expr} {es : List Expr} {ta tb te : TE} {tA tB' : TT} {tt : TA} {pos p p2 : Pos}
theorem suite (h : Ss X rest t) : PSs X rest t := h.h
theorem pss_cons (h1 : S X st t) (h2 : Ss X rest u) : Ss X (st :: rest) (tSeq t u) := ⟨L2.pss_cons h1.h h2.h⟩
theorem pss_one (h1 : S X st t) : Ss X [st] t := ⟨L2.pss_one h1.h⟩
theorem pss_nil : Ss X [] tNext := ⟨L2.pss_nil⟩
theorem ps_if {c : Expr} {xs ys : List Stmt} {tc : TT} (hc : T X c tc) (ha : Ss X xs t) (hb : Ss X ys u) : S X (.If c xs ys pos) (tIfS tc t u) := ⟨L2.ps_if hc.h ha.h hb.h⟩
theorem ps_ret (he : E X e te) : S X (.Return (some e) pos) (tRet te) := ⟨L2.ps_ret he.h⟩
theorem ps_set {i : Nat} {x : Str} {pos' : Pos} (hN : X.N.Nodup) (hi : X.N[i]? = some x) (hx : Loc X.env.scope x) (he : E X e te) (hs : swapsWith e (some (.Name x pos')) pos.line X.env = pure false := by rfl) (hf : X.fn x = true ∨ X.env.scope.names.lookup x = some .local := by first | exact .inl rfl | exact .inr rfl | assumption) :
    S X (.Assign [.Name x pos'] e pos) (tAsg te (gName i)) := ⟨L2.ps_set hN hi hx he.h hs hf⟩
theorem pt_cmpR {op : CmpOp} {r : R2} (ho : OpR X (compareOp op) r) (ha : E X a ta) (hb : E X b tb) (hm : behindInMarks op b = false) : T X (.Compare a [op] [b] pos) (tTest (tOp r ta tb)) := ⟨L2.pt_cmpR ho ha.h hb.h hm⟩
theorem pt (h : W X e tA) : T X e tA := ⟨h.h.pt⟩
theorem pw_or1 (ha : T X a tA) : W X (.BoolOp .Or [a] pos) tA := ⟨L2.pw_or1 ha.h⟩
theorem pw_or {r : List Expr} (ha : T X a tA) (hb : W X (.BoolOp .Or (b :: r) pos) tB') : W X (.BoolOp .Or (a :: b :: r) pos) (tOr tA tB') := ⟨L2.pw_or ha.h hb.h⟩
theorem pe_tup {x1} (h : A X es tt) : E X (.Tuple es x1 pos) (tTup tt) := ⟨L2.pe_tup h.h⟩
theorem pe_lst (h : A X es tt) : E X (.List es pos) (tLst tt) := ⟨L2.pe_lst h.h⟩
theorem pa_cons (ha : E X e te) (hr : A X es tt) (hs : starEach (e :: es) X.env = (false, eval e X.env) :: starEach es X.env := by rfl) : A X (e :: es) (tCons te tt) := ⟨L2.pa_cons ha.h hr.h hs⟩
theorem pa_nil : A X [] tNil := ⟨L2.pa_nil⟩
theorem pa_strs {xs : List Str} (h : strsOf es = some xs) : A X es (tStrs xs) := ⟨L2.pa_strs h⟩
theorem pe_str {x j} : E X (.Constant (.str x) j pos) (tC (.str x)) := ⟨L2.pe_str⟩
theorem pe_int {i j} : E X (.Constant (.int i) j pos) (tC (.int i)) := ⟨L2.pe_int⟩
theorem pe_op {op : Operator} {r : R2} (ho : OpR X (binaryOp op) r) (ha : E X a ta) (hb : E X b tb) : E X (.BinOp a op b pos) (tOp r ta tb) := ⟨L2.pe_op ho ha.h hb.h⟩
theorem pv (i : Nat) {x : Str} (hN : X.N[i]? = some x := by rfl) (hv : Vis X.env.scope x := by first | exact Or.inl rfl | exact Or.inr (Or.inl rfl) | exact Or.inr (Or.inr rfl)) (hd : (x == ("__debug__" : Str)) = false := by decide)
    (hcd : (x == ("__classdict__" : Str)) = false := by decide) : E X (.Name x pos) (tVar i) := ⟨L2.pv i hN hv hd hcd⟩
theorem pe_ix {r : R2} (hr : IxR X r) (ha : E X a ta) (hb : E X b tb) (hs : PlainIx b) : E X (.Subscript a b pos) (tOp r ta tb) := ⟨L2.pe_ix hr ha.h hb.h hs⟩
theorem po_none : O X none tNoPart := ⟨L2.po_none⟩
theorem po_some (h : E X e te) : O X (some e) (tPart te) := ⟨L2.po_some h.h⟩
theorem pe_slice {lo hi : Option Expr} {tl th : TO} {r : V → Option Int → Option Int → Hp → VK → Prop} (hr : SlR X r) (he : E X e te) (hl : O X lo tl) (hu : O X hi th) : E X (.Subscript e (.Slice lo hi none p2) pos) (tSl r te tl th) := ⟨L2.pe_slice hr he.h hl.h hu.h⟩
theorem pe_call {CX : CXT} {k : Nat} {f : Addr} {fd : FuncData} {ps : List Str} {sp : Sp} {dvs : List V} {ds : List Value} {EE : XK} {x : Str} (F : FnOk X.prog X.w X.K X.mg X.base CX k f fd ps sp) (hr : Room k X.A) (hg : Gl X x) (hm : X.mg x = some (.ref f)) (hk : PySem.W.keepIn X.K (.ref f) = true) (hb : Binds X.K fd ps ds) (hd : Vals dvs ds) (hx : Passes CX X EE)
    (ha : A X (e :: es) tt) (hdb : (x == ("__debug__" : Str)) = false := by decide) (he : starEach (e :: es) X.env = (false, eval e X.env) :: starEach es X.env := by rfl) (hpl : (backTo pos (starEach es X.env)).any (·.1) = false := by rfl) :
    E X (.Call (.Name x p) (e :: es) [] pos) (tCall sp dvs EE tt) := ⟨L2.pe_call F hr hg hm hk hb hd hx ha.h hdb he hpl⟩
end
end Z

set_option Elab.async false
set_option linter.all false
set_option maxRecDepth 100000
set_option maxHeartbeats 4000000
set_option exponentiation.threshold 3000
/-! k72: the law's cells, draws, pools, places, leaves, names told. Own work. -/
namespace K72
open PySem L2 Builtin.Str
theorem bt_tuple' : bootBuiltins "tuple" = some (.type "tuple") := by decide +kernel
theorem atI_mem {α : Type} {xs : List α} {i : Int} (h0 : 0 ≤ i) (h : i < xs.length) : ∃ c, atI xs i = some c ∧ c ∈ xs := by
  have hk : i.toNat < xs.length := by omega
  refine ⟨xs[i.toNat], ?_, List.getElem_mem hk⟩
  unfold atI ixN
  rw [if_pos h0, if_pos h]
  exact List.getElem?_eq_getElem hk
theorem at_int {cs : List Int} {i : Nat} (h : i < cs.length) : atI (cs.map V.int) (i : Int) = some (.int cs[i]) := atI_nat (by rw [List.getElem?_map, List.getElem?_eq_getElem h]; rfl)
theorem at_mod {α : Type} {xs : List α} (z : Int) {n : Nat} (hn : xs.length = n) (h : 0 < n) : ∃ c, atI xs (z % (n : Int)) = some c ∧ c ∈ xs := by
  have g0 := Int.emod_nonneg z (show (n : Int) ≠ 0 by omega)
  have g1 := Int.emod_lt_of_pos z (show (0 : Int) < n by omega)
  exact atI_mem g0 (by rw [hn]; exact g1)
theorem sg_at (i : Int) (n : Nat) (h0 : 0 < n) (hn : n ≤ 36) : ∃ c : Nat, atI (cpl ("abcdefghijklmnopqrstuvwxyz0123456789" : Str)) (i % (n : Int)) = some c := by
  have g0 := Int.emod_nonneg i (show (n : Int) ≠ 0 by omega)
  have g1 := Int.emod_lt_of_pos i (show (0 : Int) < n by omega)
  obtain ⟨c, ec, _⟩ := atI_mem (xs := cpl ("abcdefghijklmnopqrstuvwxyz0123456789" : Str)) (i := i % (n : Int)) g0 (by rw [show (cpl ("abcdefghijklmnopqrstuvwxyz0123456789" : Str)).length = 36 from by decide]; omega)
  exact ⟨c, ec⟩
def ifBody : Stmt → List Stmt
  | .If _ b _ _ => b
  | _ => []
/-! ### places -/
def pl (k : Int) : Int := k + 2 - 2 * (k % 2)
theorem pl_inj {a b : Int} (h : pl a = pl b) : a = b := by unfold pl at h; omega
def PB (c c' : Int) (ps : List (Int × Str)) : Prop := (ps.map (·.1)).Nodup ∧ ∀ x ∈ ps, x.2.length ≤ 100 ∧ ∃ k : Int, c ≤ k ∧ k < c' ∧ x.1 = pl k
theorem PB.nil {c c' : Int} : PB c c' [] := ⟨List.nodup_nil, fun x hx => nomatch hx⟩
theorem PB.mono {c1 c2 d1 d2 : Int} {ps : List (Int × Str)} (h : PB c1 c2 ps) (h1 : d1 ≤ c1) (h2 : c2 ≤ d2) : PB d1 d2 ps := ⟨h.1, fun x hx => by
  obtain ⟨a, k, k1, k2, e⟩ := h.2 x hx
  exact ⟨a, k, by omega, by omega, e⟩⟩
theorem PB.append {c1 c2 c3 : Int} {ps qs : List (Int × Str)} (h : PB c1 c2 ps) (g : PB c2 c3 qs) (h1 : c1 ≤ c2) (h2 : c2 ≤ c3) : PB c1 c3 (ps ++ qs) := by
  refine ⟨?_, fun x hx => ?_⟩
  · rw [List.map_append, List.nodup_append]
    refine ⟨h.1, g.1, fun a ha b hb e => ?_⟩
    obtain ⟨x, hx, rfl⟩ := List.mem_map.mp ha
    obtain ⟨y, hy, rfl⟩ := List.mem_map.mp hb
    obtain ⟨_, k, k1, k2, e1⟩ := h.2 x hx
    obtain ⟨_, l, l1, l2, e2⟩ := g.2 y hy
    have e' : pl k = pl l := by rw [← e1, ← e2]; exact e
    have := pl_inj e'
    omega
  · rcases List.mem_append.mp hx with hx | hx
    · exact (h.mono (Int.le_refl _) h2).2 x hx
    · exact (g.mono h1 (Int.le_refl _)).2 x hx
/-- places told one behind the other -/
def plsAt (c : Int) (m : Nat) : List Int := (List.range m).map fun i : Nat => pl (c + (i : Int))
theorem plsAt_len (c : Int) (m : Nat) : (plsAt c m).length = m := by unfold plsAt; rw [List.length_map, List.length_range]
theorem plsAt_nd (c : Int) (m : Nat) : (plsAt c m).Nodup := by
  unfold plsAt
  refine List.Pairwise.map _ (fun (a b : Nat) (hab : a ≠ b) e => hab ?_) List.nodup_range
  have := pl_inj e
  omega
theorem plsAt_mem {c : Int} {m : Nat} {p : Int} (h : p ∈ plsAt c m) : ∃ k : Int, c ≤ k ∧ k < c + (m : Int) ∧ p = pl k := by
  unfold plsAt at h
  obtain ⟨i, hi, rfl⟩ := List.mem_map.mp h
  rw [List.mem_range] at hi
  exact ⟨c + (i : Int), by omega, by omega, rfl⟩
theorem PB.of_pls {c : Int} {m : Nat} {ps : List (Int × Str)} (h : ps.map (·.1) = plsAt c m) (hn : ∀ x ∈ ps, x.2.length ≤ 100) : PB c (c + (m : Int)) ps := ⟨by rw [h]; exact plsAt_nd _ _, fun x hx => ⟨hn x hx, plsAt_mem (by rw [← h]; exact List.mem_map.mpr ⟨x, hx, rfl⟩)⟩⟩
/-! ### promises -/
def PoolAt (H : Hp) (D : Addr) : Prop := ∃ ns : List Str, H D = some (.lst (ns.map V.str)) ∧ ns.length = 13 ∧ ∀ n ∈ ns, n.length ≤ 40
def CntAt (H : Hp) (cn : Addr) (c : Int) : Prop := H cn = some (.lst [.int c]) ∧ 0 ≤ c
/-- all but one stays -/
def Kp1 (H H' : Hp) (cn : Addr) : Prop := ∀ a o, a ≠ cn → H a = some o → H' a = some o
theorem Kp1.of {H H' : Hp} {cn : Addr} (s : Same H H') : Kp1 H H' cn := fun a o _ e => s _ _ e
theorem Kp1.trans {H H' H'' : Hp} {cn : Addr} (a : Kp1 H H' cn) (b : Kp1 H' H'' cn) : Kp1 H H'' cn := fun c o n e => b c o n (a c o n e)
theorem Kp1.tup {H H' : Hp} {cn : Addr} {xs : List V} (k : Kp1 H H' cn) (h : H cn = some (.lst xs)) : Tup H H' := fun e ys q => k _ _ (kind_ne q h (fun z => nomatch z)) q
def spCell (K : PySem.W.Frag) : Sp := fun vs H Q _ => ∃ (a : Addr) (k : Nat) (ns : List Int), vs = [.ref a, .int (k : Int)] ∧ SqL K H a (ns.map V.int) ∧ ns.length ≤ 63 ∧ ∀ z : Int, Q (.int z) H
def spNext : Sp := fun vs H Q _ => ∃ (dr : Addr) (ds : List Int), vs = [.ref dr] ∧ H dr = some (.lst (ds.map V.int)) ∧ ∀ (H' : Hp) (z : Int) (ds' : List Int), H' dr = some (.lst (ds'.map V.int)) → ds'.length = ds.length - 1 → Kp1 H H' dr → Q (.int z) H'
def spPool : Sp := fun vs H Q _ => ∃ n : Int, vs = [.int n] ∧ ∀ (H' : Hp) (D : Addr), Same H H' → PoolAt H' D → Q (.ref D) H'
def spNew : Sp := fun vs H Q _ => ∃ (cn : Addr) (m : Nat) (c : Int), vs = [.ref cn, .int (m : Int)] ∧ CntAt H cn c ∧ c ≤ 4 * 10 ^ 18 ∧ m ≤ 1000 ∧ ∀ (H' : Hp) (D : Addr), H' D = some (.lst ((plsAt c m).map V.int)) → CntAt H' cn (c + (m : Int)) → Kp1 H H' cn → H D = none → Q (.ref D) H'
def spLeaf : Sp := fun vs H Q _ => ∃ (z : Int) (kl D : Addr) (Γ : List Int), vs = [.int z, .ref kl, .ref D] ∧ H kl = some (.lst (Γ.map V.int)) ∧ PoolAt H D ∧ ∀ (H' : Hp) (t : Addr) (tg : Tg), Same H H' → CoIn H' (.mk tg []) (.ref t) → scT Γ tg [] → parms (.mk tg []) = [] → Q (.ref t) H'
def spParams : Sp := fun vs H Q _ => ∃ (z : Int) (m : Nat) (D cn : Addr) (c : Int), vs = [.int z, .int (m : Int), .ref D, .ref cn] ∧ PoolAt H D ∧ D ≠ cn ∧ CntAt H cn c ∧ c ≤ 4 * 10 ^ 18 ∧ m ≤ 1000 ∧ ∀ (H' : Hp) (t : Addr) (pvs : List V) (ps : List (Int × Str)), H' t = some (.tup pvs) → Al (PaIn H') ps pvs → ps.map (·.1) = plsAt c m → (∀ x ∈ ps, x.2.length ≤ 100) → CntAt H' cn (c + (m : Int)) → Kp1 H H' cn → Q (.ref t) H'
theorem PoolAt.same {H H' : Hp} {D : Addr} (h : PoolAt H D) (s : Same H H') : PoolAt H' D := by obtain ⟨ns, e, r⟩ := h; exact ⟨ns, s _ _ e, r⟩
theorem PoolAt.keep {H H' : Hp} {D cn : Addr} (h : PoolAt H D) (k : Kp1 H H' cn) (n : D ≠ cn) : PoolAt H' D := by obtain ⟨ns, e, r⟩ := h; exact ⟨ns, k _ _ n e, r⟩
theorem co_num {H : Hp} {t : Addr} {z : Int} (h : H t = some (.tup [.str "num", .int z])) : CoIn H (.mk (.num z) []) (.ref t) := CoIn.mk' (vs := []) ⟨rfl, h⟩ Al.nil
theorem co_free {H : Hp} {t : Addr} {z : Str} (h : H t = some (.tup [.str "free", .str z])) : CoIn H (.mk (.free z) []) (.ref t) := CoIn.mk' (vs := []) ⟨rfl, h⟩ Al.nil
theorem co_seen {H : Hp} {t : Addr} {z : Int} (h : H t = some (.tup [.str "seen", .int z])) : CoIn H (.mk (.seen z) []) (.ref t) := CoIn.mk' (vs := []) ⟨rfl, h⟩ Al.nil
theorem flat_ints (ts : List Int) : (ts.map V.int).all flatV = true := by
  rw [List.all_eq_true]
  intro v hv
  obtain ⟨z, _, rfl⟩ := List.mem_map.mp hv
  rfl
section
variable {P : Program} {w : World} {K : PySem.W.Frag} {mg : Str → Option Value} {base : Heap}
theorem scCell : FnScope ["_law_script", "_law_k"] ["_law_script", "_law_k"] (defScope sCell) := ⟨rfl, rfl, rfl, by decide +kernel, rfl, by decide +kernel, by decide +kernel⟩
theorem ok_cell {f : Addr} {fd : FuncData} (F : Fun K "_law_cell_at" "_law_cell_at" sCell f fd) (T : Txt mg) : FnOk P w K mg base CX0 1 f fd ["_law_script", "_law_k"] (spCell K) := by
  refine F.ok scCell (fun vs H Q E h => ?_) (fun cdv A outer s H vs Q E hr h => ?_)
  · obtain ⟨a, k, ns, rfl, _⟩ := h; rfl
  · obtain ⟨a, k, ns, rfl, hS, hl, q⟩ := h
    refine ⟨_, pss_cons (ps_if (pt_cmpR op_lt (pv 1) (pe_callB call_len_seq (by rfl) T.len bt_len (pa_cons (pv 0) pa_nil)) (nomark _))
      (pss_one (ps_ret (pe_ix ix_list (pv 0) (pv 1) (fun _ _ => rfl))))
      pss_nil)
      (pss_one (ps_ret pe_int)), ?_⟩
    refine ⟨_, rfl, _, rfl, a, _, rfl, .inl hS, _, _, rfl, rfl, _, rfl, ite2 (fun hlt => ?_) (fun _ => q _)⟩
    have hlt' : k < ns.length := by rw [decide_eq_true_eq, List.length_map] at hlt; omega
    exact ⟨_, rfl, _, rfl, a, _, _, _, rfl, rfl, hS, at_int hlt', q _⟩
theorem scNext : FnScope ["_law_draws"] ["_law_draws"] (defScope sNext) := ⟨rfl, rfl, rfl, by decide +kernel, rfl, by decide +kernel, by decide +kernel⟩
theorem ok_next {f : Addr} {fd : FuncData} (F : Fun K "_law_next" "_law_next" sNext f fd) (T : Txt mg) : FnOk P w K mg base CX0 1 f fd ["_law_draws"] spNext := by
  refine F.ok scNext (fun vs H Q E h => ?_) (fun cdv A outer s H vs Q E hr h => ?_)
  · obtain ⟨dr, ds, rfl, _⟩ := h; rfl
  · obtain ⟨dr, ds, rfl, hdr, q⟩ := h
    refine ⟨_, pss_cons (ps_if (pt_cmpR op_gt (pe_callB call_len_seq (by rfl) T.len bt_len (pa_cons (pv 0) pa_nil)) pe_int (nomark _))
      (pss_one (ps_ret (pe_bm0 PySem.F.plainAttrs_list PySem.F.slot_list_pop PySem.F.type_list_pop mt_pop (pv 0))))
      pss_nil)
      (pss_one (ps_ret pe_int)), ?_⟩
    refine ⟨_, rfl, dr, _, rfl, .inl (SqL.of hdr), _, _, rfl, rfl, _, rfl, ite2 (fun c1 => ?_) (fun c1 => ?_)⟩
    · have hpos : 0 < ds.length := by have := of_decide_eq_true c1; rw [List.length_map] at this; omega
      have hne : ds ≠ [] := fun e => by rw [e] at hpos; exact absurd hpos (by decide)
      obtain ⟨ds', z, rfl⟩ : ∃ ds' z, ds = ds' ++ [z] := ⟨_, _, (List.dropLast_concat_getLast hne).symm⟩
      rw [List.map_append] at hdr
      refine ⟨_, rfl, .inl ⟨rfl, _, SqL.of hdr⟩, dr, _, .int z, rfl, rfl, hdr, last_at _ _, ?_⟩
      rw [List.map_cons, List.map_nil, List.dropLast_concat]
      exact q _ z ds' upd_same (by rw [List.length_append]; rfl) (fun a o n e => by rw [upd_ne n]; exact e)
    · have hz : ds.length = 0 := by
        have : ¬ (0 : Int) < (((ds.map V.int).length : Nat) : Int) := fun z => c1 (decide_eq_true z)
        rw [List.length_map] at this
        omega
      exact q H 0 ds hdr (by omega) (fun _ _ _ e => e)
theorem scNew : FnScope ["_law_count", "_law_many_here", "_law_first_here"] ["_law_count", "_law_many_here"] (defScope sNew) := ⟨rfl, rfl, rfl, by decide +kernel, rfl, by decide +kernel, by decide +kernel⟩
theorem lcNew1 : LcS (defScope sNew).names [(".0", .local), ("_law_k", .local)] ["_law_count", "_law_many_here", "_law_first_here"] [false, false, false] := ⟨by decide +kernel, by decide +kernel, by decide +kernel, by decide +kernel, by decide +kernel, rfl⟩
theorem ndNew1 : (["_law_count", "_law_many_here", "_law_first_here", "_law_k"] : List Str).Nodup := by decide +kernel
theorem ok_new {f : Addr} {fd : FuncData} (F : Fun K "_law_new" "_law_new" sNew f fd) (T : Txt mg) : FnOk P w K mg base CX0 1 f fd ["_law_count", "_law_many_here"] spNew := by
  refine F.ok scNew (fun vs H Q E h => ?_) (fun cdv A outer s H vs Q E hr h => ?_)
  · obtain ⟨cn, m, c, rfl, _⟩ := h; rfl
  · obtain ⟨cn, m, c, rfl, ⟨hcn, hc0⟩, hc1, hm, q⟩ := h
    have nd := scNew.nd
    refine ⟨_, pss_cons (ps_set (i := 2) nd rfl (Or.inl rfl) (pe_ix ix_list (pv 0) pe_int (fun _ _ => rfl)))
      (pss_cons (ps_asg (pe_op op_add (pv 2) (pv 1)) (pg_sub (pv 0) pe_int set_list))
      (pss_one (ps_ret (pe_lc (ext := ["_law_k"]) lcNew1 rfl (pi_range2 rfl T.range (pa_cons (pv 2) (pa_cons (pe_op op_add (pv 2) (pv 1)) pa_nil)))
          ⟨fun _ _ _ _ _ => (pg_name (i := 3) ndNew1 rfl (Or.inl rfl) (.inr rfl)), fun _ _ _ _ _ => pts_nil, fun _ _ _ _ _ => (pe_op op_sub (pe_op op_add (pv 3) pe_int) (pe_op op_mul pe_int (pe_op op_mod (pv 3) pe_int)))⟩)))), ?_⟩
    refine ⟨_, rfl, cn, _, _, _, rfl, rfl, SqL.of hcn, rfl, ?_⟩
    refine ⟨_, rfl, _, rfl, _, _, rfl, rfl, _, rfl, cn, _, _, 0, rfl, rfl, hcn, rfl, ?_⟩
    have h1 : upd H cn (.lst ([V.int c].set 0 (.int (c + (m : Int))))) cn = some (.lst [.int (c + (m : Int))]) := upd_same
    have k1 : Kp1 H (upd H cn (.lst ([V.int c].set 0 (.int (c + (m : Int)))))) cn := fun a o n e => by rw [upd_ne n]; exact e
    have f1 : ∀ D, upd H cn (.lst ([V.int c].set 0 (.int (c + (m : Int))))) D = none → H D = none ∧ D ≠ cn := fun D hD => by
      have n : D ≠ cn := fun e => by rw [e, h1] at hD; cases hD
      rw [upd_ne n] at hD
      exact ⟨hD, n⟩
    generalize upd H cn (.lst ([V.int c].set 0 (.int (c + (m : Int))))) = H1 at h1 k1 f1 ⊢
    refine ⟨_, rfl, _, rfl, _, rfl, _, _, rfl, rfl, _, _, rfl, ⟨by omega, by omega, by omega, by omega⟩, fun D hD => ?_⟩
    rw [show (c + (m : Int) - c).toNat = m by omega]
    refine lc_rng (lo := c) (n := m) (fun k ys σ' H' => (∃ v, σ' = [none, none, none, v]) ∧ Same H1 H' ∧ H' D = some (.lst ys) ∧ ys = (plsAt c k).map V.int)
      ⟨⟨_, rfl⟩, same_upd hD, upd_same, rfl⟩ ?_ ?_
    · rintro k ys σ' H' hk ⟨⟨v, rfl⟩, sH, hDy, hys⟩
      unfold gName
      refine yes_if ?_
      refine ⟨_, rfl, _, _, rfl, rfl, _, rfl, _, _, rfl, rfl, (by show (0 : Int) < _; decide), _, _, rfl, rfl, .inl ⟨by decide, by decide⟩, _, _, rfl, rfl, hDy, by rw [hys, List.length_map, plsAt_len, sizeLine_eq]; omega, Beh.of hk ⟨⟨_, rfl⟩, fun e o qe => ?_, upd_same, ?_⟩⟩
      · rw [upd_ne (ne_of_none qe hD)]; exact sH _ _ qe
      · rw [hys]
        unfold plsAt
        rw [List.range_succ, List.map_append, List.map_append]
        rfl
    · rintro ys σ' H' ⟨_, sH, hDy, hys⟩
      rw [hys] at hDy
      exact q H' D hDy ⟨sH _ _ h1, by omega⟩ (k1.trans (Kp1.of sH)) (f1 D hD).1
theorem scLeaf : FnScope ["_law_cell", "_law_known", "_law_pool_here", "_law_name"] ["_law_cell", "_law_known", "_law_pool_here"] (defScope sLeaf) := ⟨rfl, rfl, rfl, by decide +kernel, rfl, by decide +kernel, by decide +kernel⟩
theorem ok_leaf {f : Addr} {fd : FuncData} (F : Fun K "_law_leaf" "_law_leaf" sLeaf f fd) (T : Txt mg) : FnOk P w K mg base CX0 1 f fd ["_law_cell", "_law_known", "_law_pool_here"] spLeaf := by
  refine F.ok scLeaf (fun vs H Q E h => ?_) (fun cdv A outer s H vs Q E hr h => ?_)
  · obtain ⟨z, kl, D, Γ, rfl, _⟩ := h; rfl
  · obtain ⟨z, kl, D, Γ, rfl, hkl, ⟨ns, hD, hnl, hns⟩, q⟩ := h
    have nd := scLeaf.nd
    have hu := hu_of hr
    have z2 : 2 ≤ sizeLine := by rw [sizeLine_eq]; decide
    have FREE : ∃ t : TS, PSs (cxOf CX0 P w K mg base ["_law_cell", "_law_known", "_law_pool_here", "_law_name"] "_law_leaf" (defScope sLeaf) f cdv A outer s H E).nox (ifBody ((defBody sLeaf).getD 1 (.Pass ⟨0, 0, 0, 0⟩))) t ∧
        ∀ (D' : Ends) (H1 : Hp), D'.rt = Q → Same H H1 → t D' [some (.int z), some (.ref kl), some (.ref D), none] H1 := by
      refine ⟨_, (pss_cons (ps_set (i := 3) nd rfl (Or.inl rfl) (pe_ix ix_list (pv 2) (pe_op op_mod (pe_op op_fdiv (pv 0) pe_int) pe_int) (fun _ _ => rfl)))
        (pss_cons (ps_if (pt_cmpR op_in_seq (pv 3) (pe_lst (pa_strs (xs := ["fn", "pick", "now", "mac"]) (by rfl))) rfl)
        (pss_one (ps_set (i := 3) nd rfl (Or.inl rfl) (pe_op op_add_str (pv 3) pe_str)))
        pss_nil)
        (pss_one (ps_ret (pe_tup (pa_cons pe_str (pa_cons (pv 3) pa_nil))))))), ?_⟩
      intro D' H1 hD' s1
      obtain ⟨v, ev, hv⟩ := at_mod (xs := ns.map V.str) (z / 4) (n := 13) (by rw [List.length_map]; exact hnl) (by decide)
      obtain ⟨n, hn, rfl⟩ := List.mem_map.mp hv
      have hn40 := hns n hn
      refine ⟨_, rfl, _, rfl, _, _, rfl, rfl, ⟨by decide, by decide⟩, _, _, rfl, rfl, (by show (0 : Int) < _; decide), D, _, _, _, rfl, rfl, SqL.of (s1 _ _ hD), ev, ?_⟩
      refine ⟨_, rfl, by rw [sizeLine_eq]; decide, fun l hl => ?_⟩
      have s2 := s1.trans (same_upd (o := .lst ((["fn", "pick", "now", "mac"] : List Str).map V.str)) hl)
      refine ⟨l, _, rfl, .inl (SqL.of upd_same), rfl, rfl, _, rfl, ite2 (fun _ => ?_) (fun _ => ?_)⟩
      · refine ⟨_, rfl, _, _, rfl, rfl, by rw [sizeLine_eq]; show n.length + 1 ≤ _; omega, ⟨_, rfl, z2, fun t ht => ?_⟩⟩
        rw [hD']
        exact q _ t _ (s2.trans (same_upd ht)) (co_free upd_same) trivial rfl
      · refine ⟨_, rfl, z2, fun t ht => ?_⟩
        rw [hD']
        exact q _ t _ (s2.trans (same_upd ht)) (co_free upd_same) trivial rfl
    obtain ⟨tF, hF, free⟩ := FREE
    refine ⟨_, pss_cons (ps_if (pt_cmpR op_eq (pe_op op_mod (pv 0) pe_int) pe_int (nomark _))
      (pss_one (ps_ret (pe_tup (pa_cons pe_str (pa_cons (pe_op op_mod (pe_op op_fdiv (pv 0) pe_int) (pe_op op_pow pe_int pe_int)) pa_nil)))))
      pss_nil)
      (pss_cons (ps_if (PW.pt (pw_or (pt_cmpR op_eq (pe_op op_mod (pv 0) pe_int) pe_int (nomark _)) (pw_or1 (pt_cmpR (op_eqL hu) (pv 1) (pe_lst pa_nil) (nomark _)))))
      hF
      pss_nil)
      (pss_one (ps_ret (pe_tup (pa_cons pe_str (pa_cons (pe_ix ix_list (pv 1) (pe_op op_mod (pe_op op_fdiv (pv 0) pe_int) (pe_callB call_len_seq (by rfl) T.len bt_len (pa_cons (pv 1) pa_nil))) (fun _ _ => rfl)) pa_nil)))))), ?_⟩
    refine ⟨_, rfl, _, _, rfl, rfl, (by show (0 : Int) < _; decide), rfl, _, rfl, ite2 (fun _ => ?_) (fun _ => ?_)⟩
    · refine ⟨_, rfl, _, _, rfl, rfl, ⟨by decide, by decide⟩, _, _, rfl, rfl, ⟨by decide, by decide, by decide⟩, _, _, rfl, rfl, (by show (0 : Int) < _; decide), z2, fun t ht => ?_⟩
      exact q _ t _ (same_upd ht) (co_num upd_same) trivial rfl
    refine ⟨_, rfl, _, _, rfl, rfl, (by show (0 : Int) < _; decide), rfl, _, rfl, ite2 (fun _ => ?_) (fun _ => ?_)⟩
    · exact iteT (free _ H rfl (Same.refl _))
    refine ⟨_, rfl, Nat.zero_le _, fun e he => ?_⟩
    have s1 := same_upd (o := .lst []) he
    refine ⟨kl, e, _, [], rfl, rfl, SqL.of (s1 _ _ hkl), SqL.of upd_same, flat_ints Γ, rfl, _, rfl, ite2 (fun c1 => ?_) (fun c1 => ?_)⟩
    · exact free _ _ rfl s1
    · have hne : Γ ≠ [] := fun z => c1 (by rw [z]; rfl)
      have hpos : 0 < Γ.length := List.length_pos_iff.mpr hne
      obtain ⟨v, ev, hv⟩ := at_mod (xs := Γ.map V.int) (z / 4) (n := Γ.length) (by rw [List.length_map]) hpos
      obtain ⟨p, hp, rfl⟩ := List.mem_map.mp hv
      have elen : (((Γ.map V.int).length : Nat) : Int) = (Γ.length : Int) := by rw [List.length_map]
      have epos : (0 : Int) < (((Γ.map V.int).length : Nat) : Int) := by rw [elen]; omega
      have ev' : atI (Γ.map V.int) (z / 4 % (((Γ.map V.int).length : Nat) : Int)) = some (.int p) := by rw [elen]; exact ev
      refine ⟨_, rfl, _, rfl, _, _, rfl, rfl, ⟨by decide, by decide⟩, _, rfl, kl, _, rfl, .inl (SqL.of (s1 _ _ hkl)), _, _, rfl, rfl, epos, kl, _, _, _, rfl, rfl, SqL.of (s1 _ _ hkl), ev', z2, fun t ht => ?_⟩
      exact q _ t _ (s1.trans (same_upd ht)) (co_seen upd_same) hp rfl
theorem scParams : FnScope ["_law_cell", "_law_many_here", "_law_pool_here", "_law_count"] ["_law_cell", "_law_many_here", "_law_pool_here", "_law_count"] (defScope sParams) := ⟨rfl, rfl, rfl, by decide +kernel, rfl, by decide +kernel, by decide +kernel⟩
theorem lcParams1 : LcS (defScope sParams).names [(".0", .local), ("_law_place", .local), ("_law_cell", .free), ("_law_pool_here", .free)] ["_law_cell", "_law_many_here", "_law_pool_here", "_law_count"] [true, false, true, false] := ⟨by decide +kernel, by decide +kernel, by decide +kernel, by decide +kernel, by decide +kernel, rfl⟩
theorem ndParams1 : (["_law_cell", "_law_many_here", "_law_pool_here", "_law_count", "_law_place"] : List Str).Nodup := by decide +kernel
theorem ok_params {f fW : Addr} {fd fdW : FuncData} (F : Fun K "_law_params" "_law_params" sParams f fd) (T : Txt mg)
    (FW : Fun K "_law_new" "_law_new" sNew fW fdW) (bW : Binds K fdW ["_law_count", "_law_many_here"] []) (mW : mg "_law_new" = some (.ref fW)) : FnOk P w K mg base CX0 2 f fd ["_law_cell", "_law_many_here", "_law_pool_here", "_law_count"] spParams := by
  have GW : FnOk P w K mg base CX0 1 fW fdW ["_law_count", "_law_many_here"] spNew := ok_new FW T
  refine F.ok scParams (fun vs H Q E h => ?_) (fun cdv A outer s H vs Q E hr h => ?_)
  · obtain ⟨z, m, D, cn, c, rfl, _⟩ := h; rfl
  · obtain ⟨z, m, D, cn, c, rfl, hD, nDc, hcn, hc1, hm, q⟩ := h
    have nd := scParams.nd
    have z2 : 2 ≤ sizeLine := by rw [sizeLine_eq]; decide
    refine ⟨_, pss_one (ps_ret (pe_callTy call_tuple_of (by rfl) T.tuple bt_tuple' (pa_cons (pe_lc (ext := ["_law_place"]) lcParams1 rfl (pi_list (pe_call GW hr (by rfl) mW FW.kp bW .nil pass0 (pa_cons (pv 3) (pa_cons (pv 1) pa_nil))))
        ⟨fun _ _ _ _ _ => (pg_name (i := 4) ndParams1 rfl (Or.inl rfl) (.inr rfl)), fun _ _ _ _ _ => pts_nil, fun _ _ _ _ _ => (pe_tup (pa_cons (pv 4) (pa_cons (pe_ix (ix_list : IxR _ (rIxL K)) (pv 2) (pe_op op_mod (pe_op op_add (pv 0) (pe_op op_mul (pv 4) (pv 4))) pe_int) (fun _ _ => rfl)) pa_nil)))⟩) pa_nil))), ?_⟩
    refine ⟨_, rfl, _, rfl, cn, m, c, rfl, hcn, hc1, hm, fun H1 L hL hcn1 k1 hLn => ?_⟩
    have hD1 := hD.keep k1 nDc
    obtain ⟨ns, hD2, hnl, hns⟩ := hD1
    refine ⟨L, rfl, ⟨_, SqL.of hL⟩, fun R hR => ?_⟩
    refine lc_lst (K := K) (a := L) (xs := (plsAt c m).map V.int) (fun k ys σ' H' => (∃ v, σ' = [some (.int z), none, some (.ref D), none, v]) ∧ Same H1 H' ∧ H' R = some (.lst ys) ∧ ∃ ps : List (Int × Str), Al (PaIn H') ps ys ∧ ps.map (·.1) = (plsAt c m).take k ∧ ∀ x ∈ ps, x.2.length ≤ 100)
      ⟨⟨_, rfl⟩, same_upd hR, upd_same, [], Al.nil, rfl, fun x hx => nomatch hx⟩ (fun k ys σ' H' _ hP => SqL.of (hP.2.1 _ _ hL)) ?_ ?_
    · rintro k x ys σ' H' hx ⟨⟨v, rfl⟩, sH, hRy, ps, hpa, hpf, hpn⟩
      unfold gName
      refine yes_if ?_
      have hk := (List.getElem?_eq_some_iff.mp hx).1
      rw [List.getElem?_map] at hx
      cases ex : (plsAt c m)[k]? with
      | none => rw [ex] at hx; exact nomatch hx
      | some p =>
        rw [ex] at hx
        cases hx
        have hkm : k < m := by rw [List.length_map, plsAt_len] at hk; exact hk
        obtain ⟨j, j1, j2, ej⟩ := plsAt_mem (List.mem_of_getElem? ex)
        have hpb : -(2 ^ 64) < p ∧ p < 2 ^ 64 := by rw [ej]; unfold pl; have := hcn.2; constructor <;> omega
        obtain ⟨nv, ev, hv⟩ := at_mod (xs := ns.map V.str) (z + p * p) (n := 13) (by rw [List.length_map]; exact hnl) (by decide)
        obtain ⟨n, hn, rfl⟩ := List.mem_map.mp hv
        refine ⟨_, rfl, _, rfl, _, rfl, _, rfl, _, rfl, _, _, rfl, rfl, .inl hpb, _, _, rfl, rfl, _, _, rfl, rfl, (by show (0 : Int) < _; decide), D, _, _, _, rfl, rfl, SqL.of (sH _ _ hD2), ev, z2, fun t ht => ?_⟩
        have s3 := same_upd (o := .tup [.int p, .str n]) ht
        have hR3 := s3 _ _ hRy
        have hpl : ps.length = k := by have := congrArg List.length hpf; rw [List.length_map, List.length_take, plsAt_len] at this; omega
        refine ⟨hR3, by rw [hpa.1, hpl, sizeLine_eq]; omega, Beh.of hk ⟨⟨_, rfl⟩, fun e o qe => ?_, upd_same, ps ++ [(p, n)], ?_, ?_, fun x hx => ?_⟩⟩
        · rw [upd_ne (ne_of_none qe hR)]; exact s3 _ _ (sH _ _ qe)
        · have tk := Tup.lst (ys := ys ++ [.ref t]) hR3
          exact (hpa.mono fun _ _ z => (z.tup (Tup.of s3)).tup tk).snoc (a := (p, n)) ⟨t, rfl, tk _ _ upd_same⟩
        · rw [List.map_append, hpf, List.take_succ, ex]; rfl
        · rcases List.mem_append.mp hx with hx | hx
          · exact hpn x hx
          · rw [List.mem_singleton.mp hx]; have := hns n hn; show n.length ≤ 100; omega
    · rintro ys σ' H2 ⟨_, s2, hRy, ps, hpa, hpf, hpn⟩
      refine ⟨R, ys, rfl, .inl ⟨SqL.of hRy, fun t ht => ?_⟩⟩
      have s3 := same_upd (o := .tup ys) ht
      rw [List.length_map, List.take_length] at hpf
      exact q _ t ys ps upd_same (hpa.mono fun _ _ z => z.tup (Tup.of s3)) hpf hpn ⟨s3 _ _ (s2 _ _ hcn1.1), hcn1.2⟩ (k1.trans (Kp1.of (s2.trans s3)))
end
end K72

set_option Elab.async false
set_option linter.all false
set_option maxRecDepth 100000
set_option maxHeartbeats 4000000
set_option exponentiation.threshold 3000
/-! k72: the law's cores. Own work. -/
namespace K72
open PySem L2 Builtin.Str
def szb : Nat → Nat
  | 0 => 1
  | d + 1 => 1 + 4 * szb d
theorem szb_pos : ∀ d, 1 ≤ szb d
  | 0 => Nat.le_refl _
  | d + 1 => by show 1 ≤ 1 + 4 * szb d; omega
def bnds (cs : List Co) : List (Int × Str) := (pres cs).flatMap parms
theorem bnds_nil : bnds [] = [] := by unfold bnds; rw [pres]; rfl
theorem bnds_one (t : Tg) (ks : List Co) : bnds [.mk t ks] = parms (.mk t ks) ++ bnds ks := by
  unfold bnds
  rw [pres_cons, pre_eq]
  simp [pres]
theorem bnds_append (xs ys : List Co) : bnds (xs ++ ys) = bnds xs ++ bnds ys := by
  unfold bnds
  rw [pres_append, List.flatMap_append]
theorem Scs.append {Γ : List Int} : ∀ {xs ys : List Co}, Scs Γ xs → Scs Γ ys → Scs Γ (xs ++ ys)
  | [], ys, _, h => h
  | x :: xs, ys, h, g => by
    unfold Scs at h
    show Scs Γ (x :: (xs ++ ys))
    unfold Scs
    exact ⟨h.1, Scs.append h.2 g⟩
theorem dps_append : ∀ (xs ys : List Co), dps (xs ++ ys) = max (dps xs) (dps ys)
  | [], ys => by simp [dps]
  | x :: xs, ys => by
    show dps (x :: (xs ++ ys)) = _
    rw [dps, dps, dps_append xs ys]
    omega
/-- what comes of a making -/
structure Res (H : Hp) (Γ : List Int) (c c' : Int) (S D : Nat) (cos : List Co) (vs : List V) : Prop where
  al : Al (CoIn H) cos vs
  sc : Scs Γ cos
  pb : PB c c' (bnds cos)
  le : c ≤ c'
  cb : c' ≤ c + 8 * (S : Int)
  sz : szs cos ≤ S
  dp : dps cos ≤ D
  wd : ∀ k ∈ cos, Wd k
theorem Res.nil {H : Hp} {Γ : List Int} {c : Int} {D : Nat} : Res H Γ c c 0 D [] [] := ⟨Al.nil, by unfold Scs; trivial, by rw [bnds_nil]; exact PB.nil, Int.le_refl _, by omega, by rw [szs]; omega, by rw [dps]; omega, fun k hk => nomatch hk⟩
theorem Res.tup {H H' : Hp} {Γ : List Int} {c c' : Int} {S D : Nat} {cos : List Co} {vs : List V} (h : Res H Γ c c' S D cos vs) (s : Tup H H') : Res H' Γ c c' S D cos vs := ⟨h.al.mono fun _ _ r => r.tup s, h.sc, h.pb, h.le, h.cb, h.sz, h.dp, h.wd⟩
theorem Res.weak {H : Hp} {Γ : List Int} {c c' : Int} {S D S' D' : Nat} {cos : List Co} {vs : List V} (h : Res H Γ c c' S D cos vs) (hS : S ≤ S') (hD : D ≤ D') : Res H Γ c c' S' D' cos vs := ⟨h.al, h.sc, h.pb, h.le, by have := h.cb; omega, Nat.le_trans h.sz hS, Nat.le_trans h.dp hD, h.wd⟩
theorem Res.append {H : Hp} {Γ : List Int} {c c1 c2 : Int} {S1 S2 D : Nat} {cos dos : List Co} {vs us : List V} (h : Res H Γ c c1 S1 D cos vs) (g : Res H Γ c1 c2 S2 D dos us) : Res H Γ c c2 (S1 + S2) D (cos ++ dos) (vs ++ us) := by
  refine ⟨h.al.append g.al, h.sc.append g.sc, ?_, ?_, ?_, ?_, ?_, fun k hk => ?_⟩
  · rw [bnds_append]; exact h.pb.append g.pb h.le g.le
  · have := h.le; have := g.le; omega
  · have := h.cb; have := g.cb; omega
  · rw [szs_append]; have := h.sz; have := g.sz; omega
  · rw [dps_append]; have := h.dp; have := g.dp; omega
  · rcases List.mem_append.mp hk with hk | hk
    · exact h.wd k hk
    · exact g.wd k hk
theorem Res.up {H : Hp} {Γ : List Int} {c c1 c' : Int} {S D : Nat} {cos : List Co} {vs : List V} {t : Tg} {a : Addr} (h : Res H (scG Γ t) c1 c' S D cos vs) (hat : CoAt H t a vs) (hT : scT Γ t cos) (hp : PB c c1 (parms (.mk t cos))) (h1 : c ≤ c1) (h2 : c1 ≤ c + 8) (hl : cos.length ≤ 1000) (hpl : (parms (.mk t cos)).length ≤ 20) :
    Res H Γ c c' (1 + S) (1 + D) [.mk t cos] [.ref a] := by
  refine ⟨Al.cons (CoIn.mk' hat h.al) Al.nil, ?_, ?_, ?_, ?_, ?_, ?_, fun k hk e he => ?_⟩
  · unfold Scs Sc; exact ⟨⟨hT, h.sc⟩, by unfold Scs; trivial⟩
  · rw [bnds_one]; exact hp.append h.pb h1 h.le
  · have := h.le; omega
  · have := h.cb; omega
  · rw [szs_cons, sz_mk, szs]; have := h.sz; omega
  · rw [dps, dp_mk, dps]; have := h.dp; omega
  · rw [List.mem_singleton.mp hk] at he
    rcases pre_mk.mp he with rfl | ⟨k', hk', he⟩
    · exact ⟨hl, hpl⟩
    · exact h.wd k' hk' e he
def Kp2 (H H' : Hp) (cn dr : Addr) : Prop := ∀ a o, a ≠ cn → a ≠ dr → H a = some o → H' a = some o
theorem Kp2.trans {H H' H'' : Hp} {cn dr : Addr} (a : Kp2 H H' cn dr) (b : Kp2 H' H'' cn dr) : Kp2 H H'' cn dr := fun c o n m e => b c o n m (a c o n m e)
theorem Kp2.of {H H' : Hp} {cn dr : Addr} (s : Same H H') : Kp2 H H' cn dr := fun a o _ _ e => s _ _ e
theorem Kp2.of1 {H H' : Hp} {cn dr : Addr} (s : Kp1 H H' cn) : Kp2 H H' cn dr := fun a o n _ e => s _ _ n e
theorem Kp2.of2 {H H' : Hp} {cn dr : Addr} (s : Kp1 H H' dr) : Kp2 H H' cn dr := fun a o _ n e => s _ _ n e
structure GenIn (H : Hp) (dr kl D cn : Addr) (ds Γ : List Int) (c : Int) (S d : Nat) : Prop where
  hdr : H dr = some (.lst (ds.map V.int))
  hkl : H kl = some (.lst (Γ.map V.int))
  hD : PoolAt H D
  hcn : CntAt H cn c
  hc : c + 8 * (S : Int) ≤ 4 * 10 ^ 18
  n1 : dr ≠ cn
  n2 : kl ≠ cn
  n3 : kl ≠ dr
  n4 : D ≠ cn
  n5 : D ≠ dr
  gl : Γ.length + 10 * d ≤ 100000
theorem Kp2.tup {H H' : Hp} {cn dr : Addr} {xs ys : List V} (k : Kp2 H H' cn dr) (h : H cn = some (.lst xs)) (g : H dr = some (.lst ys)) : Tup H H' := fun e zs q => k _ _ (kind_ne q h (fun z => nomatch z)) (kind_ne q g (fun z => nomatch z)) q
theorem PoolAt.keep2 {H H' : Hp} {D cn dr : Addr} (h : PoolAt H D) (k : Kp2 H H' cn dr) (n : D ≠ cn) (m : D ≠ dr) : PoolAt H' D := by obtain ⟨ns, e, r⟩ := h; exact ⟨ns, k _ _ n m e, r⟩
def spCore (d : Nat) : Sp := fun vs H Q _ => ∃ (dr kl D cn : Addr) (ds Γ : List Int) (c : Int), vs = [.ref dr, .int (d : Int), .ref kl, .ref D, .ref cn] ∧ GenIn H dr kl D cn ds Γ c (szb d) d ∧
  ∀ (H' : Hp) (v : V) (co : Co) (c' : Int) (ds' : List Int), Res H' Γ c c' (szb d) (d + 1) [co] [v] → CntAt H' cn c' → H' dr = some (.lst (ds'.map V.int)) → ds'.length ≤ ds.length - 1 → Kp2 H H' cn dr → Q v H'
def spMany (d : Nat) : Sp := fun vs H Q _ => ∃ (dr kl D cn : Addr) (ds Γ : List Int) (c : Int) (m : Nat), vs = [.ref dr, .int (d : Int), .ref kl, .ref D, .ref cn, .int (m : Int)] ∧ GenIn H dr kl D cn ds Γ c (m * szb d) d ∧ m ≤ 100 ∧
  ∀ (H' : Hp) (t : Addr) (pvs : List V) (cos : List Co) (c' : Int) (ds' : List Int), H' t = some (.tup pvs) → Res H' Γ c c' (m * szb d) (d + 1) cos pvs → cos.length = m → CntAt H' cn c' → H' dr = some (.lst (ds'.map V.int)) → ds'.length ≤ ds.length → Kp2 H H' cn dr → Q (.ref t) H'
def spNo : Sp := fun _ _ _ _ => False
abbrev pCore : List Str := ["_law_draws", "_law_depth", "_law_known", "_law_pool_here", "_law_count"]
abbrev pMany : List Str := ["_law_draws", "_law_depth", "_law_known", "_law_pool_here", "_law_count", "_law_many_here"]
section
variable {P : Program} {w : World} {K : PySem.W.Frag} {mg : Str → Option Value} {base : Heap}
theorem fn_no {k : Nat} {f : Addr} {fd : FuncData} {ps : List Str} : FnOk P w K mg base CX0 k f fd ps spNo := ⟨fun _ _ _ _ h => h.elim, fun _ _ _ _ _ _ _ _ _ _ _ _ _ h => h.elim⟩
abbrev NMany : List Str := ["_law_draws", "_law_depth", "_law_known", "_law_pool_here", "_law_count", "_law_many_here", "_law_parts", "_law_k"]
theorem scMany : FnScope NMany pMany (defScope sMany) := ⟨rfl, rfl, rfl, by decide +kernel, rfl, by decide +kernel, by decide +kernel⟩
theorem many_step {d : Nat} {f fR : Addr} {fd fdR : FuncData} (F : Fun K "_law_many" "_law_many" sMany f fd) (T : Txt mg) (kR : PySem.W.keepIn K (.ref fR) = true) (bR : Binds K fdR pCore []) (mR : mg "_law_core" = some (.ref fR)) (GR : FnOk P w K mg base CX0 (2 * d + 2) fR fdR pCore (spCore d)) :
    FnOk P w K mg base CX0 (2 * d + 3) f fd pMany (spMany d) := by
  refine F.ok scMany (fun vs H Q E h => ?_) (fun cdv A outer s H vs Q E hr h => ?_)
  · obtain ⟨dr, kl, D, cn, ds, Γ, c, m, rfl, _⟩ := h; rfl
  · obtain ⟨dr, kl, D, cn, ds, Γ, c, m, rfl, g, hm, q⟩ := h
    have nd := scMany.nd
    refine ⟨_, pss_cons (ps_set (i := 6) nd rfl (Or.inl rfl) (pe_lst pa_nil))
      (pss_cons (ps_for PassesOwn.never rfl (pi_range1 rfl T.range (pa_cons (pv 5) pa_nil)) (pg_name (i := 7) nd rfl (Or.inl rfl))
      (pss_one (ps_expr (pe_bm PySem.F.plainAttrs_list PySem.F.slot_list_append PySem.F.type_list_append mt_append (pv 6) (pa_cons (pe_call GR hr (by rfl) mR kR bR .nil pass0 (pa_cons (pv 0) (pa_cons (pv 1) (pa_cons (pv 2) (pa_cons (pv 3) (pa_cons (pv 4) pa_nil)))))) pa_nil)))))
      (pss_one (ps_ret (pe_callTy call_tuple_of (by rfl) T.tuple bt_tuple' (pa_cons (pv 6) pa_nil))))), ?_⟩
    refine ⟨Nat.zero_le _, fun L hL => ?_⟩
    have s1 := same_upd (o := .lst []) hL
    have nLc : L ≠ cn := Ne.symm (ne_of_none g.hcn.1 hL)
    have nLd : L ≠ dr := Ne.symm (ne_of_none g.hdr hL)
    refine ⟨_, rfl, _, rfl, by omega, by omega, ?_⟩
    have hsb := szb_pos d
    refine for_range (lo := 0) (n := ((m : Nat) : Int).toNat) (fun i σ H' => (∃ v7, σ = [some (.ref dr), some (.int (d : Int)), some (.ref kl), some (.ref D), some (.ref cn), some (.int (m : Int)), some (.ref L), v7]) ∧ ∃ (cos : List Co) (vs : List V) (c' : Int) (ds' : List Int), H' L = some (.lst vs) ∧ Res H' Γ c c' (i * szb d) (d + 1) cos vs ∧ cos.length = i ∧ CntAt H' cn c' ∧ H' dr = some (.lst (ds'.map V.int)) ∧ ds'.length ≤ ds.length ∧ Kp2 H H' cn dr)
      ⟨⟨_, rfl⟩, [], [], c, ds, upd_same, by rw [Nat.zero_mul]; exact Res.nil, rfl, ⟨s1 _ _ g.hcn.1, g.hcn.2⟩, s1 _ _ g.hdr, Nat.le_refl _, Kp2.of s1⟩ ?_ ?_
    · rintro i σ H' hi ⟨⟨v7, rfl⟩, cos, vs, c', ds', hLv, hR, hcl, hcn', hdr', hdl, kp⟩
      have him : i < m := by omega
      have hmul : i * szb d + szb d ≤ m * szb d := by
        have := Nat.mul_le_mul_right (szb d) (show i + 1 ≤ m by omega)
        rw [Nat.succ_mul] at this
        exact this
      have hcb := hR.cb
      have hgc := g.hc
      refine ⟨_, rfl, .inl ⟨rfl, _, SqL.of hLv⟩, _, rfl, _, rfl, _, rfl, _, rfl, _, rfl, dr, kl, D, cn, ds', Γ, c', rfl, ⟨hdr', kp _ _ g.n2 g.n3 g.hkl, g.hD.keep2 kp g.n4 g.n5, hcn', by omega, g.n1, g.n2, g.n3, g.n4, g.n5, g.gl⟩, fun H2 v co c2 ds2 hR2 hcn2 hdr2 hdl2 kp2 => ?_⟩
      have hL2 := kp2 _ _ nLc nLd hLv
      have tk1 := kp2.tup hcn'.1 hdr'
      have tk2 := Tup.lst (ys := vs ++ [v]) hL2
      refine ⟨L, vs, v, rfl, rfl, hL2, by rw [hR.al.1, hcl, sizeLine_eq]; omega, ⟨_, rfl⟩, cos ++ [co], vs ++ [v], c2, ds2, upd_same, ?_, by rw [List.length_append, hcl]; rfl, ⟨by rw [upd_ne (Ne.symm nLc)]; exact hcn2.1, hcn2.2⟩, by rw [upd_ne (Ne.symm nLd)]; exact hdr2, by omega, fun a o n1 n2 e => ?_⟩
      · rw [Nat.succ_mul]
        exact ((hR.tup tk1).append hR2).tup tk2
      · rw [upd_ne (ne_of_none e hL)]; exact kp2 _ _ n1 n2 (kp _ _ n1 n2 e)
    · rintro σ H' ⟨⟨v7, rfl⟩, cos, vs, c', ds', hLv, hR, hcl, hcn', hdr', hdl, kp⟩
      have em : ((m : Nat) : Int).toNat = m := by omega
      rw [em] at hR hcl
      refine ⟨_, rfl, L, vs, rfl, .inl ⟨SqL.of hLv, fun t ht => ?_⟩⟩
      have s2 := same_upd (o := .tup vs) ht
      exact q _ t vs cos c' ds' upd_same (hR.tup (Tup.of s2)) hcl ⟨s2 _ _ hcn'.1, hcn'.2⟩ (s2 _ _ hdr') hdl (kp.trans (Kp2.of s2))
abbrev NCore : List Str := ["_law_draws", "_law_depth", "_law_known", "_law_pool_here", "_law_count", "_law_cell", "_law_kind", "_law_more", "_law_many_here", "_law_params_here", "_law_body", "_law_parts"]
theorem scCore : FnScope NCore pCore (defScope sCore) := ⟨rfl, rfl, rfl, by decide +kernel, rfl, by decide +kernel, by decide +kernel⟩
theorem lcCore1 : LcS (defScope sCore).names [(".0", .local), ("_law_pair", .local)] NCore [false, false, false, false, false, false, false, false, false, false, false, false] := ⟨by decide +kernel, by decide +kernel, by decide +kernel, by decide +kernel, by decide +kernel, rfl⟩
theorem ndCore1 : (["_law_draws", "_law_depth", "_law_known", "_law_pool_here", "_law_count", "_law_cell", "_law_kind", "_law_more", "_law_many_here", "_law_params_here", "_law_body", "_law_parts", "_law_pair"] : List Str).Nodup := by decide +kernel
theorem core_step {d : Nat} {spR spY : Sp} {f fX fL fP fY : Addr} {fd fdX fdL fdP fdY : FuncData} (F : Fun K "_law_core" "_law_core" sCore f fd) (T : Txt mg) (bR : Binds K fd pCore []) (mR : mg "_law_core" = some (.ref f))
    (kX : PySem.W.keepIn K (.ref fX) = true) (bX : Binds K fdX ["_law_draws"] []) (mX : mg "_law_next" = some (.ref fX)) (GX : FnOk P w K mg base CX0 (2 * d + 1) fX fdX ["_law_draws"] spNext)
    (kL : PySem.W.keepIn K (.ref fL) = true) (bL : Binds K fdL ["_law_cell", "_law_known", "_law_pool_here"] []) (mL : mg "_law_leaf" = some (.ref fL)) (GL : FnOk P w K mg base CX0 (2 * d + 1) fL fdL ["_law_cell", "_law_known", "_law_pool_here"] spLeaf)
    (kP : PySem.W.keepIn K (.ref fP) = true) (bP : Binds K fdP ["_law_cell", "_law_many_here", "_law_pool_here", "_law_count"] []) (mP : mg "_law_params" = some (.ref fP)) (spP : Sp) (GP : FnOk P w K mg base CX0 (2 * d + 1) fP fdP ["_law_cell", "_law_many_here", "_law_pool_here", "_law_count"] spP)
    (kY : PySem.W.keepIn K (.ref fY) = true) (bY : Binds K fdY pMany []) (mY : mg "_law_many" = some (.ref fY)) (GY : FnOk P w K mg base CX0 (2 * d + 1) fY fdY pMany spY)
    (GR : FnOk P w K mg base CX0 (2 * d + 1) f fd pCore spR) (hsp : ∀ d', d = d' + 1 → spR = spCore d' ∧ spY = spMany d' ∧ spP = spParams) : FnOk P w K mg base CX0 (2 * d + 2) f fd pCore (spCore d) := by
  refine F.ok scCore (fun vs H Q E h => ?_) (fun cdv A outer s H vs Q E hr h => ?_)
  · obtain ⟨dr, kl, D, cn, ds, Γ, c, rfl, _⟩ := h; rfl
  · obtain ⟨dr, kl, D, cn, ds, Γ, c, rfl, g, q⟩ := h
    have nd := scCore.nd
    have z1 : 1 ≤ sizeLine := by rw [sizeLine_eq]; decide
    have z2 : 2 ≤ sizeLine := by rw [sizeLine_eq]; decide
    have z3 : 3 ≤ sizeLine := by rw [sizeLine_eq]; decide
    refine ⟨_, Z.suite (Z.pss_cons (Z.ps_set (i := 5) nd rfl (Or.inl rfl) (Z.pe_call GX hr (by rfl) mX kX bX .nil pass0 (Z.pa_cons (Z.pv 0) Z.pa_nil)))
      (Z.pss_cons (Z.ps_set (i := 6) nd rfl (Or.inl rfl) (Z.pe_op op_mod (Z.pv 5) Z.pe_int))
      (Z.pss_cons (Z.ps_set (i := 7) nd rfl (Or.inl rfl) (Z.pe_op op_fdiv (Z.pv 5) Z.pe_int))
      (Z.pss_cons (Z.ps_if (Z.pt (Z.pw_or (Z.pt_cmpR op_eq (Z.pv 1) Z.pe_int (nomark _)) (Z.pw_or1 (Z.pt_cmpR op_lt (Z.pv 6) Z.pe_int (nomark _)))))
      (Z.pss_one (Z.ps_ret (Z.pe_call GL hr (by rfl) mL kL bL .nil pass0 (Z.pa_cons (Z.pv 7) (Z.pa_cons (Z.pv 2) (Z.pa_cons (Z.pv 3) Z.pa_nil))))))
      Z.pss_nil)
      (Z.pss_cons (Z.ps_if (Z.pt_cmpR op_lt (Z.pv 6) Z.pe_int (nomark _))
      (Z.pss_cons (Z.ps_set (i := 8) nd rfl (Or.inl rfl) (Z.pe_ix ix_list (Z.pe_lst (Z.pa_cons Z.pe_int (Z.pa_cons Z.pe_int (Z.pa_cons Z.pe_int (Z.pa_cons Z.pe_int (Z.pa_cons Z.pe_int (Z.pa_cons Z.pe_int (Z.pa_cons Z.pe_int (Z.pa_cons (Z.pe_op op_add Z.pe_int (Z.pe_op op_mod (Z.pe_op op_fdiv (Z.pv 7) Z.pe_int) Z.pe_int)) Z.pa_nil))))))))) (Z.pe_op op_mod (Z.pv 7) Z.pe_int) (fun _ _ => rfl)))
        (Z.pss_cons (Z.ps_set (i := 9) nd rfl (Or.inl rfl) (Z.pe_call GP hr (by rfl) mP kP bP .nil pass0 (Z.pa_cons (Z.pe_op op_fdiv (Z.pv 7) Z.pe_int) (Z.pa_cons (Z.pv 8) (Z.pa_cons (Z.pv 3) (Z.pa_cons (Z.pv 4) Z.pa_nil))))))
        (Z.pss_cons (Z.ps_set (i := 10) nd rfl (Or.inl rfl) (Z.pe_call GR hr (by rfl) mR F.kp bR .nil pass0 (Z.pa_cons (Z.pv 0) (Z.pa_cons (Z.pe_op op_sub (Z.pv 1) Z.pe_int) (Z.pa_cons (Z.pe_op op_cat ⟨pe_lc (ext := ["_law_pair"]) lcCore1 rfl (pi_tup (pv 9))
          ⟨fun _ _ _ _ _ => (pg_name (i := 12) ndCore1 rfl (Or.inl rfl) (.inr rfl)), fun _ _ _ _ _ => pts_nil, fun _ _ _ _ _ => (pe_ix (ix_tup : IxR _ (rIxT K)) (pv 12) pe_int (fun _ _ => rfl))⟩⟩ (Z.pv 2)) (Z.pa_cons (Z.pv 3) (Z.pa_cons (Z.pv 4) Z.pa_nil)))))))
        (Z.pss_one (Z.ps_ret (Z.pe_tup (Z.pa_cons Z.pe_str (Z.pa_cons (Z.pv 9) (Z.pa_cons (Z.pv 10) Z.pa_nil)))))))))
      Z.pss_nil)
      (Z.pss_cons (Z.ps_if (Z.pt_cmpR op_eq (Z.pv 6) Z.pe_int (nomark _))
      (Z.pss_cons (Z.ps_set (i := 11) nd rfl (Or.inl rfl) (Z.pe_call GY hr (by rfl) mY kY bY .nil pass0 (Z.pa_cons (Z.pv 0) (Z.pa_cons (Z.pe_op op_sub (Z.pv 1) Z.pe_int) (Z.pa_cons (Z.pv 2) (Z.pa_cons (Z.pv 3) (Z.pa_cons (Z.pv 4) (Z.pa_cons (Z.pe_op op_add Z.pe_int (Z.pe_op op_mod (Z.pv 7) Z.pe_int)) Z.pa_nil))))))))
        (Z.pss_one (Z.ps_ret (Z.pe_tup (Z.pa_cons Z.pe_str (Z.pa_cons (Z.pe_ix ix_tup (Z.pv 11) Z.pe_int (fun _ _ => rfl)) (Z.pa_cons (Z.pe_slice sl_tup (Z.pv 11) (Z.po_some Z.pe_int) Z.po_none) Z.pa_nil)))))))
      Z.pss_nil)
      (Z.pss_cons (Z.ps_if (Z.pt_cmpR op_eq (Z.pv 6) Z.pe_int (nomark _))
      (Z.pss_one (Z.ps_ret (Z.pe_op op_catT (Z.pe_tup (Z.pa_cons Z.pe_str Z.pa_nil)) (Z.pe_call GY hr (by rfl) mY kY bY .nil pass0 (Z.pa_cons (Z.pv 0) (Z.pa_cons (Z.pe_op op_sub (Z.pv 1) Z.pe_int) (Z.pa_cons (Z.pv 2) (Z.pa_cons (Z.pv 3) (Z.pa_cons (Z.pv 4) (Z.pa_cons Z.pe_int Z.pa_nil))))))))))
      Z.pss_nil)
      (Z.pss_one (Z.ps_ret (Z.pe_tup (Z.pa_cons Z.pe_str (Z.pa_cons (Z.pe_call GR hr (by rfl) mR F.kp bR .nil pass0 (Z.pa_cons (Z.pv 0) (Z.pa_cons (Z.pe_op op_sub (Z.pv 1) Z.pe_int) (Z.pa_cons (Z.pv 2) (Z.pa_cons (Z.pv 3) (Z.pa_cons (Z.pv 4) Z.pa_nil)))))) Z.pa_nil)))))))))))), ?_⟩
    refine ⟨_, rfl, dr, ds, rfl, g.hdr, fun H1 z ds1 hdr1 hl1 k1 => ?_⟩
    have kp1 : Kp2 H H1 cn dr := Kp2.of2 k1
    have hkl1 := k1 _ _ g.n3 g.hkl
    have hD1 := g.hD.keep k1 g.n5
    have hcn1 : CntAt H1 cn c := ⟨k1 _ _ (Ne.symm g.n1) g.hcn.1, g.hcn.2⟩
    refine ⟨_, rfl, _, _, rfl, rfl, (by show (0 : Int) < _; decide), ?_⟩
    refine ⟨_, rfl, _, _, rfl, rfl, ⟨by decide, by decide⟩, ?_⟩
    have leaf : ∀ E' : XK, spLeaf [.int (z / 8), .ref kl, .ref D] H1 Q E' := fun E' => by
      refine ⟨_, kl, D, Γ, rfl, hkl1, hD1, fun H2 t tg s2 hco hsc hpm => ?_⟩
      have hr0 : Res H2 Γ c c (1 + 0) (1 + d) [.mk tg []] [.ref t] := Res.up (t := tg) (cos := []) (vs := []) (c1 := c) Res.nil (by obtain ⟨a', vs', e, h1, h2⟩ := hco.cut; cases e; have := h2.nil_of; rw [this] at h1; exact h1) hsc (by rw [hpm]; exact PB.nil) (Int.le_refl _) (by omega) (by decide) (by rw [hpm]; decide)
      exact q _ _ _ c ds1 (hr0.weak (by have := szb_pos d; omega) (by omega)) ⟨s2 _ _ hcn1.1, hcn1.2⟩ (s2 _ _ hdr1) (by omega) (kp1.trans (Kp2.of s2))
    refine ⟨_, rfl, rfl, decide ((d : Int) = 0), by rw [dec_I], ite2 (fun c1 => ?_) (fun c1 => ?_)⟩
    · exact iteT ⟨_, rfl, _, rfl, _, rfl, leaf E0⟩
    have hd0 : ¬ (d : Int) = 0 := fun z => c1 (decide_eq_true z)
    obtain ⟨d', rfl⟩ : ∃ d', d = d' + 1 := ⟨d - 1, by omega⟩
    obtain ⟨rfl, rfl, rfl⟩ := hsp d' rfl
    have hsb : szb (d' + 1) = 1 + 4 * szb d' := rfl
    have hgc := g.hc
    rw [hsb] at hgc
    have ed : ((d' + 1 : Nat) : Int) - 1 = (d' : Int) := by omega
    refine ⟨_, rfl, _, _, rfl, rfl, _, rfl, ite2 (fun c2 => ?_) (fun c2 => ?_)⟩
    · exact ⟨_, rfl, _, rfl, _, rfl, leaf E0⟩
    -- a fn
    refine ⟨_, rfl, _, _, rfl, rfl, _, rfl, ite2 (fun c3 => ?_) (fun c3 => ?_)⟩
    · refine ⟨_, rfl, _, _, rfl, rfl, ⟨by decide, by decide⟩, _, _, rfl, rfl, (by show (0 : Int) < _; decide), _, _, rfl, rfl, by rw [sizeLine_eq]; show 8 ≤ _; decide, fun l hl => ?_⟩
      have sl := same_upd (o := .lst [V.int 0, V.int 1, V.int 2, V.int 3, V.int 1, V.int 2, V.int 3, V.int (4 + z / 8 / 8 % 5)]) hl
      obtain ⟨v, ev, hv⟩ := at_mod (xs := [V.int 0, V.int 1, V.int 2, V.int 3, V.int 1, V.int 2, V.int 3, V.int (4 + z / 8 / 8 % 5)]) (z / 8) (n := 8) rfl (by decide)
      obtain ⟨m, rfl, hm8⟩ : ∃ m : Nat, v = .int (m : Int) ∧ m ≤ 8 := by
        simp only [List.mem_cons, List.not_mem_nil, or_false] at hv
        rcases hv with rfl | rfl | rfl | rfl | rfl | rfl | rfl | rfl
        · exact ⟨0, rfl, by decide⟩
        · exact ⟨1, rfl, by decide⟩
        · exact ⟨2, rfl, by decide⟩
        · exact ⟨3, rfl, by decide⟩
        · exact ⟨1, rfl, by decide⟩
        · exact ⟨2, rfl, by decide⟩
        · exact ⟨3, rfl, by decide⟩
        · exact ⟨(4 + z / 8 / 8 % 5).toNat, by congr 1; omega, by omega⟩
      refine ⟨_, rfl, _, _, rfl, rfl, (by show (0 : Int) < _; decide), l, _, _, _, rfl, rfl, SqL.of upd_same, ev, ?_⟩
      have hdr2 := sl _ _ hdr1
      have hkl2 := sl _ _ hkl1
      have hD2 := hD1.same sl
      have hcn2 : CntAt _ cn c := ⟨sl _ _ hcn1.1, hcn1.2⟩
      have kp2 := kp1.trans (Kp2.of sl)
      generalize upd H1 l (.lst [V.int 0, V.int 1, V.int 2, V.int 3, V.int 1, V.int 2, V.int 3, V.int (4 + z / 8 / 8 % 5)]) = H2 at hdr2 hkl2 hD2 hcn2 kp2 ⊢
      refine ⟨_, rfl, _, _, rfl, rfl, ⟨by decide, by decide⟩, _, rfl, _, rfl, _, rfl, _, m, D, cn, c, rfl, hD2, g.n4, hcn2, by omega, by omega, fun H3 t pvs ps ht hpa hpf hpn hcn3 k3 => ?_⟩
      have hdr3 := k3 _ _ g.n1 hdr2
      have hkl3 := k3 _ _ g.n2 hkl2
      have hD3 := hD2.keep k3 g.n4
      have kp3 := kp2.trans (Kp2.of1 k3)
      have hpsl : ps.length = m := by have := congrArg List.length hpf; rw [List.length_map, plsAt_len] at this; exact this
      refine ⟨_, rfl, _, rfl, _, _, rfl, rfl, _, rfl, t, rfl, ⟨_, SqT.of ht⟩, fun R hRn => ?_⟩
      refine lc_tpl (K := K) (a := t) (xs := pvs) (fun k ys σ' H' => (∃ v, σ' = [none, none, none, none, none, none, none, none, none, none, none, none, v]) ∧ Same H3 H' ∧ H' R = some (.lst ys) ∧ ys = ((ps.map (·.1)).take k).map V.int)
        ⟨⟨_, rfl⟩, same_upd hRn, upd_same, rfl⟩ (fun k ys σ' H' _ hP => SqT.of (hP.2.1 _ _ ht)) ?_ ?_
      · rintro k x ys σ' H' hx ⟨⟨v, rfl⟩, sH, hRy, hys⟩
        unfold gName
        refine yes_if ?_
        have hk := (List.getElem?_eq_some_iff.mp hx).1
        obtain ⟨⟨p, n⟩, ep, hp⟩ := hpa.at hx
        obtain ⟨t0, rfl, ht0⟩ := hp
        refine ⟨_, rfl, t0, _, _, _, rfl, rfl, SqT.of (sH _ _ ht0), rfl, hRy, ?_, Beh.of hk ⟨⟨_, rfl⟩, fun e o qe => ?_, upd_same, ?_⟩⟩
        · rw [hys, List.length_map, List.length_take, List.length_map, sizeLine_eq]; omega
        · rw [upd_ne (ne_of_none qe hRn)]; exact sH _ _ qe
        · rw [hys, List.take_succ, List.getElem?_map, ep, List.map_append]; rfl
      · rintro ys σ' H4 ⟨_, s4, hR4, hys⟩
        have epl : pvs.length = (ps.map (·.1)).length := by rw [hpa.1, List.length_map]
        rw [epl, List.take_length] at hys
        rw [hys] at hR4
        have hkl4 := s4 _ _ hkl3
        have hgl := g.gl
        refine ⟨_, rfl, R, kl, _, _, rfl, rfl, hR4, hkl4, by rw [List.length_map, List.length_map, List.length_map, hpsl, sizeLine_eq]; omega, fun K2 hK2 => ?_⟩
        rw [← List.map_append]
        have s5 := same_upd (o := .lst ((ps.map (·.1) ++ Γ).map V.int)) hK2
        have hdr5 := s5 _ _ (s4 _ _ hdr3)
        have hcn5 : CntAt _ cn (c + (m : Int)) := ⟨s5 _ _ (s4 _ _ hcn3.1), hcn3.2⟩
        have hD5 := (hD3.same s4).same s5
        have kp5 := kp3.trans (Kp2.of (s4.trans s5))
        have ht5 := s5 _ _ (s4 _ _ ht)
        have hpa5 := hpa.mono fun _ _ r => r.tup (Tup.of (s4.trans s5))
        have hK5 : upd H4 K2 (.lst ((ps.map (·.1) ++ Γ).map V.int)) K2 = some (.lst ((ps.map (·.1) ++ Γ).map V.int)) := upd_same
        have nKc : K2 ≠ cn := Ne.symm (ne_of_none (s4 _ _ hcn3.1) hK2)
        have nKd : K2 ≠ dr := Ne.symm (ne_of_none (s4 _ _ hdr3) hK2)
        generalize upd H4 K2 (.lst ((ps.map (·.1) ++ Γ).map V.int)) = H5 at hdr5 hcn5 hD5 kp5 ht5 hpa5 hK5 ⊢
        refine ⟨_, rfl, _, rfl, dr, K2, D, cn, ds1, ps.map (·.1) ++ Γ, c + (m : Int), (by show [V.ref dr, V.int (((d' + 1 : Nat) : Int) - 1), V.ref K2, V.ref D, V.ref cn] = _; rw [ed]), ⟨hdr5, hK5, hD5, hcn5, by omega, g.n1, nKc, nKd, g.n4, g.n5, by rw [List.length_append, List.length_map, hpsl]; omega⟩, fun H6 bv co c6 ds6 hR6 hcn6 hdr6 hdl6 kp6 => ?_⟩
        have tk6 := kp6.tup hcn5.1 hdr5
        have ht6 := tk6 _ _ ht5
        have hpa6 := hpa5.mono fun _ _ r => r.tup tk6
        refine ⟨_, rfl, _, rfl, z3, fun t7 ht7 => ?_⟩
        have s7 := same_upd (o := .tup [.str "fn", .ref t, bv]) ht7
        have hR7 := hR6.tup (Tup.of s7)
        have up := Res.up (Γ := Γ) (c := c) (t := .fn ps) (a := t7) (show Res _ (scG Γ (.fn ps)) (c + (m : Int)) c6 (szb d') (d' + 1) [co] [bv] from hR7) ⟨t, pvs, bv, rfl, upd_same, s7 _ _ ht6, hpa6.mono fun _ _ r => r.tup (Tup.of s7)⟩ (show [co].length = 1 from rfl) (PB.of_pls hpf hpn) (by omega) (by omega) (by show 1 ≤ 1000; decide) (by show ps.length ≤ 20; omega)
        exact q _ _ _ c6 ds6 (up.weak (by rw [hsb]; omega) (by omega)) ⟨s7 _ _ hcn6.1, hcn6.2⟩ (s7 _ _ hdr6) (by omega) ((kp5.trans kp6).trans (Kp2.of s7))
    -- the others: inputs of the makings
    have gin : ∀ (H2 : Hp) (S : Nat), Same H1 H2 → S ≤ 4 * szb d' → GenIn H2 dr kl D cn ds1 Γ c S d' := fun H2 S s2 hS => by
      have hgl := g.gl
      exact ⟨s2 _ _ hdr1, s2 _ _ hkl1, hD1.same s2, ⟨s2 _ _ hcn1.1, hcn1.2⟩, by omega, g.n1, g.n2, g.n3, g.n4, g.n5, by omega⟩
    have hsp' := szb_pos d'
    -- a call
    refine ⟨_, rfl, rfl, _, rfl, ite2 (fun c4 => ?_) (fun c4 => ?_)⟩
    · have m0 := Int.emod_nonneg (z / 8) (show (4 : Int) ≠ 0 by decide)
      have m1 := Int.emod_lt_of_pos (z / 8) (show (0 : Int) < 4 by decide)
      obtain ⟨m, em, hm4⟩ : ∃ m : Nat, 1 + z / 8 % 4 = ((m + 1 : Nat) : Int) ∧ m ≤ 3 := ⟨(z / 8 % 4).toNat, by omega, by omega⟩
      have hmul : (m + 1) * szb d' ≤ 4 * szb d' := Nat.mul_le_mul_right _ (by omega)
      refine ⟨_, rfl, _, rfl, _, _, rfl, rfl, _, rfl, _, rfl, _, rfl, _, rfl, _, _, rfl, rfl, (by show (0 : Int) < _; decide), _, _, rfl, rfl, dr, kl, D, cn, ds1, Γ, c, m + 1, ?_, gin H1 _ (Same.refl _) hmul, by omega, fun H2 t pvs cos c2 ds2 ht hR2 hcl hcn2 hdr2 hdl2 kp2 => ?_⟩
      · show [V.ref dr, V.int (((d' + 1 : Nat) : Int) - 1), V.ref kl, V.ref D, V.ref cn, V.int (1 + z / 8 % 4)] = _
        rw [ed, em]
      obtain ⟨co, cos', rfl⟩ : ∃ co cos', cos = co :: cos' := match cos, hcl with | co :: cos', _ => ⟨co, cos', rfl⟩
      obtain ⟨x, xs, rfl, hx, hxs⟩ := hR2.al.uncons
      refine ⟨_, rfl, t, _, _, _, rfl, rfl, SqT.of ht, atI_nat (j := 0) rfl, _, rfl, _, rfl, t, _, rfl, SqT.of ht, cut_no _ _, fun p hp => ?_⟩
      rw [cut_tail]
      have s3 := same_upd (o := .tup xs) hp
      refine ⟨z3, fun t4 ht4 => ?_⟩
      have s4 := same_upd (o := .tup [.str "call", x, .ref p]) ht4
      have up := Res.up (Γ := Γ) (c := c) (t := .call) (a := t4) (show Res _ (scG Γ .call) c c2 ((m + 1) * szb d') (d' + 1) (co :: cos') (x :: xs) from hR2.tup (Tup.of (s3.trans s4))) ⟨p, x, xs, rfl, upd_same, s4 _ _ upd_same⟩ trivial PB.nil (Int.le_refl _) (by omega) (by rw [hcl]; omega) (by show ([] : List (Int × Str)).length ≤ 20; decide)
      exact q _ _ _ c2 ds2 (up.weak (by rw [hsb]; omega) (by omega)) ⟨s4 _ _ (s3 _ _ hcn2.1), hcn2.2⟩ (s4 _ _ (s3 _ _ hdr2)) (by omega) ((kp1.trans kp2).trans (Kp2.of (s3.trans s4)))
    -- a pick
    refine ⟨_, rfl, rfl, _, rfl, ite2 (fun c5 => ?_) (fun c5 => ?_)⟩
    · refine ⟨z1, fun t1 ht1 => ?_⟩
      have s1 := same_upd (o := .tup [.str "pick"]) ht1
      have hmul : 3 * szb d' ≤ 4 * szb d' := Nat.mul_le_mul_right _ (by omega)
      refine ⟨_, rfl, _, rfl, _, _, rfl, rfl, _, rfl, _, rfl, _, rfl, dr, kl, D, cn, ds1, Γ, c, 3, ?_, gin _ _ s1 hmul, by omega, fun H2 t pvs cos c2 ds2 ht hR2 hcl hcn2 hdr2 hdl2 kp2 => ?_⟩
      · show [V.ref dr, V.int (((d' + 1 : Nat) : Int) - 1), V.ref kl, V.ref D, V.ref cn, V.int 3] = _
        rw [ed]; rfl
      have tk2 := kp2.tup (s1 _ _ hcn1.1) (s1 _ _ hdr1)
      obtain ⟨k1', k2', k3', rfl⟩ : ∃ a b e, cos = [a, b, e] := match cos, hcl with | [a, b, e], _ => ⟨a, b, e, rfl⟩
      obtain ⟨x1, r1, rfl, hx1, hr1⟩ := hR2.al.uncons
      obtain ⟨x2, r2, rfl, hx2, hr2⟩ := hr1.uncons
      obtain ⟨x3, r3, rfl, hx3, hr3⟩ := hr2.uncons
      have er := hr3.nil_of
      subst er
      refine ⟨t1, t, _, _, rfl, rfl, SqT.of (tk2 _ _ upd_same), SqT.of ht, (fun z => nomatch z), by rw [sizeLine_eq]; show 1 + 3 ≤ _; decide, (fun z => nomatch z), fun _ t4 ht4 => ?_⟩
      have s4 := same_upd (o := .tup [.str "pick", x1, x2, x3]) ht4
      have up := Res.up (Γ := Γ) (c := c) (t := .pick) (a := t4) (show Res _ (scG Γ .pick) c c2 (3 * szb d') (d' + 1) [k1', k2', k3'] [x1, x2, x3] from hR2.tup (Tup.of s4)) ⟨x1, x2, x3, rfl, upd_same⟩ trivial PB.nil (Int.le_refl _) (by omega) (by show 3 ≤ 1000; decide) (by show ([] : List (Int × Str)).length ≤ 20; decide)
      exact q _ _ _ c2 ds2 (up.weak (by rw [hsb]; omega) (by omega)) ⟨s4 _ _ hcn2.1, hcn2.2⟩ (s4 _ _ hdr2) (by omega) (((kp1.trans (Kp2.of s1)).trans kp2).trans (Kp2.of s4))
    -- a now
    refine ⟨_, rfl, _, rfl, _, _, rfl, rfl, _, rfl, _, rfl, _, rfl, dr, kl, D, cn, ds1, Γ, c, ?_, gin H1 _ (Same.refl _) (by omega), fun H2 v co c2 ds2 hR2 hcn2 hdr2 hdl2 kp2 => ?_⟩
    · show [V.ref dr, V.int (((d' + 1 : Nat) : Int) - 1), V.ref kl, V.ref D, V.ref cn] = _
      rw [ed]
    refine ⟨z2, fun t4 ht4 => ?_⟩
    have s4 := same_upd (o := .tup [.str "now", v]) ht4
    have up := Res.up (Γ := Γ) (c := c) (t := .now) (a := t4) (show Res _ (scG Γ .now) c c2 (szb d') (d' + 1) [co] [v] from hR2.tup (Tup.of s4)) ⟨v, rfl, upd_same⟩ trivial PB.nil (Int.le_refl _) (by omega) (by show 1 ≤ 1000; decide) (by show ([] : List (Int × Str)).length ≤ 20; decide)
    exact q _ _ _ c2 ds2 (up.weak (by rw [hsb]; omega) (by omega)) ⟨s4 _ _ hcn2.1, hcn2.2⟩ (s4 _ _ hdr2) (by omega) ((kp1.trans kp2).trans (Kp2.of s4))
end
end K72

set_option Elab.async false
set_option linter.all false
set_option maxRecDepth 100000
set_option maxHeartbeats 4000000
set_option exponentiation.threshold 3000
/-! k72: the law's pools and nests. Own work. -/
namespace K72
open PySem L2 Builtin.Str
mutual
theorem Sc.mono : ∀ {c : Co} {Γ Γ' : List Int}, Sc Γ c → (∀ p ∈ Γ, p ∈ Γ') → Sc Γ' c
  | .mk t ks, Γ, Γ', h, s => by
    unfold Sc at h ⊢
    obtain ⟨h1, h2⟩ := h
    cases t with
    | seen p => exact ⟨s p h1, Scs.mono h2 s⟩
    | fn ps => exact ⟨h1, Scs.mono h2 fun p hp => by
        rcases List.mem_append.mp hp with z | z
        · exact List.mem_append_left _ z
        · exact List.mem_append_right _ (s p z)⟩
    | num z => exact ⟨trivial, Scs.mono h2 s⟩
    | free n => exact ⟨trivial, Scs.mono h2 s⟩
    | call => exact ⟨trivial, Scs.mono h2 s⟩
    | pick => exact ⟨trivial, Scs.mono h2 s⟩
    | now => exact ⟨trivial, Scs.mono h2 s⟩
theorem Scs.mono : ∀ {cs : List Co} {Γ Γ' : List Int}, Scs Γ cs → (∀ p ∈ Γ, p ∈ Γ') → Scs Γ' cs
  | [], Γ, Γ', _, _ => by unfold Scs; trivial
  | c :: cs, Γ, Γ', h, s => by
    unfold Scs at h ⊢
    exact ⟨Sc.mono h.1 s, Scs.mono h.2 s⟩
end
theorem scT_nil {Γ : List Int} : ∀ {tg : Tg}, scT [] tg [] → scT Γ tg []
  | .seen p, h => nomatch (show p ∈ ([] : List Int) from h)
  | .fn ps, h => nomatch (show ([] : List Co).length = 1 from h)
  | .num _, _ => trivial
  | .free _, _ => trivial
  | .call, _ => trivial
  | .pick, _ => trivial
  | .now, _ => trivial
def RowIn (H : Hp) (q : Int × Str) (v : V) : Prop := ∃ t u, v = .ref t ∧ H t = some (.tup [.ref u]) ∧ H u = some (.tup [.int q.1, .str q.2])
theorem RowIn.tup {H H' : Hp} (s : Tup H H') {q : Int × Str} {v : V} (h : RowIn H q v) : RowIn H' q v := by obtain ⟨t, u, e, h1, h2⟩ := h; exact ⟨t, u, e, s _ _ h1, s _ _ h2⟩
theorem plsAt_succ (c : Int) (k : Nat) : plsAt c (k + 1) = plsAt c k ++ [pl (c + (k : Int))] := by
  unfold plsAt
  rw [List.range_succ, List.map_append]; rfl
def spNest : Sp := fun vs H Q _ => ∃ (z : Int) (kl D cn : Addr) (Γ : List Int) (c : Int), vs = [.int z, .ref kl, .ref D, .ref cn] ∧ H kl = some (.lst (Γ.map V.int)) ∧ PoolAt H D ∧ CntAt H cn c ∧ c + 1000 ≤ 4 * 10 ^ 18 ∧ kl ≠ cn ∧ D ≠ cn ∧ Γ.length ≤ 1000 ∧
  ∀ (H' : Hp) (v : V) (co : Co) (c' : Int), Res H' Γ c c' 200 70 [co] [v] → CntAt H' cn c' → Kp1 H H' cn → Q v H'
section
variable {P : Program} {w : World} {K : PySem.W.Frag} {mg : Str → Option Value} {base : Heap}
theorem ok_core {f fX fL fP fY fW : Addr} {fd fdX fdL fdP fdY fdW : FuncData} (F : Fun K "_law_core" "_law_core" sCore f fd) (T : Txt mg) (bR : Binds K fd pCore []) (mR : mg "_law_core" = some (.ref f))
    (FX : Fun K "_law_next" "_law_next" sNext fX fdX) (bX : Binds K fdX ["_law_draws"] []) (mX : mg "_law_next" = some (.ref fX))
    (FL : Fun K "_law_leaf" "_law_leaf" sLeaf fL fdL) (bL : Binds K fdL ["_law_cell", "_law_known", "_law_pool_here"] []) (mL : mg "_law_leaf" = some (.ref fL))
    (FP : Fun K "_law_params" "_law_params" sParams fP fdP) (bP : Binds K fdP ["_law_cell", "_law_many_here", "_law_pool_here", "_law_count"] []) (mP : mg "_law_params" = some (.ref fP))
    (FY : Fun K "_law_many" "_law_many" sMany fY fdY) (bY : Binds K fdY pMany []) (mY : mg "_law_many" = some (.ref fY))
    (FW : Fun K "_law_new" "_law_new" sNew fW fdW) (bW : Binds K fdW ["_law_count", "_law_many_here"] []) (mW : mg "_law_new" = some (.ref fW)) : ∀ d : Nat, FnOk P w K mg base CX0 (2 * d + 2) f fd pCore (spCore d)
  | 0 => core_step (spR := spNo) (spY := spNo) F T bR mR FX.kp bX mX (ok_next FX T) FL.kp bL mL (ok_leaf FL T) FP.kp bP mP spNo fn_no FY.kp bY mY fn_no fn_no fun d' e => by omega
  | d + 1 => by
    have ih := ok_core F T bR mR FX bX mX FL bL mL FP bP mP FY bY mY FW bW mW d
    refine core_step (d := d + 1) (spR := spCore d) (spY := spMany d) F T bR mR FX.kp bX mX ((ok_next FX T).mono (by omega)) FL.kp bL mL ((ok_leaf FL T).mono (by omega)) FP.kp bP mP spParams ((ok_params FP T FW bW mW).mono (by omega)) FY.kp bY mY ((many_step FY T F.kp bR mR ih).mono (by omega)) (ih.mono (by omega)) fun d' e => ?_
    have : d = d' := by omega
    subst this
    exact ⟨rfl, rfl, rfl⟩
abbrev NPool : List Str := ["_law_cell", "_law_signs", "_law_word", "_law_k", "_law_pool_here"]
theorem scPool : FnScope NPool ["_law_cell"] (defScope sPool) := ⟨rfl, rfl, rfl, by decide +kernel, rfl, by decide +kernel, by decide +kernel⟩
abbrev KW6 : List Str := ["fn", "pick", "now", "mac", "show", "add"]
theorem ok_pool {f : Addr} {fd : FuncData} (F : Fun K "_law_pool" "_law_pool" sPool f fd) (T : Txt mg) : FnOk P w K mg base CX0 1 f fd ["_law_cell"] spPool := by
  refine F.ok scPool (fun vs H Q E h => ?_) (fun cdv A outer s H vs Q E hr h => ?_)
  · obtain ⟨n, rfl, _⟩ := h; rfl
  · obtain ⟨n, rfl, q⟩ := h
    have nd := scPool.nd
    have RESTX : ∃ t : TS, PSs (cxOf CX0 P w K mg base NPool "_law_pool" (defScope sPool) f cdv A outer s H E).nox ((defBody sPool).drop 3) t ∧
        ∀ (x : Str) (v3 : Option V) (H1 : Hp), Same H H1 → x.length ≤ 31 → t { nx := fun _ H' => Q .non H', rt := Q } [some (.int n), some (.str "abcdefghijklmnopqrstuvwxyz0123456789"), some (.str x), v3, none] H1 := by
      refine ⟨_, Z.suite (Z.pss_cons (Z.ps_set (i := 4) nd rfl (Or.inl rfl) (Z.pe_lst (Z.pa_cons (Z.pv 2) (Z.pa_cons (Z.pv 2) (Z.pa_cons (Z.pv 2) (Z.pa_cons (Z.pe_op op_add_str (Z.pv 2) Z.pe_str) (Z.pa_cons (Z.pe_op op_add_str (Z.pv 2) Z.pe_str) (Z.pa_cons (Z.pe_op op_add_str (Z.pv 2) Z.pe_str) (Z.pa_cons (Z.pe_op op_add_str (Z.pv 2) Z.pe_str) Z.pa_nil)))))))))
        (Z.pss_one (Z.ps_ret (Z.pe_op op_cat (Z.pv 4) (Z.pe_lst (Z.pa_strs (xs := KW6) (by rfl))))))), ?_⟩
      intro x v3 H1 s0 hx
      have l1 : x.length + 1 ≤ sizeLine := by rw [sizeLine_eq]; omega
      have l2 : x.length + 2 ≤ sizeLine := by rw [sizeLine_eq]; omega
      refine ⟨_, rfl, _, rfl, _, rfl, _, rfl, _, _, rfl, rfl, l1, _, rfl, _, _, rfl, rfl, l2, _, rfl, _, _, rfl, rfl, l1, _, rfl, _, _, rfl, rfl, l1, by rw [sizeLine_eq]; show 7 ≤ _; decide, fun l hl => ?_⟩
      refine ⟨_, rfl, by rw [sizeLine_eq]; decide, fun l2' hl2 => ?_⟩
      have s1 := same_upd (o := .lst (([x, x, x, x ++ ("2" : Str), x ++ ("22" : Str), x ++ ("3" : Str), x ++ ("a" : Str)] : List Str).map V.str)) hl
      have s2 := same_upd (o := .lst (KW6.map V.str)) hl2
      refine ⟨l, l2', ([x, x, x, x ++ ("2" : Str), x ++ ("22" : Str), x ++ ("3" : Str), x ++ ("a" : Str)] : List Str).map V.str, KW6.map V.str, rfl, rfl, s2 _ _ upd_same, upd_same, by rw [sizeLine_eq]; show 7 + 6 ≤ _; decide, fun D hD => ?_⟩
      rw [← List.map_append]
      refine q _ D (((s0.trans s1).trans s2).trans (same_upd hD)) ⟨_, upd_same, rfl, fun n hn => ?_⟩
      have ln : ∀ (a : Str), a.length ≤ 2 → (x ++ a).length ≤ 40 := fun a ha => by rw [str_cat_len]; omega
      rcases List.mem_append.mp hn with hn | hn
      · simp only [List.mem_cons, List.not_mem_nil, or_false] at hn
        rcases hn with rfl | rfl | rfl | rfl | rfl | rfl | rfl
        · omega
        · omega
        · omega
        · exact ln _ (by decide)
        · exact ln _ (by decide)
        · exact ln _ (by decide)
        · exact ln _ (by decide)
      · exact (show ∀ n ∈ KW6, n.length ≤ 40 by decide) n hn
    obtain ⟨tR, hR, rest⟩ := RESTX
    refine ⟨_, pss_cons (ps_set (i := 1) nd rfl (Or.inl rfl) pe_str)
      (pss_cons (ps_set (i := 2) nd rfl (Or.inl rfl) (pe_ix ix_str (pv 1) (pe_op op_mod (pv 0) pe_int) (fun _ _ => rfl)))
      (pss_cons (ps_for PassesOwn.never rfl (pi_range1 rfl T.range (pa_cons (pe_ix ix_list (pe_lst (pa_cons pe_int (pa_cons pe_int (pa_cons pe_int (pa_cons pe_int (pa_cons pe_int (pa_cons (pe_op op_add pe_int (pe_op op_mod (pe_op op_fdiv (pv 0) pe_int) pe_int)) pa_nil))))))) (pe_op op_mod (pe_op op_fdiv (pv 0) pe_int) pe_int) (fun _ _ => rfl)) pa_nil)) (pg_name (i := 3) nd rfl (Or.inl rfl))
      (pss_one (ps_set (i := 2) nd rfl (Or.inl rfl) (pe_op op_add_str (pv 2) (pe_ix ix_str (pv 1) (pe_op op_mod (pe_op op_fdiv (pv 0) (pe_op op_add pe_int (pe_op op_mul pe_int (pv 3)))) pe_int) (fun _ _ => rfl))))))
      hR)), ?_⟩
    obtain ⟨c0, ec0⟩ := sg_at n 26 (by decide) (by decide)
    refine ⟨_, rfl, _, rfl, _, _, rfl, rfl, (by show (0 : Int) < _; decide), ("abcdefghijklmnopqrstuvwxyz0123456789" : Str), _, c0, rfl, rfl, by decide, ec0, ?_⟩
    refine ⟨_, rfl, _, _, rfl, rfl, ⟨by decide, by decide⟩, _, _, rfl, rfl, (by show (0 : Int) < _; decide), _, _, rfl, rfl, by rw [sizeLine_eq]; show 6 ≤ _; decide, fun l hl => ?_⟩
    obtain ⟨v, ev, hv⟩ := at_mod (xs := [V.int 0, V.int 1, V.int 2, V.int 3, V.int 4, V.int (5 + n / 156 % 26)]) (n / 26) (n := 6) rfl (by decide)
    obtain ⟨z, rfl, z0, z1⟩ : ∃ z : Int, v = .int z ∧ 0 ≤ z ∧ z ≤ 30 := by
      simp only [List.mem_cons, List.not_mem_nil, or_false] at hv
      rcases hv with rfl | rfl | rfl | rfl | rfl | rfl
      · exact ⟨_, rfl, by decide, by decide⟩
      · exact ⟨_, rfl, by decide, by decide⟩
      · exact ⟨_, rfl, by decide, by decide⟩
      · exact ⟨_, rfl, by decide, by decide⟩
      · exact ⟨_, rfl, by decide, by decide⟩
      · exact ⟨_, rfl, by omega, by omega⟩
    refine ⟨_, rfl, _, _, rfl, rfl, ⟨by decide, by decide⟩, _, _, rfl, rfl, (by show (0 : Int) < _; decide), l, _, _, _, rfl, rfl, SqL.of upd_same, ev, _, rfl, by omega, by omega, ?_⟩
    have s1 := same_upd (o := .lst [V.int 0, V.int 1, V.int 2, V.int 3, V.int 4, V.int (5 + n / 156 % 26)]) hl
    generalize upd H l (.lst [V.int 0, V.int 1, V.int 2, V.int 3, V.int 4, V.int (5 + n / 156 % 26)]) = H1 at s1 ⊢
    refine for_range (lo := 0) (n := z.toNat) (fun i σ H' => (∃ (x : Str) (v3 : Option V), σ = [some (.int n), some (.str "abcdefghijklmnopqrstuvwxyz0123456789"), some (.str x), v3, none] ∧ x.length ≤ i + 1) ∧ H' = H1)
      ⟨⟨_, none, rfl, Nat.le_refl _⟩, rfl⟩ ?_ ?_
    · rintro i σ H' hi ⟨⟨x, v3, rfl, hx⟩, rfl⟩
      have hi6 : i < 30 := by omega
      obtain ⟨c1, ec1⟩ := sg_at (n / (156 + 37 * (0 + (i : Int)))) 36 (by decide) (by decide)
      refine ⟨_, rfl, _, rfl, _, rfl, _, rfl, _, _, rfl, rfl, .inl ⟨by decide, by decide⟩, _, _, rfl, rfl, _, _, rfl, rfl, ⟨by show (0 : Int) < 156 + 37 * (0 + (i : Int)); omega, by show 156 + 37 * (0 + (i : Int)) < (1073741824 : Int); omega⟩, _, _, rfl, rfl, (by show (0 : Int) < _; decide), ("abcdefghijklmnopqrstuvwxyz0123456789" : Str), _, c1, rfl, rfl, by decide, ec1, _, _, rfl, rfl, ?_, ⟨_, _, rfl, ?_⟩, rfl⟩
      · rw [sizeLine_eq]; show x.length + 1 ≤ _; omega
      · rw [str_cat_len]; show x.length + 1 ≤ _; omega
    · rintro σ H' ⟨⟨x, v3, rfl, hx⟩, rfl⟩
      exact rest x v3 _ s1 (by omega)
abbrev NNest : List Str := ["_law_cell", "_law_known", "_law_pool_here", "_law_count", "_law_many_here", "_law_rows", "_law_some", "_law_core_here", "_law_params_here"]
theorem scNest : FnScope NNest ["_law_cell", "_law_known", "_law_pool_here", "_law_count"] (defScope sNest) := ⟨rfl, rfl, rfl, by decide +kernel, rfl, by decide +kernel, by decide +kernel⟩
theorem lcNest1 : LcS (defScope sNest).names [(".0", .local), ("_law_k", .local), ("_law_params", .globalImplicit), ("_law_cell", .free), ("_law_count", .free), ("_law_pool_here", .free)] NNest [true, false, true, true, false, false, false, false, false] := ⟨by decide +kernel, by decide +kernel, by decide +kernel, by decide +kernel, by decide +kernel, rfl⟩
theorem ndNest1 : (["_law_cell", "_law_known", "_law_pool_here", "_law_count", "_law_many_here", "_law_rows", "_law_some", "_law_core_here", "_law_params_here", "_law_k"] : List Str).Nodup := by decide +kernel
theorem lcNest2 : LcS (defScope sNest).names [(".0", .local), ("_law_params_here", .local)] NNest [false, false, false, false, false, false, false, false, false] := ⟨by decide +kernel, by decide +kernel, by decide +kernel, by decide +kernel, by decide +kernel, rfl⟩
theorem ndNest2 : (["_law_cell", "_law_known", "_law_pool_here", "_law_count", "_law_many_here", "_law_rows", "_law_some", "_law_core_here", "_law_params_here"] : List Str).Nodup := by decide +kernel
theorem lcNest3 : LcS (defScope sNest).names [(".0", .local), ("_law_k", .local), ("len", .globalImplicit), ("_law_cell", .free), ("_law_known", .free)] NNest [true, true, false, false, false, false, false, false, false] := ⟨by decide +kernel, by decide +kernel, by decide +kernel, by decide +kernel, by decide +kernel, rfl⟩
theorem ok_nest {f fL fP fW : Addr} {fd fdL fdP fdW : FuncData} (F : Fun K "_law_nest" "_law_nest" sNest f fd) (T : Txt mg)
    (FL : Fun K "_law_leaf" "_law_leaf" sLeaf fL fdL) (bL : Binds K fdL ["_law_cell", "_law_known", "_law_pool_here"] []) (mL : mg "_law_leaf" = some (.ref fL))
    (FP : Fun K "_law_params" "_law_params" sParams fP fdP) (bP : Binds K fdP ["_law_cell", "_law_many_here", "_law_pool_here", "_law_count"] []) (mP : mg "_law_params" = some (.ref fP))
    (FW : Fun K "_law_new" "_law_new" sNew fW fdW) (bW : Binds K fdW ["_law_count", "_law_many_here"] []) (mW : mg "_law_new" = some (.ref fW)) : FnOk P w K mg base CX0 3 f fd ["_law_cell", "_law_known", "_law_pool_here", "_law_count"] spNest := by
  have GL : FnOk P w K mg base CX0 2 fL fdL ["_law_cell", "_law_known", "_law_pool_here"] spLeaf := (ok_leaf FL T).mono (by decide)
  have GP : FnOk P w K mg base CX0 2 fP fdP ["_law_cell", "_law_many_here", "_law_pool_here", "_law_count"] spParams := ok_params FP T FW bW mW
  refine F.ok scNest (fun vs H Q E h => ?_) (fun cdv A outer s H vs Q E hr h => ?_)
  · obtain ⟨z, kl, D, cn, Γ, c, rfl, _⟩ := h; rfl
  · obtain ⟨z, kl, D, cn, Γ, c, rfl, hkl, hD, hcn, hcb, nkc, nDc, hgl, q⟩ := h
    have nd := scNest.nd
    have z2 : 2 ≤ sizeLine := by rw [sizeLine_eq]; decide
    have z3 : 3 ≤ sizeLine := by rw [sizeLine_eq]; decide
    have m0 := Int.emod_nonneg z (show (36 : Int) ≠ 0 by decide)
    have m1 := Int.emod_lt_of_pos z (show (0 : Int) < 36 by decide)
    obtain ⟨m, em, hm, hm20⟩ : ∃ m : Nat, 20 + z % 36 = (m : Int) ∧ m ≤ 55 ∧ 20 ≤ m := ⟨(20 + z % 36).toNat, by omega, by omega, by omega⟩
    have m2 := Int.emod_nonneg (z / 72) (show (13 : Int) ≠ 0 by decide)
    have m3 := Int.emod_lt_of_pos (z / 72) (show (0 : Int) < 13 by decide)
    obtain ⟨s', es, hs⟩ : ∃ s' : Nat, 8 + z / 72 % 13 = (s' : Int) ∧ s' ≤ 20 := ⟨(8 + z / 72 % 13).toNat, by omega, by omega⟩
    -- behind the pool
    have RESTX : ∃ t : TS, PSs (cxOf CX0 P w K mg base NNest "_law_nest" (defScope sNest) f cdv A outer s H E).nox ((defBody sNest).drop 2) t ∧
        ∀ (D1 : Addr) (H1 : Hp), Same H H1 → PoolAt H1 D1 → D1 ≠ cn → t { nx := fun _ H' => Q .non H', rt := Q } [some (.int z), some (.ref kl), some (.ref D1), some (.ref cn), some (.int (20 + z % 36)), none, none, none, none] H1 := by
      refine ⟨_, (pss_cons (ps_lc (i := 5) (ext := ["_law_k"]) nd rfl rfl lcNest1 rfl (pi_range1 rfl T.range (pa_cons (pv 4) pa_nil))
          ⟨fun _ _ _ _ _ => (pg_name (i := 9) ndNest1 rfl (Or.inl rfl) (.inr rfl)), fun _ _ _ _ _ => pts_nil, fun _ _ _ _ _ => (pe_call GP hr (by rfl) mP FP.kp bP .nil pass0 (pa_cons (pe_op op_fdiv (pv 0) (pe_op op_add pe_int (pv 9))) (pa_cons pe_int (pa_cons (pv 2) (pa_cons (pv 3) pa_nil)))))⟩)
        (pss_cons (ps_set (i := 1) nd rfl (Or.inr rfl) (pe_op op_cat (pv 1) (pe_lc (ext := []) lcNest2 rfl (pi_list (pv 5))
          ⟨fun _ _ _ _ _ => (pg_name (i := 8) ndNest2 rfl (Or.inl rfl) (.inr rfl)), fun _ _ _ _ _ => pts_nil, fun _ _ _ _ _ => (pe_ix (ix_tup : IxR _ (rIxT K)) (pe_ix (ix_tup : IxR _ (rIxT K)) (pv 8) pe_int (fun _ _ => rfl)) pe_int (fun _ _ => rfl))⟩)))
        (pss_cons (ps_lc (i := 6) (ext := ["_law_k"]) nd rfl rfl lcNest3 rfl (pi_range1 rfl T.range (pa_cons (pe_op op_add pe_int (pe_op op_mod (pe_op op_fdiv (pv 0) pe_int) pe_int)) pa_nil))
          ⟨fun _ _ _ _ _ => (pg_name (i := 9) ndNest1 rfl (Or.inl rfl) (.inr rfl)), fun _ _ _ _ _ => pts_nil, fun _ _ _ _ _ => (pe_tup (pa_cons pe_str (pa_cons (pe_ix (ix_list : IxR _ (rIxL K)) (pv 1) (pe_op op_mod (pe_op op_mul (pe_op op_fdiv (pv 0) pe_int) (pe_op op_add (pv 9) pe_int)) (pe_callB (call_len_seq : CallR _ (.builtin "len") (fun xs H Q => ∃ p ys, xs = [V.ref p] ∧ (SqL K H p ys ∨ SqT K H p ys) ∧ Q (V.int ys.length) H)) (by rfl) T.len bt_len (pa_cons (pv 1) pa_nil))) (fun _ _ => rfl)) pa_nil)))⟩)
        (pss_cons (ps_set (i := 7) nd rfl (Or.inl rfl) (pe_tup (pa_cons pe_str (pa_cons (pe_call GL hr (by rfl) mL FL.kp bL .nil pass0 (pa_cons (pe_op op_fdiv (pv 0) pe_int) (pa_cons (pe_lst pa_nil) (pa_cons (pv 2) pa_nil)))) (pa_cons (pe_callTy call_tuple_of (by rfl) T.tuple bt_tuple' (pa_cons (pv 6) pa_nil)) pa_nil)))))
        (pss_cons (ps_for PassesOwn.never rfl (pi_list (pv 5)) (pg_name (i := 8) nd rfl (Or.inl rfl))
        (pss_one (ps_set (i := 7) nd rfl (Or.inl rfl) (pe_tup (pa_cons pe_str (pa_cons (pv 8) (pa_cons (pv 7) pa_nil)))))))
        (pss_one (ps_ret (pv 7)))))))), ?_⟩
      intro D1 H1 s1 hD1 nD1
      have hkl1 := s1 _ _ hkl
      have hcn1 : CntAt H1 cn c := ⟨s1 _ _ hcn.1, hcn.2⟩
      -- rows
      refine ⟨_, rfl, _, rfl, by omega, by omega, fun R hR => ?_⟩
      have nRc : R ≠ cn := Ne.symm (ne_of_none hcn1.1 hR)
      refine lc_rng (lo := 0) (n := (20 + z % 36).toNat) (fun k ys σ' H' => (∃ v, σ' = [some (.int z), none, some (.ref D1), some (.ref cn), none, none, none, none, none, v]) ∧ Kp1 H1 H' cn ∧ H' R = some (.lst ys) ∧ CntAt H' cn (c + (k : Int)) ∧ ∃ qs : List (Int × Str), Al (RowIn H') qs ys ∧ qs.map (·.1) = plsAt c k ∧ ∀ x ∈ qs, x.2.length ≤ 100)
        ⟨⟨_, rfl⟩, Kp1.of (same_upd hR), upd_same, ⟨by rw [upd_ne (Ne.symm nRc), hcn1.1]; simp, by have := hcn1.2; omega⟩, [], Al.nil, rfl, fun x hx => nomatch hx⟩ ?_ ?_
      · rintro k ys σ' H' hk ⟨⟨v, rfl⟩, kp, hRy, hcn', qs, hqa, hqf, hqn⟩
        unfold gName
        refine yes_if ?_
        have hkm : k < m := by omega
        have hql : qs.length = k := by have := congrArg List.length hqf; rw [List.length_map, plsAt_len] at this; exact this
        refine ⟨_, rfl, _, rfl, _, _, rfl, rfl, _, _, rfl, rfl, ⟨by show (0 : Int) < 36 + (0 + (k : Int)); omega, by show 36 + (0 + (k : Int)) < (1073741824 : Int); omega⟩, _, rfl, _, rfl, _, 1, D1, cn, c + (k : Int), rfl, hD1.keep kp nD1, nD1, hcn', by omega, by decide, fun H2 t pvs ps ht hpa hpf hpn hcn2 k2 => ?_⟩
        have hpl : ps.length = 1 := by have := congrArg List.length hpf; rw [List.length_map, plsAt_len] at this; exact this
        obtain ⟨⟨p, n⟩, rfl⟩ : ∃ x, ps = [x] := match ps, hpl with | [x], _ => ⟨x, rfl⟩
        obtain ⟨v0, r0, rfl, ⟨u, rfl, hu⟩, hr0⟩ := hpa.uncons
        have er0 := hr0.nil_of
        subst er0
        have ep : p = pl (c + (k : Int)) := by
          have : [p] = [pl (c + (k : Int) + ((0 : Nat) : Int))] := hpf
          rw [show c + (k : Int) + ((0 : Nat) : Int) = c + (k : Int) by omega] at this
          injection this
        have hR2 := k2 _ _ nRc hRy
        have tk2 := k2.tup hcn'.1
        have tk3 := Tup.lst (ys := ys ++ [.ref t]) hR2
        refine ⟨hR2, by rw [hqa.1, hql, sizeLine_eq]; omega, Beh.of hk ⟨⟨_, rfl⟩, fun e o ne qe => ?_, upd_same, ⟨?_, by have := hcn2.2; omega⟩, qs ++ [(p, n)], ?_, ?_, fun x hx => ?_⟩⟩
        · rw [upd_ne (ne_of_none qe hR)]; exact k2 _ _ ne (kp _ _ ne qe)
        · rw [upd_ne (Ne.symm nRc), hcn2.1]
          congr 4
          omega
        · exact (hqa.mono fun _ _ r => (r.tup tk2).tup tk3).snoc ⟨t, u, rfl, tk3 _ _ ht, tk3 _ _ hu⟩
        · rw [List.map_append, hqf, plsAt_succ, ep]; rfl
        · rcases List.mem_append.mp hx with hx | hx
          · exact hqn x hx
          · exact hpn x hx
      rintro ys σ' H2 ⟨_, kp2, hR2, hcn2, qs, hqa, hqf, hqn⟩
      have em' : (20 + z % 36).toNat = m := by omega
      rw [em'] at hcn2 hqf
      have hql : qs.length = m := by have := congrArg List.length hqf; rw [List.length_map, plsAt_len] at this; exact this
      have hkl2 := kp2 _ _ nkc hkl1
      have hD2 := hD1.keep kp2 nD1
      -- known
      refine ⟨_, rfl, _, rfl, R, rfl, ⟨_, SqL.of hR2⟩, fun R2 hR2n => ?_⟩
      refine lc_lst (K := K) (a := R) (xs := ys) (fun k us σ' H' => (∃ v, σ' = [none, none, none, none, none, none, none, none, v]) ∧ Same H2 H' ∧ H' R2 = some (.lst us) ∧ us = ((qs.map (·.1)).take k).map V.int)
        ⟨⟨_, rfl⟩, same_upd hR2n, upd_same, rfl⟩ (fun k us σ' H' _ hP => SqL.of (hP.2.1 _ _ hR2)) ?_ ?_
      · rintro k x us σ' H' hx ⟨⟨v, rfl⟩, sH, hUy, hus⟩
        unfold gName
        refine yes_if ?_
        have hk := (List.getElem?_eq_some_iff.mp hx).1
        obtain ⟨⟨p, n⟩, ep, hp⟩ := hqa.at hx
        obtain ⟨t0, u0, rfl, ht0, hu0⟩ := hp.tup (Tup.of sH)
        have hkq : k < qs.length := (List.getElem?_eq_some_iff.mp ep).1
        refine ⟨_, rfl, t0, _, _, _, rfl, rfl, SqT.of ht0, rfl, u0, _, _, _, rfl, rfl, SqT.of hu0, rfl, hUy, ?_, Beh.of hk ⟨⟨_, rfl⟩, fun e o qe => ?_, upd_same, ?_⟩⟩
        · rw [hus, List.length_map, List.length_take, List.length_map, sizeLine_eq]; omega
        · rw [upd_ne (ne_of_none qe hR2n)]; exact sH _ _ qe
        · rw [hus, List.take_succ, List.getElem?_map, ep, List.map_append]; rfl
      rintro us σ' H3 ⟨_, s3, hR3, hus⟩
      rw [hqa.1, ← List.length_map (f := fun x : Int × Str => x.1), List.take_length] at hus
      rw [hus] at hR3
      refine ⟨kl, R2, _, _, rfl, rfl, s3 _ _ hkl2, hR3, by rw [List.length_map, List.length_map, List.length_map, hql, sizeLine_eq]; omega, fun K2 hK2 => ?_⟩
      rw [← List.map_append]
      have s4 := same_upd (o := .lst ((Γ ++ qs.map (·.1)).map V.int)) hK2
      have hK4 : upd H3 K2 (.lst ((Γ ++ qs.map (·.1)).map V.int)) K2 = some (.lst ((Γ ++ qs.map (·.1)).map V.int)) := upd_same
      have s34 := s3.trans s4
      have hR4 := s34 _ _ hR2
      have hD4 := hD2.same s34
      have hcn4 : CntAt _ cn (c + (m : Int)) := ⟨s34 _ _ hcn2.1, hcn2.2⟩
      have hqa4 := hqa.mono fun _ _ r => RowIn.tup (Tup.of s34) r
      have kp4 : Kp1 H _ cn := ((Kp1.of s1).trans kp2).trans (Kp1.of s34)
      generalize upd H3 K2 (.lst ((Γ ++ qs.map (·.1)).map V.int)) = H4 at hK4 hR4 hD4 hcn4 hqa4 kp4 ⊢
      -- some
      have hgl2 : (Γ ++ qs.map (·.1)).length ≤ 1055 := by rw [List.length_append, List.length_map]; omega
      have hgp : 0 < (Γ ++ qs.map (·.1)).length := by rw [List.length_append, List.length_map]; omega
      have elen : ((((Γ ++ qs.map (·.1)).map V.int).length : Nat) : Int) = ((Γ ++ qs.map (·.1)).length : Int) := by rw [List.length_map]
      have epos : (0 : Int) < ((((Γ ++ qs.map (·.1)).map V.int).length : Nat) : Int) := by rw [elen]; omega
      refine ⟨_, rfl, _, _, rfl, rfl, ⟨by decide, by decide⟩, _, _, rfl, rfl, (by show (0 : Int) < _; decide), _, _, rfl, rfl, _, rfl, by omega, by omega, fun R3 hR3 => ?_⟩
      refine lc_rng (lo := 0) (n := (8 + z / 72 % 13).toNat) (fun k us σ' H' => (∃ v, σ' = [some (.int z), some (.ref K2), none, none, none, none, none, none, none, v]) ∧ Same H4 H' ∧ H' R3 = some (.lst us) ∧ ∃ cos : List Co, Al (CoIn H') cos us ∧ cos.length = k ∧ ∀ co ∈ cos, ∃ p ∈ Γ ++ qs.map (·.1), co = .mk (.seen p) [])
        ⟨⟨_, rfl⟩, same_upd hR3, upd_same, [], Al.nil, rfl, fun x hx => nomatch hx⟩ ?_ ?_
      · rintro k us σ' H' hk ⟨⟨v, rfl⟩, sH, hUy, cos, hca, hcl, hcs⟩
        unfold gName
        refine yes_if ?_
        obtain ⟨pv, ev, hv⟩ := at_mod (xs := (Γ ++ qs.map (·.1)).map V.int) (z / 72 * (0 + (k : Int) + 1)) (n := (Γ ++ qs.map (·.1)).length) (by rw [List.length_map]) hgp
        obtain ⟨p, hp, rfl⟩ := List.mem_map.mp hv
        have ev' : atI ((Γ ++ qs.map (·.1)).map V.int) (z / 72 * (0 + (k : Int) + 1) % ((((Γ ++ qs.map (·.1)).map V.int).length : Nat) : Int)) = some (.int p) := by rw [elen]; exact ev
        have hK' := sH _ _ hK4
        refine ⟨_, rfl, _, rfl, _, _, rfl, rfl, ⟨by decide, by decide⟩, _, rfl, _, _, rfl, rfl, _, _, rfl, rfl, .inr ⟨by show -(2 ^ 64) < 0 + (k : Int) + 1; omega, by show 0 + (k : Int) + 1 < 2 ^ 64; omega⟩, _, rfl, K2, _, rfl, .inl (SqL.of hK'), _, _, rfl, rfl, epos, K2, _, _, _, rfl, rfl, SqL.of hK', ev', z2, fun t ht => ?_⟩
        have s5 := same_upd (o := .tup [.str "seen", .int p]) ht
        have hU5 := s5 _ _ hUy
        have tk := Tup.lst (ys := us ++ [.ref t]) hU5
        refine ⟨hU5, by rw [hca.1, hcl, sizeLine_eq]; omega, Beh.of hk ⟨⟨_, rfl⟩, fun e o qe => ?_, upd_same, cos ++ [.mk (.seen p) []], ?_, by rw [List.length_append, hcl]; rfl, fun co hco => ?_⟩⟩
        · rw [upd_ne (ne_of_none qe hR3)]; exact s5 _ _ (sH _ _ qe)
        · exact (hca.mono fun _ _ r => (r.tup (Tup.of s5)).tup tk).snoc ((co_seen upd_same : CoIn (upd H' t (.tup [.str "seen", .int p])) _ _).tup tk)
        · rcases List.mem_append.mp hco with hco | hco
          · exact hcs co hco
          · exact ⟨p, hp, List.mem_singleton.mp hco⟩
      rintro us σ' H5 ⟨_, s5, hU5, cos, hca, hcl, hcs⟩
      have hcl20 : cos.length ≤ 20 := by omega
      -- the call
      refine ⟨_, rfl, _, _, rfl, rfl, ⟨by decide, by decide⟩, Nat.zero_le _, fun e he => ?_⟩
      have s6 := same_upd (o := .lst []) he
      refine ⟨_, rfl, _, e, D1, [], rfl, upd_same, (hD4.same s5).same s6, fun H6 t6 tg s7 hco hsc hpm => ?_⟩
      refine ⟨_, rfl, R3, us, rfl, .inl ⟨SqL.of (s7 _ _ (s6 _ _ hU5)), fun t7 ht7 => ?_⟩⟩
      have s8 := same_upd (o := .tup us) ht7
      refine ⟨z3, fun t8 ht8 => ?_⟩
      have s9 := same_upd (o := .tup [.str "call", .ref t6, .ref t7]) ht8
      have sA := (((s5.trans s6).trans s7).trans s8).trans s9
      have hco8 := hco.tup (Tup.of (s8.trans s9))
      have hca8 := hca.mono fun _ _ r => CoIn.tup (Tup.of (((s6.trans s7).trans s8).trans s9)) r
      have hcore : CoIn (upd (upd H6 t7 (.tup us)) t8 (.tup [.str "call", .ref t6, .ref t7])) (.mk .call (.mk tg [] :: cos)) (.ref t8) := CoIn.mk' (vs := .ref t6 :: us) ⟨t7, .ref t6, us, rfl, upd_same, s9 _ _ upd_same⟩ (Al.cons hco8 hca8)
      generalize upd (upd H6 t7 (.tup us)) t8 (.tup [.str "call", .ref t6, .ref t7]) = H8 at hcore sA ⊢
      have hleafs : ∀ k ∈ cos, pre k = [k] ∧ parms k = [] ∧ k.ks = [] ∧ sz k = 1 ∧ dp k = 1 := fun k hk => by
        obtain ⟨p, _, rfl⟩ := hcs k hk
        exact ⟨by rw [pre_eq, pres], rfl, rfl, by rw [sz_mk, szs], by rw [dp_mk, dps]⟩
      have hbs : ∀ (xs : List Co), (∀ k ∈ xs, pre k = [k] ∧ parms k = [] ∧ k.ks = [] ∧ sz k = 1 ∧ dp k = 1) → bnds xs = [] ∧ szs xs = xs.length ∧ dps xs ≤ 1 := fun xs hx => by
        induction xs with
        | nil => exact ⟨bnds_nil, by rw [szs]; rfl, by rw [dps]; omega⟩
        | cons x xs ih =>
          obtain ⟨h1, h2, h3⟩ := ih fun k hk => hx k (List.mem_cons_of_mem _ hk)
          obtain ⟨g1, g2, g3, g4, g5⟩ := hx x (List.mem_cons_self ..)
          refine ⟨?_, ?_, ?_⟩
          · have e1 : bnds (x :: xs) = (pre x).flatMap parms ++ bnds xs := by unfold bnds; rw [pres_cons, List.flatMap_append]
            rw [e1, h1, g1]
            simp [g2]
          · rw [szs_cons, h2, g4, List.length_cons]; omega
          · rw [dps, g5]; omega
      have hleaf : pre (Co.mk tg []) = [Co.mk tg []] ∧ parms (Co.mk tg []) = [] ∧ (Co.mk tg []).ks = [] ∧ sz (Co.mk tg []) = 1 ∧ dp (Co.mk tg []) = 1 := ⟨by rw [pre_eq, pres], hpm, rfl, by rw [sz_mk, szs], by rw [dp_mk, dps]⟩
      obtain ⟨b1, b2, b3⟩ := hbs (.mk tg [] :: cos) (fun k hk => by
        rcases List.mem_cons.mp hk with rfl | hk
        · exact hleaf
        · exact hleafs k hk)
      have hscs : Scs (Γ ++ qs.map (·.1)) (.mk tg [] :: cos) := by
        have hc' : ∀ (xs : List Co), (∀ co ∈ xs, ∃ p ∈ Γ ++ qs.map (·.1), co = .mk (.seen p) []) → Scs (Γ ++ qs.map (·.1)) xs := fun xs hx => by
          induction xs with
          | nil => unfold Scs; trivial
          | cons x xs ih =>
            obtain ⟨p, hp, rfl⟩ := hx x (List.mem_cons_self ..)
            unfold Scs Sc
            exact ⟨⟨hp, by unfold Scs; trivial⟩, ih fun k hk => hx k (List.mem_cons_of_mem _ hk)⟩
        unfold Scs Sc
        exact ⟨⟨scT_nil hsc, by unfold Scs; trivial⟩, hc' cos hcs⟩
      have hR8 := sA _ _ hR4
      have hqa8 := hqa4.mono fun _ _ r => RowIn.tup (Tup.of sA) r
      refine ⟨_, rfl, R, rfl, ⟨_, SqL.of hR8⟩, for_list (xs := ys) (fun i σ H' => Same H8 H' ∧ ∃ (v8 : Option V) (v : V) (co : Co), σ = [some (.int z), some (.ref K2), some (.ref D1), some (.ref cn), some (.int (20 + z % 36)), some (.ref R), some (.ref R3), some v, v8] ∧ CoIn H' co v ∧ Sc (Γ ++ (qs.drop i).map (·.1)) co ∧ bnds [co] = (qs.take i).reverse ∧ sz co ≤ 30 + i ∧ dp co ≤ 2 + i ∧ Wd co)
        ⟨Same.refl _, _, _, _, rfl, hcore, by unfold Sc; exact ⟨trivial, hscs⟩, by rw [bnds_one, b1]; rfl, by rw [sz_mk, b2, List.length_cons]; omega, by rw [dp_mk]; omega, fun e' he' => ?_⟩ (fun i σ H' _ hP => SqL.of (hP.1 _ _ hR8)) ?_ ?_⟩
      · rcases pre_mk.mp he' with rfl | ⟨k, hk, he'⟩
        · exact ⟨by show (Co.mk tg [] :: cos).length ≤ 1000; rw [List.length_cons]; omega, by show ([] : List (Int × Str)).length ≤ 20; decide⟩
        · have hk' := (show pre k = [k] ∧ parms k = [] ∧ k.ks = [] ∧ sz k = 1 ∧ dp k = 1 from by
            rcases List.mem_cons.mp hk with rfl | hk
            · exact hleaf
            · exact hleafs k hk)
          rw [hk'.1] at he'
          rw [List.mem_singleton.mp he', hk'.2.1, hk'.2.2.1]
          exact ⟨by decide, by decide⟩
      · rintro i x σ H' hi ⟨sH, v8, v, co, rfl, hcv, hsc', hb', hz', hd', hw'⟩
        obtain ⟨⟨p, n⟩, ep, hp⟩ := hqa8.at hi
        have hiq : i < qs.length := (List.getElem?_eq_some_iff.mp ep).1
        obtain ⟨t0, u0, rfl, ht0, hu0⟩ := hp.tup (Tup.of sH)
        refine ⟨_, rfl, _, rfl, z3, fun t ht => ?_⟩
        have s9 := same_upd (o := .tup [.str "fn", .ref t0, v]) ht
        refine ⟨sH.trans s9, _, .ref t, .mk (.fn [(p, n)]) [co], rfl, CoIn.mk' (vs := [v]) ⟨t0, [.ref u0], v, rfl, upd_same, s9 _ _ ht0, Al.cons ⟨u0, rfl, s9 _ _ hu0⟩ Al.nil⟩ (Al.cons (hcv.tup (Tup.of s9)) Al.nil), ?_, ?_, ?_, ?_, fun e' he' => ?_⟩
        · unfold Sc
          refine ⟨rfl, ?_⟩
          unfold Scs
          refine ⟨hsc'.mono fun p' hp' => ?_, by unfold Scs; trivial⟩
          have ed : qs.drop i = (p, n) :: qs.drop (i + 1) := by
            rw [List.drop_eq_getElem_cons hiq]
            rw [List.getElem?_eq_getElem hiq] at ep
            rw [Option.some.inj ep]
          rw [ed] at hp'
          show p' ∈ [p] ++ (Γ ++ (qs.drop (i + 1)).map (·.1))
          rcases List.mem_append.mp hp' with z | z
          · exact List.mem_append_right _ (List.mem_append_left _ z)
          · rw [List.map_cons] at z
            rcases List.mem_cons.mp z with z | z
            · exact List.mem_append_left _ (by rw [z]; exact List.mem_cons_self ..)
            · exact List.mem_append_right _ (List.mem_append_right _ z)
        · rw [bnds_one, hb', List.take_succ, ep]
          show [(p, n)] ++ (qs.take i).reverse = (qs.take i ++ [(p, n)]).reverse
          rw [List.reverse_append]; rfl
        · rw [sz_mk, szs_cons, szs]; omega
        · rw [dp_mk, dps, dps]; omega
        · rcases pre_mk.mp he' with rfl | ⟨k, hk, he'⟩
          · exact ⟨by show 1 ≤ 1000; decide, by show 1 ≤ 20; decide⟩
          · rw [List.mem_singleton.mp hk] at he'
            exact hw' e' he'
      · rintro σ H' ⟨sH, v8, v, co, rfl, hcv, hsc', hb', hz', hd', hw'⟩
        rw [hqa.1, List.take_length] at hb'
        rw [hqa.1] at hsc' hz' hd'
        rw [List.drop_length] at hsc'
        have hPB := PB.of_pls hqf hqn
        have sB := sA.trans sH
        refine ⟨_, rfl, q H' v co (c + (m : Int)) ⟨Al.cons hcv Al.nil, ?_, ?_, by omega, by omega, ?_, ?_, fun k hk => ?_⟩ ⟨sB _ _ hcn4.1, hcn4.2⟩ (kp4.trans (Kp1.of sB))⟩
        · unfold Scs
          exact ⟨hsc'.mono fun p hp => by simpa using hp, by unfold Scs; trivial⟩
        · rw [hb']
          refine ⟨?_, fun x hx => hPB.2 x (List.mem_reverse.mp hx)⟩
          rw [List.map_reverse]
          exact List.pairwise_reverse.mpr (hPB.1.imp fun h => Ne.symm h)
        · rw [szs_cons, szs]; omega
        · rw [dps, dps]; omega
        · rw [List.mem_singleton.mp hk]; exact hw'
    obtain ⟨tR, hR, rest⟩ := RESTX
    refine ⟨_, pss_cons (ps_set (i := 4) nd rfl (Or.inl rfl) (pe_op op_add pe_int (pe_op op_mod (pv 0) pe_int)))
      (pss_cons (ps_if (pt_cmpR op_eq (pe_op op_mod (pe_op op_fdiv (pv 0) pe_int) pe_int) pe_int (nomark _))
      (pss_one (ps_set (i := 2) nd rfl (Or.inr rfl) (pe_op op_rep (pe_lst (pa_cons (pe_ix ix_list (pv 2) pe_int (fun _ _ => rfl)) pa_nil)) pe_int)))
      pss_nil) hR), ?_⟩
    refine ⟨_, rfl, _, _, rfl, rfl, (by show (0 : Int) < _; decide), _, _, rfl, rfl, ?_⟩
    refine ⟨_, rfl, _, _, rfl, rfl, ⟨by decide, by decide⟩, _, _, rfl, rfl, (by show (0 : Int) < _; decide), rfl, _, rfl, ite2 (fun _ => ?_) (fun _ => rest D H (Same.refl _) hD nDc)⟩
    obtain ⟨ns, hDn, hnl, hnn⟩ := hD
    obtain ⟨n0, nr, rfl⟩ : ∃ n0 nr, ns = n0 :: nr := match ns, hnl with | n0 :: nr, _ => ⟨n0, nr, rfl⟩
    refine ⟨_, rfl, D, _, _, _, rfl, rfl, SqL.of hDn, atI_nat (j := 0) rfl, by rw [sizeLine_eq]; show 1 ≤ _; decide, fun l hl => ?_⟩
    have s1 := same_upd (o := .lst [.str n0]) hl
    refine ⟨l, 13, [.str n0], rfl, rfl, upd_same, by decide, by decide, by rw [sizeLine_eq]; show 1 * 13 ≤ _; decide, fun p hp => ?_⟩
    have s2 := same_upd (o := .lst ((List.replicate 13 n0).map V.str)) hp
    exact rest p _ (s1.trans s2) ⟨List.replicate 13 n0, upd_same, by rw [List.length_replicate], fun n hn => by rw [List.eq_of_mem_replicate hn]; exact hnn n0 (List.mem_cons_self ..)⟩ (Ne.symm (ne_of_none (s1 _ _ hcn.1) hp))
end
end K72

set_option Elab.async false
set_option linter.all false
set_option maxRecDepth 100000
set_option maxHeartbeats 4000000
set_option exponentiation.threshold 3000
/-! k72: the law's draws and items. Own work. -/
namespace K72
open PySem L2 Builtin.Str
theorem cut_ints (ns : List Int) (lo hi : Option Int) : ∃ ms : List Int, cutV (ns.map V.int) lo hi = ms.map V.int ∧ ms.length ≤ ns.length := by
  have hl := cutV_length (ns.map V.int) lo hi
  unfold cutV at hl ⊢
  refine ⟨(ns.drop (HT.sIx (ns.map V.int).length 0 lo)).take (HT.sIx (ns.map V.int).length (ns.map V.int).length hi - HT.sIx (ns.map V.int).length 0 lo), ?_, ?_⟩
  · rw [List.map_take, List.map_drop]
  · rw [List.length_take, List.length_drop]; omega
/-! ### items made -/
structure RsI (H : Hp) (Γ : List Int) (c c' : Int) (S D : Nat) (its : List It) (iv : List V) : Prop where
  al : Al (ItIn H) its iv
  sc : ∀ it ∈ its, Sc Γ it.core
  pb : PB c c' (bnds (its.map It.core))
  le : c ≤ c'
  sz : szs (its.map It.core) ≤ S
  dp : ∀ it ∈ its, dp it.core ≤ D
  wd : ∀ it ∈ its, Wd it.core
theorem RsI.nil {H : Hp} {Γ : List Int} {c : Int} {D : Nat} : RsI H Γ c c 0 D [] [] := ⟨Al.nil, (fun it h => nomatch h), by show PB c c (bnds []); rw [bnds_nil]; exact PB.nil, Int.le_refl _, by show szs [] ≤ 0; rw [szs]; omega, (fun it h => nomatch h), (fun it h => nomatch h)⟩
theorem RsI.tup {H H' : Hp} {Γ : List Int} {c c' : Int} {S D : Nat} {its : List It} {iv : List V} (h : RsI H Γ c c' S D its iv) (s : Tup H H') : RsI H' Γ c c' S D its iv := ⟨h.al.mono fun _ _ r => ItIn.tup s r, h.sc, h.pb, h.le, h.sz, h.dp, h.wd⟩
theorem RsI.snoc {H : Hp} {Γ : List Int} {c c1 c2 : Int} {S1 S2 D D2 : Nat} {its : List It} {iv : List V} (h : RsI H Γ c c1 S1 D its iv) {it : It} {x v : V} (hx : ItIn H it x) (g : Res H Γ c1 c2 S2 D2 [it.core] [v]) (hD : D2 ≤ D) : RsI H Γ c c2 (S1 + S2) D (its ++ [it]) (iv ++ [x]) := by
  have gsc := g.sc
  unfold Scs at gsc
  refine ⟨h.al.snoc hx, fun y hy => ?_, ?_, ?_, ?_, fun y hy => ?_, fun y hy => ?_⟩
  · rcases List.mem_append.mp hy with hy | hy
    · exact h.sc y hy
    · rw [List.mem_singleton.mp hy]; exact gsc.1
  · rw [List.map_append, bnds_append]; exact h.pb.append g.pb h.le g.le
  · have := h.le; have := g.le; omega
  · rw [List.map_append, szs_append]; have := h.sz; have := g.sz; exact Nat.add_le_add h.sz g.sz
  · rcases List.mem_append.mp hy with hy | hy
    · exact h.dp y hy
    · rw [List.mem_singleton.mp hy]
      have h1 := g.dp
      rw [dps] at h1
      omega
  · rcases List.mem_append.mp hy with hy | hy
    · exact h.wd y hy
    · rw [List.mem_singleton.mp hy]; exact g.wd _ (List.mem_cons_self ..)
theorem cores_pres : ∀ (its : List It), cores its = pres (its.map It.core)
  | [] => by unfold cores; rw [List.map_nil, pres]; rfl
  | it :: its => by
    show pre it.core ++ cores its = _
    rw [List.map_cons, pres_cons, cores_pres its]
/-- items that are good for the law -/
structure Good (its : List It) : Prop where
  sm : Its its
  nd : (plc (cores its)).Nodup
  tn : ((tops its).map (·.1)).Nodup
  dj : ∀ p ∈ (tops its).map (·.1), p ∉ plc (cores its)
  sc : ∀ it ∈ its, Sc ((tops its).map (·.1)) it.core
  dp : ∀ it ∈ its, dp it.core ≤ 70
  wd : ∀ it ∈ its, Wd it.core
theorem good_of {its dits sits : List It} {H1 H2 : Hp} {dv sv : List V} {c : Int} {m : Nat} {c2 c3 : Int} {S1 S2 : Nat} (hp : its.Perm (sits ++ dits)) (g1 : RsI H1 (plsAt c m) (c + (m : Int)) c2 S1 70 dits dv) (g2 : RsI H2 (plsAt c m) c2 c3 S2 70 sits sv) (ht : (tops dits).map (·.1) = plsAt c m) (htn : ∀ x ∈ tops dits, x.2.length ≤ 100) (hs : tops sits = []) (hS : S1 + S2 ≤ 100000) (hl : sits.length + dits.length ≤ 200) : Good its := by
  have ptops : (tops its).Perm (tops dits) := by
    have h1 : (tops its).Perm (tops (sits ++ dits)) := hp.filterMap _
    have h2 : tops (sits ++ dits) = tops dits := by unfold tops at hs ⊢; rw [List.filterMap_append, hs]; rfl
    rw [h2] at h1; exact h1
  have ptf : ((tops its).map (·.1)).Perm (plsAt c m) := by rw [← ht]; exact ptops.map _
  have pcore : (cores its).Perm (cores (sits ++ dits)) := hp.flatMap_right _
  have ecs : cores (sits ++ dits) = cores sits ++ cores dits := by unfold cores; rw [List.flatMap_append]
  have pplc : (plc (cores its)).Perm ((bnds (sits.map It.core)).map (·.1) ++ (bnds (dits.map It.core)).map (·.1)) := by
    have h1 : (plc (cores its)).Perm (plc (cores sits ++ cores dits)) := by rw [← ecs]; exact (pcore.flatMap_right _).map _
    rw [plc_append, cores_pres sits, cores_pres dits] at h1
    exact h1
  have hmem : ∀ {d : Co}, d ∈ cores its → d ∈ cores sits ∨ d ∈ cores dits := fun {d} hd => by
    have := pcore.mem_iff.mp hd
    rw [ecs] at this
    exact List.mem_append.mp this
  have hin : ∀ {it : It}, it ∈ its → it ∈ sits ∨ it ∈ dits := fun {it} h => List.mem_append.mp (hp.mem_iff.mp h)
  have hparm : ∀ d ∈ cores its, ∀ x ∈ parms d, x.2.length ≤ 100 := fun d hd x hx => by
    rcases hmem hd with h | h
    · rw [cores_pres] at h
      exact (g2.pb.2 x (List.mem_flatMap.mpr ⟨d, h, hx⟩)).1
    · rw [cores_pres] at h
      exact (g1.pb.2 x (List.mem_flatMap.mpr ⟨d, h, hx⟩)).1
  have hwd : ∀ it ∈ its, Wd it.core := fun it hi => (hin hi).elim (g2.wd it) (g1.wd it)
  refine ⟨⟨?_, ?_, fun p n hpn => htn _ (ptops.mem_iff.mp hpn), hparm, fun d hd => ?_⟩, ?_, ?_, fun p hp1 hp2 => ?_, fun it hi => ?_, fun it hi => (hin hi).elim (g2.dp it) (g1.dp it), hwd⟩
  · rw [hp.length_eq, List.length_append]; exact hl
  · rw [pcore.length_eq, ecs, List.length_append, cores_pres, cores_pres, pres_len, pres_len]
    have := g1.sz; have := g2.sz; omega
  · obtain ⟨it, hi, hd'⟩ := mem_cores.mp hd
    exact (hwd it hi d hd').2
  · rw [pplc.nodup_iff, List.nodup_append]
    refine ⟨g2.pb.1, g1.pb.1, fun a ha b hb e => ?_⟩
    obtain ⟨x, hx, rfl⟩ := List.mem_map.mp ha
    obtain ⟨y, hy, rfl⟩ := List.mem_map.mp hb
    obtain ⟨_, k, k1, k2, e1⟩ := g2.pb.2 x hx
    obtain ⟨_, l, l1, l2, e2⟩ := g1.pb.2 y hy
    have e' : pl k = pl l := by rw [← e1, ← e2]; exact e
    have := pl_inj e'
    omega
  · rw [ptf.nodup_iff]; exact plsAt_nd _ _
  · obtain ⟨k, k1, k2, e1⟩ := plsAt_mem (ptf.mem_iff.mp hp1)
    have := g1.le
    rcases List.mem_append.mp (pplc.mem_iff.mp hp2) with h | h
    · obtain ⟨x, hx, rfl⟩ := List.mem_map.mp h
      obtain ⟨_, l, l1, l2, e2⟩ := g2.pb.2 x hx
      have := pl_inj (e1.symm.trans e2)
      omega
    · obtain ⟨x, hx, rfl⟩ := List.mem_map.mp h
      obtain ⟨_, l, l1, l2, e2⟩ := g1.pb.2 x hx
      have := pl_inj (e1.symm.trans e2)
      omega
  · have h := (hin hi).elim (g2.sc it) (g1.sc it)
    exact h.mono fun p hp => ptf.mem_iff.mpr hp
def spItems (K : PySem.W.Frag) : Sp := fun vs H Q _ => ∃ (a D cn : Addr) (ns : List Int) (c : Int), vs = [.ref a, .ref D, .ref cn] ∧ (∀ H' : Hp, (∀ o, H a = some o → a ≠ cn → H' a = some o) → SqL K H' a (ns.map V.int)) ∧ ns.length ≤ 63 ∧ PoolAt H D ∧ CntAt H cn c ∧ c ≤ 10 ^ 18 ∧ D ≠ cn ∧
  ∀ (H' : Hp) (I : Addr) (its : List It) (iv : List V), H' I = some (.lst iv) → Al (ItIn H') its iv → Good its → Q (.ref I) H'
end K72

set_option Elab.async false
set_option linter.all false
set_option maxRecDepth 100000
set_option maxHeartbeats 4000000
set_option exponentiation.threshold 3000
/-! k72: the law's items. Own work. -/
namespace K72
open PySem L2 Builtin.Str
def Kp3 (H H' : Hp) (x y z : Addr) : Prop := ∀ a o, a ≠ x → a ≠ y → a ≠ z → H a = some o → H' a = some o
theorem Kp3.tup {H H' : Hp} {x y z : Addr} {xs ys zs : List V} (k : Kp3 H H' x y z) (h : H x = some (.lst xs)) (g : H y = some (.lst ys)) (f : H z = some (.lst zs)) : Tup H H' := fun e us q => k _ _ (kind_ne q h (fun z => nomatch z)) (kind_ne q g (fun z => nomatch z)) (kind_ne q f (fun z => nomatch z)) q
theorem tops_show {sits : List It} (h : tops sits = []) (co : Co) : tops (sits ++ [.shw co]) = [] := by
  unfold tops at h ⊢
  rw [List.filterMap_append, h]; rfl
theorem Al.insert {α : Type} {R : α → V → Prop} {xs : List α} {vs : List V} (h : Al R xs vs) (k : Nat) {a : α} {v : V} (r : R a v) : Al R (xs.take k ++ a :: xs.drop k) (vs.take k ++ v :: vs.drop k) := (h.take k).append (Al.cons r (h.drop k))
section
variable {P : Program} {w : World} {K : PySem.W.Frag} {mg : Str → Option Value} {base : Heap}
abbrev NIt : List Str := ["_law_script", "_law_pool_here", "_law_count", "_law_draws", "_law_tops", "_law_items_here", "_law_defs", "_law_place", "_law_name", "_law_item"]
theorem scIt : FnScope NIt ["_law_script", "_law_pool_here", "_law_count"] (defScope sItems) := ⟨rfl, rfl, rfl, by decide +kernel, rfl, by decide +kernel, by decide +kernel⟩
theorem ok_items {f fC fW fR fS : Addr} {fd fdC fdW fdR fdS : FuncData} (F : Fun K "_law_items" "_law_items" sItems f fd) (T : Txt mg)
    (kC : PySem.W.keepIn K (.ref fC) = true) (bC : Binds K fdC ["_law_script", "_law_k"] []) (mC : mg "_law_cell_at" = some (.ref fC)) (GC : FnOk P w K mg base CX0 12 fC fdC ["_law_script", "_law_k"] (spCell K))
    (kW : PySem.W.keepIn K (.ref fW) = true) (bW : Binds K fdW ["_law_count", "_law_many_here"] []) (mW : mg "_law_new" = some (.ref fW)) (GW : FnOk P w K mg base CX0 12 fW fdW ["_law_count", "_law_many_here"] spNew)
    (kR : PySem.W.keepIn K (.ref fR) = true) (bR : Binds K fdR pCore []) (mR : mg "_law_core" = some (.ref fR)) (GR4 : FnOk P w K mg base CX0 12 fR fdR pCore (spCore 4)) (GR5 : FnOk P w K mg base CX0 12 fR fdR pCore (spCore 5))
    (kS : PySem.W.keepIn K (.ref fS) = true) (bS : Binds K fdS ["_law_cell", "_law_known", "_law_pool_here", "_law_count"] []) (mS : mg "_law_nest" = some (.ref fS)) (GS : FnOk P w K mg base CX0 12 fS fdS ["_law_cell", "_law_known", "_law_pool_here", "_law_count"] spNest) :
    FnOk P w K mg base CX0 13 f fd ["_law_script", "_law_pool_here", "_law_count"] (spItems K) := by
  refine F.ok scIt (fun vs H Q E h => ?_) (fun cdv A outer s H vs Q E hr h => ?_)
  · obtain ⟨a, D, cn, ns, c, rfl, _⟩ := h; rfl
  · obtain ⟨a, D, cn, ns, c, rfl, hscr, hl, hD, hcn, hc18, nDc, q⟩ := h
    have hS : SqL K H a (ns.map V.int) := hscr H (fun _ e _ => e)
    have nd := scIt.nd
    have z2 : 2 ≤ sizeLine := by rw [sizeLine_eq]; decide
    have z4 : 4 ≤ sizeLine := by rw [sizeLine_eq]; decide
    have RESTX : ∃ t : TS, PSs (cxOf CX0 P w K mg base NIt "_law_items" (defScope sItems) f cdv A outer s H E).nox ((defBody sItems).drop 6) t ∧
        ∀ (dr Tl I Df : Addr) (v7 v8 : Option V) (m : Nat) (c2 c3 : Int) (ds : List Int) (dits sits : List It) (dv sv : List V) (H1 : Hp), m ≤ 4 → GenIn H1 dr Tl D cn ds (plsAt c m) c3 1365 5 → ds.length ≤ 63 → H1 I = some (.lst sv) → H1 Df = some (.lst dv) → I ≠ cn → I ≠ dr → I ≠ Tl → I ≠ D → Df ≠ cn → Df ≠ dr → Df ≠ I → (∀ o, H a = some o → a ≠ cn → H1 a = some o) → (∀ o, H a = some o → a ≠ dr ∧ a ≠ I) →
          RsI H1 (plsAt c m) (c + (m : Int)) c2 1400 70 dits dv → (tops dits).map (·.1) = plsAt c m → (∀ x ∈ tops dits, x.2.length ≤ 100) → (∀ it ∈ dits, ∃ p n co, it = It.defi p n co) → dits.length ≤ 10 → RsI H1 (plsAt c m) c2 c3 200 70 sits sv → tops sits = [] → sits.length ≤ 1 → c3 ≤ 11 * 10 ^ 17 →
          t { nx := fun _ H' => Q .non H', rt := Q } [some (.ref a), some (.ref D), some (.ref cn), some (.ref dr), some (.ref Tl), some (.ref I), some (.ref Df), v7, v8, none] H1 := by
      refine ⟨_, ((pss_cons (ps_while PassesOwn.never (pt_cmpR op_gt (pe_callB call_len_seq (by rfl) T.len bt_len (pa_cons (pv 3) pa_nil)) pe_int (nomark _))
      (pss_one (ps_expr (pe_bm PySem.F.plainAttrs_list PySem.F.slot_list_append PySem.F.type_list_append mt_append (pv 5) (pa_cons (pe_tup (pa_cons pe_str (pa_cons (pe_call GR5 hr (by rfl) mR kR bR .nil pass0 (pa_cons (pv 3) (pa_cons pe_int (pa_cons (pv 4) (pa_cons (pv 1) (pa_cons (pv 2) pa_nil)))))) pa_nil))) pa_nil)))))
      (pss_cons (ps_for PassesOwn.never rfl (pi_list (pv 6)) (pg_name (i := 9) nd rfl (Or.inl rfl))
      (pss_one (ps_expr (pe_bm PySem.F.plainAttrs_list PySem.F.slot_list_insert PySem.F.type_list_insert mt_insert (pv 5) (pa_cons (pe_op op_mod (pe_op op_mul (pe_op op_fdiv (pe_call GC hr (by rfl) mC kC bC .nil pass0 (pa_cons (pv 0) (pa_cons pe_int pa_nil))) pe_int) (pe_op op_mod (pe_ix ix_tup (pv 9) pe_int (fun _ _ => rfl)) pe_int)) (pe_op op_add (pe_callB call_len_seq (by rfl) T.len bt_len (pa_cons (pv 5) pa_nil)) pe_int)) (pa_cons (pv 9) pa_nil))))))
      (pss_one (ps_ret (pv 5)))))), ?_⟩
      intro dr Tl I Df v7 v8 m c2 c3 ds dits sits dv sv H1 hm g hdl hI hDf nIc nId nIT nID nFc nFd nFI ha1 han hRd htd htn hdef hdl10 hRs hts hsl hc3
      have s5 : szb 5 = 1365 := rfl
      refine ⟨fun k σ H' => ∃ (ds' : List Int) (sits' : List It) (sv' : List V) (c' : Int) (n : Nat), σ = [some (.ref a), some (.ref D), some (.ref cn), some (.ref dr), some (.ref Tl), some (.ref I), some (.ref Df), v7, v8, none] ∧ H' dr = some (.lst (ds'.map V.int)) ∧ H' I = some (.lst sv') ∧ CntAt H' cn c' ∧ RsI H' (plsAt c m) c2 c' (200 + 1365 * n) 70 sits' sv' ∧ tops sits' = [] ∧ sits'.length ≤ n + 1 ∧ n + ds'.length ≤ 63 ∧ c' ≤ 11 * 10 ^ 17 + 10920 * (n : Int) ∧ Kp3 H1 H' cn dr I ∧ k = ds'.length,
        ⟨_, ds, sits, sv, c3, 0, rfl, g.hdr, hI, g.hcn, hRs, hts, by omega, by omega, by omega, fun _ _ _ _ _ e => e, rfl⟩, ?_⟩
      rintro k σ H' ⟨ds', sits', sv', c', n, rfl, hdr', hI', hcn', hR', hts', hsl', hnd, hc', kp, rfl⟩
      refine ⟨_, rfl, dr, _, rfl, .inl (SqL.of hdr'), _, _, rfl, rfl, _, rfl, ite2 (fun c1 => ?_) (fun c1 => ?_)⟩
      · have hpos : 0 < ds'.length := by have := of_decide_eq_true c1; rw [List.length_map] at this; omega
        refine ⟨fun σ' H'' => ∃ m', m' < ds'.length ∧ ∃ (ds' : List Int) (sits' : List It) (sv' : List V) (c' : Int) (n : Nat), σ' = [some (.ref a), some (.ref D), some (.ref cn), some (.ref dr), some (.ref Tl), some (.ref I), some (.ref Df), v7, v8, none] ∧ H'' dr = some (.lst (ds'.map V.int)) ∧ H'' I = some (.lst sv') ∧ CntAt H'' cn c' ∧ RsI H'' (plsAt c m) c2 c' (200 + 1365 * n) 70 sits' sv' ∧ tops sits' = [] ∧ sits'.length ≤ n + 1 ∧ n + ds'.length ≤ 63 ∧ c' ≤ 11 * 10 ^ 17 + 10920 * (n : Int) ∧ Kp3 H1 H'' cn dr I ∧ m' = ds'.length, fun _ _ z => z, ?_⟩
        refine ⟨_, rfl, .inl ⟨rfl, _, SqL.of hI'⟩, _, rfl, _, rfl, _, rfl, _, rfl, dr, Tl, D, cn, ds', plsAt c m, c', rfl, ⟨hdr', kp _ _ g.n2 g.n3 (Ne.symm nIT) g.hkl, ?_, hcn', by rw [s5]; omega, g.n1, g.n2, g.n3, g.n4, g.n5, by rw [plsAt_len]; omega⟩, fun H2 v co c4 ds2 hR2 hcn2 hdr2 hdl2 kp2 => ?_⟩
        · obtain ⟨nn, e, r⟩ := g.hD
          exact ⟨nn, kp _ _ g.n4 g.n5 (Ne.symm nID) e, r⟩
        have hI2 := kp2 _ _ nIc nId hI'
        have tk2 := kp2.tup hcn'.1 hdr'
        refine ⟨z2, fun t ht => ?_⟩
        have s3 := same_upd (o := .tup [.str "show", v]) ht
        have hI3 := s3 _ _ hI2
        have tk4 := Tup.lst (ys := sv' ++ [.ref t]) hI3
        have hco : CoIn H2 co v := by obtain ⟨x, xs, e, h1, _⟩ := hR2.al.uncons; cases e; exact h1
        have hcb := hR2.cb
        rw [s5] at hR2 hcb
        refine ⟨I, sv', .ref t, rfl, rfl, hI3, by rw [hR'.al.1, sizeLine_eq]; omega, _, ?_, ds2, sits' ++ [.shw co], sv' ++ [.ref t], c4, n + 1, rfl, ?_, upd_same, ⟨?_, hcn2.2⟩, ?_, tops_show hts' co, by rw [List.length_append, List.length_singleton]; omega, by omega, by omega, fun b o n1 n2 n3 e => ?_, rfl⟩
        · omega
        · rw [upd_ne (Ne.symm nId)]; exact s3 _ _ hdr2
        · rw [upd_ne (Ne.symm nIc)]; exact s3 _ _ hcn2.1
        · rw [show 200 + 1365 * (n + 1) = 200 + 1365 * n + 1365 by omega]
          exact (((hR'.tup tk2).tup (Tup.of s3)).tup tk4).snoc (it := .shw co) (v := v) ⟨t, v, rfl, tk4 _ _ upd_same, (hco.tup (Tup.of s3)).tup tk4⟩ ((hR2.tup (Tup.of s3)).tup tk4) (by decide)
        · rw [upd_ne n3]; exact s3 _ _ (kp2 _ _ n1 n2 (kp _ _ n1 n2 n3 e))
      · have tk := kp.tup g.hcn.1 g.hdr hI
        have hDf' := kp _ _ nFc nFd nFI hDf
        have hRd' := hRd.tup tk
        have ha' : ∀ o, H a = some o → a ≠ cn → H' a = some o := fun o e n => kp _ _ n (han o e).1 (han o e).2 (ha1 o e n)
        refine ⟨_, rfl, Df, rfl, ⟨_, SqL.of hDf'⟩, for_list (xs := dv) (fun i σ H'' => ∃ (v9 : Option V) (its : List It) (iv : List V), σ = [some (.ref a), some (.ref D), some (.ref cn), some (.ref dr), some (.ref Tl), some (.ref I), some (.ref Df), v7, v8, v9] ∧ H'' I = some (.lst iv) ∧ Al (ItIn H'') its iv ∧ its.Perm (sits' ++ dits.take i) ∧ Kp1 H' H'' I)
          ⟨_, sits', sv', rfl, hI', hR'.al, by rw [List.take_zero, List.append_nil], fun _ _ _ e => e⟩ (fun i σ H'' _ hP => by obtain ⟨_, _, _, _, _, _, _, k⟩ := hP; exact SqL.of (k _ _ nFI hDf')) ?_ ?_⟩
        · rintro i x σ H'' hi ⟨v9, its, iv, rfl, hI2, hal2, hpm, k2⟩
          obtain ⟨it, eit, hit⟩ := hRd'.al.at hi
          have tk2 := k2.tup hI'
          have hit2 := hit.tup tk2
          have hlen := hpm.length_eq
          rw [List.length_append, List.length_take] at hlen
          have hmi : it ∈ dits := List.mem_of_getElem? eit
          have hit1 : ∃ (t : Addr) (xs : List V) (p : Int), x = .ref t ∧ SqT K H'' t xs ∧ atI xs 1 = some (.int p) := by
            cases it with
            | defi p n co =>
              obtain ⟨t, cv, e, ht, _⟩ := hit2
              exact ⟨t, _, p, e, SqT.of ht, rfl⟩
            | shw co =>
              obtain ⟨p, n, co', e⟩ := hdef _ hmi
              exact nomatch e
          obtain ⟨t, xs, p, rfl, hsq, hat⟩ := hit1
          refine ⟨_, rfl, .inl ⟨rfl, _, SqL.of hI2⟩, _, rfl, a, 2, ns, rfl, hscr _ (fun o e n => k2 _ _ (han o e).2 (ha' o e n)), hl, fun z => ?_⟩
          have hil : ((iv.length : Nat) : Int) = its.length := by rw [hal2.1]
          have hb : (0 : Int) < (iv.length : Int) + 1 := by omega
          refine ⟨_, _, rfl, rfl, ⟨by decide, by decide⟩, _, rfl, t, xs, _, _, rfl, rfl, hsq, hat, _, _, rfl, rfl, (by show (0 : Int) < _; decide), _, _, rfl, rfl, .inr ⟨by show (-(2 ^ 64) : Int) < p % 11; omega, by show p % 11 < (2 ^ 64 : Int); omega⟩, _, rfl, I, _, rfl, .inl (SqL.of hI2), _, _, rfl, rfl, _, _, rfl, rfl, hb, _, rfl, I, z / 7 * (p % 11) % ((iv.length : Int) + 1), .ref t, iv, rfl, rfl, hI2, Int.emod_nonneg _ (by omega), by have := Int.emod_lt_of_pos (z / 7 * (p % 11)) hb; omega, by rw [hal2.1, hlen, sizeLine_eq]; omega, ?_⟩
          generalize (z / 7 * (p % 11) % ((iv.length : Int) + 1)).toNat = k
          have tk3 := Tup.lst (ys := iv.take k ++ .ref t :: iv.drop k) hI2
          refine ⟨_, its.take k ++ it :: its.drop k, _, rfl, upd_same, (hal2.mono fun _ _ r => ItIn.tup tk3 r).insert k (hit2.tup tk3), ?_, fun b o nb e => by rw [upd_ne nb]; exact k2 _ _ nb e⟩
          rw [List.take_succ, eit, ← List.append_assoc]
          have h1 : (its.take k ++ it :: its.drop k).Perm (it :: (its.take k ++ its.drop k)) := List.perm_middle
          rw [List.take_append_drop] at h1
          have h2 : (sits' ++ dits.take i ++ [it]).Perm (it :: (sits' ++ dits.take i)) := List.perm_append_comm
          exact h1.trans ((hpm.cons it).trans h2.symm)
        · rintro σ H'' ⟨v9, its, iv, rfl, hI2, hal2, hpm, k2⟩
          rw [hRd'.al.1, List.take_length] at hpm
          refine ⟨_, rfl, q H'' I its iv hI2 hal2 (good_of hpm hRd' hR' htd htn hts' ?_ ?_)⟩
          · omega
          · omega
    obtain ⟨tR, hR, rest⟩ := RESTX
    have s4 : szb 4 = 341 := rfl
    refine ⟨_, pss_cons (ps_set (i := 3) nd rfl (Or.inl rfl) (pe_sliceS (pe_slice sl_list (pv 0) (po_some pe_int) (po_some pe_int)) po_none po_none (po_some (pe_un un_neg pe_int))))
      (pss_cons (ps_set (i := 4) nd rfl (Or.inl rfl) (pe_call GW hr (by rfl) mW kW bW .nil pass0 (pa_cons (pv 2) (pa_cons (pe_op op_mod (pe_call GC hr (by rfl) mC kC bC .nil pass0 (pa_cons (pv 0) (pa_cons pe_int pa_nil))) pe_int) pa_nil))))
      (pss_cons (ps_set (i := 5) nd rfl (Or.inl rfl) (pe_lst pa_nil))
      (pss_cons (ps_set (i := 6) nd rfl (Or.inl rfl) (pe_lst pa_nil))
      (pss_cons (ps_for PassesOwn.never rfl (pi_list (pv 4)) (pg_name (i := 7) nd rfl (Or.inl rfl))
      (pss_cons (ps_set (i := 8) nd rfl (Or.inl rfl) (pe_ix ix_list (pv 1) (pe_op op_mod (pe_op op_add (pe_op op_fdiv (pe_call GC hr (by rfl) mC kC bC .nil pass0 (pa_cons (pv 0) (pa_cons pe_int pa_nil))) pe_int) (pe_op op_mul (pv 7) (pv 7))) pe_int) (fun _ _ => rfl)))
        (pss_one (ps_expr (pe_bm PySem.F.plainAttrs_list PySem.F.slot_list_append PySem.F.type_list_append mt_append (pv 6) (pa_cons (pe_tup (pa_cons pe_str (pa_cons (pv 7) (pa_cons (pv 8) (pa_cons (pe_call GR4 hr (by rfl) mR kR bR .nil pass0 (pa_cons (pv 3) (pa_cons pe_int (pa_cons (pv 4) (pa_cons (pv 1) (pa_cons (pv 2) pa_nil)))))) pa_nil))))) pa_nil))))))
      (pss_cons (ps_if (pt_cmpR op_eq (pe_op op_mod (pe_call GC hr (by rfl) mC kC bC .nil pass0 (pa_cons (pv 0) (pa_cons pe_int pa_nil))) pe_int) pe_int (nomark _))
      (pss_one (ps_expr (pe_bm PySem.F.plainAttrs_list PySem.F.slot_list_append PySem.F.type_list_append mt_append (pv 5) (pa_cons (pe_tup (pa_cons pe_str (pa_cons (pe_call GS hr (by rfl) mS kS bS .nil pass0 (pa_cons (pe_op op_fdiv (pe_call GC hr (by rfl) mC kC bC .nil pass0 (pa_cons (pv 0) (pa_cons pe_int pa_nil))) pe_int) (pa_cons (pv 4) (pa_cons (pv 1) (pa_cons (pv 2) pa_nil))))) pa_nil))) pa_nil))))
      pss_nil)
      hR))))), ?_⟩
    -- draws, turned round
    obtain ⟨ds0, ec, hdl0'⟩ := cut_ints ns (some 3) (some 61)
    refine ⟨_, rfl, _, rfl, _, rfl, a, _, rfl, hS, fun L hL0 => ?_⟩
    rw [ec]
    have hdl0 : ds0.length ≤ 63 := by omega
    have s1 := same_upd (o := .lst (ds0.map V.int)) hL0
    have hL : upd H L (.lst (ds0.map V.int)) L = some (.lst (ds0.map V.int)) := upd_same
    generalize upd H L (.lst (ds0.map V.int)) = H1 at s1 hL ⊢
    refine ⟨_, rfl, _, rfl, L, _, rfl, SqL.of hL, (by decide), fun dr hdr => ?_⟩
    rw [pick_map]
    have hdl : (pickA ds0 none none (some (-1))).length ≤ 63 := Nat.le_trans (len_pickA _ _ _ _) hdl0
    have s2 := same_upd (o := .lst ((pickA ds0 none none (some (-1))).map V.int)) hdr
    have hdr2 : upd H1 dr (.lst ((pickA ds0 none none (some (-1))).map V.int)) dr = some (.lst ((pickA ds0 none none (some (-1))).map V.int)) := upd_same
    have hdrH : H dr = none := s1.free hdr
    have s12 := s1.trans s2
    generalize pickA ds0 none none (some (-1)) = ds at hdl hdr2 s12 ⊢
    generalize upd H1 dr (.lst (ds.map V.int)) = H2 at hdr2 s12 ⊢
    have ndc : dr ≠ cn := Ne.symm (ne_of_none hcn.1 hdrH)
    have nDd : D ≠ dr := by obtain ⟨nn, e, _⟩ := hD; exact ne_of_none e hdrH
    have hD2 := hD.same s12
    have hcn2 : CntAt H2 cn c := ⟨s12 _ _ hcn.1, hcn.2⟩
    -- tops
    refine ⟨_, rfl, _, rfl, a, 1, ns, rfl, hscr _ (fun o e _ => s12 _ _ e), hl, fun z => ?_⟩
    have m0 := Int.emod_nonneg z (show (5 : Int) ≠ 0 by decide)
    have m1 := Int.emod_lt_of_pos z (show (0 : Int) < 5 by decide)
    obtain ⟨m, em, hm⟩ : ∃ m : Nat, z % 5 = (m : Int) ∧ m ≤ 4 := ⟨(z % 5).toNat, by omega, by omega⟩
    refine ⟨_, _, rfl, rfl, (by show (0 : Int) < _; decide), cn, m, c, ?_, hcn2, by omega, by omega, fun H3 Tl hTl hcn3 k3 hTn => ?_⟩
    · show [V.ref cn, V.int (z % 5)] = _
      rw [em]
    have hdr3 := k3 _ _ ndc hdr2
    have hD3 := hD2.keep k3 nDc
    have nTc : Tl ≠ cn := Ne.symm (ne_of_none hcn2.1 hTn)
    have nTd : Tl ≠ dr := Ne.symm (ne_of_none hdr2 hTn)
    have ha3 : ∀ o, H a = some o → a ≠ cn → H3 a = some o := fun o e n => k3 _ _ n (s12 _ _ e)
    -- items, defs
    refine ⟨Nat.zero_le _, fun I hI => ⟨Nat.zero_le _, fun Df hDf => ?_⟩⟩
    have s4' := same_upd (o := .lst []) hI
    have s5' := same_upd (o := .lst []) hDf
    have s45 := s4'.trans s5'
    have nIc : I ≠ cn := Ne.symm (ne_of_none hcn3.1 hI)
    have nId : I ≠ dr := Ne.symm (ne_of_none hdr3 hI)
    have nIT : I ≠ Tl := Ne.symm (ne_of_none hTl hI)
    have nID : I ≠ D := by obtain ⟨nn, e, _⟩ := hD3; exact Ne.symm (ne_of_none e hI)
    have hDfH3 : H3 Df = none := s4'.free hDf
    have nFc : Df ≠ cn := Ne.symm (ne_of_none hcn3.1 hDfH3)
    have nFd : Df ≠ dr := Ne.symm (ne_of_none hdr3 hDfH3)
    have nFT : Df ≠ Tl := Ne.symm (ne_of_none hTl hDfH3)
    have nFD : Df ≠ D := by obtain ⟨nn, e, _⟩ := hD3; exact Ne.symm (ne_of_none e hDfH3)
    have nFI : Df ≠ I := Ne.symm (ne_of_none (H := upd H3 I (.lst [])) upd_same hDf)
    have han : ∀ o, H a = some o → a ≠ dr ∧ a ≠ I := fun o e => ⟨ne_of_none e hdrH, fun z => by
      by_cases n : a = cn
      · exact nIc (z ▸ n)
      · exact ne_of_none (ha3 o e n) hI z⟩
    have haf : ∀ o, H a = some o → a ≠ Df := fun o e z => by
      by_cases n : a = cn
      · exact nFc (z ▸ n)
      · exact ne_of_none (ha3 o e n) hDfH3 z
    have hI5 : upd (upd H3 I (.lst [])) Df (.lst []) I = some (.lst []) := s5' _ _ upd_same
    have hDf5 : upd (upd H3 I (.lst [])) Df (.lst []) Df = some (.lst []) := upd_same
    have ha5 : ∀ o, H a = some o → a ≠ cn → upd (upd H3 I (.lst [])) Df (.lst []) a = some o := fun o e n => s45 _ _ (ha3 o e n)
    have hTl5 := s45 _ _ hTl
    have hdr5 := s45 _ _ hdr3
    have hD5 := hD3.same s45
    have hcn5 : CntAt _ cn (c + (m : Int)) := ⟨s45 _ _ hcn3.1, hcn3.2⟩
    generalize upd (upd H3 I (.lst [])) Df (.lst []) = H5 at hI5 hDf5 ha5 hTl5 hdr5 hD5 hcn5 ⊢
    -- the defs
    refine ⟨_, rfl, Tl, rfl, ⟨_, SqL.of hTl5⟩, for_list (xs := (plsAt c m).map V.int) (fun i σ H' => ∃ (v7 v8 : Option V) (dits : List It) (dv : List V) (c2 : Int) (ds' : List Int), σ = [some (.ref a), some (.ref D), some (.ref cn), some (.ref dr), some (.ref Tl), some (.ref I), some (.ref Df), v7, v8, none] ∧ H' Df = some (.lst dv) ∧ RsI H' (plsAt c m) (c + (m : Int)) c2 (i * 341) 70 dits dv ∧ (tops dits).map (·.1) = (plsAt c m).take i ∧ (∀ x ∈ tops dits, x.2.length ≤ 100) ∧ (∀ it ∈ dits, ∃ p n co, it = It.defi p n co) ∧ dits.length = i ∧ CntAt H' cn c2 ∧ c2 ≤ c + (m : Int) + 2728 * (i : Int) ∧ H' dr = some (.lst (ds'.map V.int)) ∧ ds'.length ≤ 63 ∧ Kp3 H5 H' cn dr Df)
      ⟨_, _, [], [], _, ds, rfl, hDf5, by rw [Nat.zero_mul]; exact RsI.nil, rfl, (fun x hx => nomatch hx), (fun x hx => nomatch hx), rfl, hcn5, by omega, hdr5, hdl, fun _ _ _ _ _ e => e⟩ (fun i σ H' _ hP => by obtain ⟨_, _, _, _, _, _, _, _, _, _, _, _, _, _, _, _, _, k⟩ := hP; exact SqL.of (k _ _ nTc nTd (Ne.symm nFT) hTl5)) ?_ ?_⟩
    · rintro i x σ H' hi ⟨v7, v8, dits, dv, c2, ds', rfl, hDf', hRd, htd, htn, hdef, hdl', hcn', hc2, hdr', hdsl, kp⟩
      have hil := (List.getElem?_eq_some_iff.mp hi).1
      rw [List.length_map, plsAt_len] at hil
      rw [List.getElem?_map] at hi
      cases ex : (plsAt c m)[i]? with
      | none => rw [ex] at hi; exact nomatch hi
      | some p =>
        rw [ex] at hi
        cases hi
        obtain ⟨j, j1, j2, ej⟩ := plsAt_mem (List.mem_of_getElem? ex)
        have hpb : -(2 ^ 64) < p ∧ p < 2 ^ 64 := by rw [ej]; unfold pl; have := hcn.2; constructor <;> omega
        have hDp : PoolAt H' D := by obtain ⟨nn, e, r⟩ := hD5; exact ⟨nn, kp _ _ nDc nDd (Ne.symm nFD) e, r⟩
        have hDp0 := hDp
        obtain ⟨nn, hDn, hnl, hnn⟩ := hDp
        refine ⟨_, rfl, _, rfl, a, 1, ns, rfl, hscr _ (fun o e n => kp _ _ n (han o e).1 (haf o e) (ha5 o e n)), hl, fun z' => ?_⟩
        obtain ⟨nv, ev, hv⟩ := at_mod (xs := nn.map V.str) (z' / 5 + p * p) (n := 13) (by rw [List.length_map]; exact hnl) (by decide)
        obtain ⟨nm', hnm, rfl⟩ := List.mem_map.mp hv
        refine ⟨_, _, rfl, rfl, ⟨by decide, by decide⟩, _, rfl, _, rfl, _, _, rfl, rfl, .inl hpb, _, _, rfl, rfl, _, _, rfl, rfl, (by show (0 : Int) < _; decide), D, _, _, _, rfl, rfl, SqL.of hDn, ev, ?_⟩
        have hTl' := kp _ _ nTc nTd (Ne.symm nFT) hTl5
        refine ⟨_, rfl, .inl ⟨rfl, _, SqL.of hDf'⟩, _, rfl, _, rfl, _, rfl, _, rfl, _, rfl, _, rfl, dr, Tl, D, cn, ds', plsAt c m, c2, rfl, ⟨hdr', hTl', hDp0, hcn', by rw [s4]; omega, ndc, nTc, nTd, nDc, nDd, by rw [plsAt_len]; omega⟩, fun H6 v co c6 ds6 hR6 hcn6 hdr6 hdl6 kp6 => ?_⟩
        have hDf6 := kp6 _ _ nFc nFd hDf'
        have tk6 := kp6.tup hcn'.1 hdr'
        refine ⟨z4, fun t ht => ?_⟩
        have s7 := same_upd (o := .tup [.str "def", .int p, .str nm', v]) ht
        have hDf7 := s7 _ _ hDf6
        have tk8 := Tup.lst (ys := dv ++ [.ref t]) hDf7
        have hco : CoIn H6 co v := by obtain ⟨x, xs, e, h1, _⟩ := hR6.al.uncons; cases e; exact h1
        have hcb := hR6.cb
        rw [s4] at hR6 hcb
        refine ⟨Df, dv, .ref t, rfl, rfl, hDf7, by rw [hRd.al.1, hdl', sizeLine_eq]; omega, ?_⟩
        refine ⟨_, _, dits ++ [.defi p nm' co], dv ++ [.ref t], c6, ds6, rfl, upd_same, ?_, ?_, fun x hx => ?_, fun it hit => ?_, by rw [List.length_append, hdl']; rfl, ⟨?_, hcn6.2⟩, by omega, ?_, by omega, fun b o n1 n2 n3 e => ?_⟩
        · rw [Nat.succ_mul]
          exact (((hRd.tup tk6).tup (Tup.of s7)).tup tk8).snoc (it := .defi p nm' co) (v := v) ⟨t, v, rfl, tk8 _ _ upd_same, (hco.tup (Tup.of s7)).tup tk8⟩ ((hR6.tup (Tup.of s7)).tup tk8) (by decide)
        · rw [tops_snoc, List.map_append, htd, List.take_succ, ex]; rfl
        · rw [tops_snoc] at hx
          rcases List.mem_append.mp hx with hx | hx
          · exact htn x hx
          · have : x = (p, nm') := by simpa [It.top] using hx
            rw [this]
            have := hnn nm' hnm
            show nm'.length ≤ 100
            omega
        · rcases List.mem_append.mp hit with hit | hit
          · exact hdef it hit
          · exact ⟨_, _, _, List.mem_singleton.mp hit⟩
        · rw [upd_ne (Ne.symm nFc)]; exact s7 _ _ hcn6.1
        · rw [upd_ne (Ne.symm nFd)]; exact s7 _ _ hdr6
        · rw [upd_ne n3]; exact s7 _ _ (kp6 _ _ n1 n2 (kp _ _ n1 n2 n3 e))
    · rintro σ H' ⟨v7, v8, dits, dv, c2, ds', rfl, hDf', hRd, htd, htn, hdef, hdl', hcn', hc2, hdr', hdsl, kp⟩
      rw [List.length_map, plsAt_len] at hdl'
      have etk : (plsAt c m).take (((plsAt c m).map V.int).length) = plsAt c m := by rw [List.length_map, List.take_length]
      rw [etk] at htd
      have hI' := kp _ _ nIc nId (Ne.symm nFI) hI5
      have hTl' := kp _ _ nTc nTd (Ne.symm nFT) hTl5
      have hDp : PoolAt H' D := by obtain ⟨nn, e, r⟩ := hD5; exact ⟨nn, kp _ _ nDc nDd (Ne.symm nFD) e, r⟩
      have ha' : ∀ o, H a = some o → a ≠ cn → H' a = some o := fun o e n => kp _ _ n (han o e).1 (haf o e) (ha5 o e n)
      have e341 : (((plsAt c m).map V.int).length) * 341 ≤ 1400 := by rw [List.length_map, plsAt_len]; omega
      have hRd' : RsI H' (plsAt c m) (c + (m : Int)) c2 1400 70 dits dv := ⟨hRd.al, hRd.sc, hRd.pb, hRd.le, Nat.le_trans hRd.sz e341, hRd.dp, hRd.wd⟩
      have hlen : (((plsAt c m).map V.int).length : Int) = (m : Int) := by rw [List.length_map, plsAt_len]
      rw [hlen] at hc2
      have hle := hRd.le
      refine ⟨_, rfl, a, 2, ns, rfl, hscr _ ha', hl, fun z3 => ⟨_, _, rfl, rfl, (by show (0 : Int) < _; decide), rfl, _, rfl, ite2 (fun _ => ?_) (fun _ => ?_)⟩⟩
      · refine ⟨_, rfl, .inl ⟨rfl, _, SqL.of hI'⟩, _, rfl, a, 2, ns, rfl, hscr _ ha', hl, fun z5 => ⟨_, _, rfl, rfl, ⟨by decide, by decide⟩, _, rfl, _, rfl, _, rfl, _, Tl, D, cn, plsAt c m, c2, rfl, hTl', hDp, hcn', by omega, nTc, nDc, by rw [plsAt_len]; omega, fun H7 v co c7 hR7 hcn7 k7 => ⟨z2, fun t ht => ?_⟩⟩⟩
        have s8 := same_upd (o := .tup [.str "show", v]) ht
        have hI8 := s8 _ _ (k7 _ _ nIc hI')
        have tk7 := k7.tup hcn'.1
        have tk9 := Tup.lst (ys := [] ++ [.ref t]) hI8
        have hco : CoIn H7 co v := by obtain ⟨x, xs, e, h1, _⟩ := hR7.al.uncons; cases e; exact h1
        have hcb := hR7.cb
        refine ⟨I, [], .ref t, rfl, rfl, hI8, by decide, ?_⟩
        have k9 : ∀ b o, b ≠ cn → b ≠ I → H' b = some o → upd (upd H7 t (.tup [.str "show", v])) I (.lst ([] ++ [.ref t])) b = some o := fun b o n1 n2 e => by rw [upd_ne n2]; exact s8 _ _ (k7 _ _ n1 e)
        refine rest dr Tl I Df v7 v8 m c2 c7 ds' dits [.shw co] dv ([] ++ [.ref t]) _ hm ⟨k9 _ _ ndc (Ne.symm nId) hdr', k9 _ _ nTc (Ne.symm nIT) hTl', ?_, ⟨?_, hcn7.2⟩, by omega, ndc, nTc, nTd, nDc, nDd, by rw [plsAt_len]; omega⟩ hdsl upd_same (k9 _ _ nFc nFI hDf') nIc nId nIT nID nFc nFd nFI (fun o e n => k9 _ _ n (han o e).2 (ha' o e n)) han (hRd'.tup ((tk7.trans (Tup.of s8)).trans tk9)) htd htn hdef (by omega) ?_ rfl (Nat.le_refl _) (by omega)
        · obtain ⟨nn, e, r⟩ := hDp
          exact ⟨nn, k9 _ _ nDc (Ne.symm nID) e, r⟩
        · rw [upd_ne (Ne.symm nIc)]; exact s8 _ _ hcn7.1
        · have h0 : RsI (upd (upd H7 t (.tup [.str "show", v])) I (.lst ([] ++ [.ref t]))) (plsAt c m) c2 c2 0 70 [] [] := RsI.nil
          have h1 := h0.snoc (it := .shw co) (v := v) (x := .ref t) ⟨t, v, rfl, tk9 _ _ upd_same, (hco.tup (Tup.of s8)).tup tk9⟩ ((hR7.tup (Tup.of s8)).tup tk9) (Nat.le_refl _)
          exact ⟨h1.al, h1.sc, h1.pb, h1.le, Nat.le_trans h1.sz (by decide), h1.dp, h1.wd⟩
      · refine rest dr Tl I Df v7 v8 m c2 c2 ds' dits [] dv [] H' hm ⟨hdr', hTl', hDp, hcn', by omega, ndc, nTc, nTd, nDc, nDd, by rw [plsAt_len]; omega⟩ hdsl hI' hDf' nIc nId nIT nID nFc nFd nFI ha' han hRd' htd htn hdef (by omega) ?_ rfl (by decide) (by omega)
        have h0 : RsI H' (plsAt c m) c2 c2 0 70 [] [] := RsI.nil
        exact ⟨h0.al, h0.sc, h0.pb, h0.le, by have := h0.sz; omega, h0.dp, h0.wd⟩
end
end K72

set_option Elab.async false
set_option linter.all false
set_option maxRecDepth 100000
set_option maxHeartbeats 4000000
/-! The model's sort of ints goes one way for all lists of the same ints, whatever their tokens: families of runs. Own work. -/
namespace SD
open PySem PyProof.Rows
variable {ι : Type} {α β : Type}
/-- a family of programs of which each comes to its own value, all of them together to what P says -/
def R (m : ι → StateT SortSt Sem α) (st : ι → SortSt) (P : (ι → α) → (ι → SortSt) → Prop) : Prop :=
  ∃ a st', P a st' ∧ ∀ (i : ι) (prog : Program) (w : World) (A : Around) (E : Value → Shared → Prop) (s : Shared) (Q : α → SortSt → Prop), Q (a i) (st' i) → wpS (model prog w) A E s (m i) Q (st i)
theorem R.pure {v : ι → α} {st : ι → SortSt} {P : (ι → α) → (ι → SortSt) → Prop} (h : P v st) : R (fun i => Pure.pure (v i)) st P := ⟨v, st, h, fun i prog w A E s Q q => wpS_pure q⟩
theorem R.bind {m : ι → StateT SortSt Sem α} {f : ι → α → StateT SortSt Sem β} {st : ι → SortSt} {P : (ι → β) → (ι → SortSt) → Prop} (h : R m st fun a st' => R (fun i => f i (a i)) st' P) : R (fun i => m i >>= f i) st P := by
  obtain ⟨a, st', ⟨b, st2, hP, h2⟩, h1⟩ := h
  exact ⟨b, st2, hP, fun i prog w A E s Q q => wpS_bind (h1 i prog w A E s _ (h2 i prog w A E s Q q))⟩
theorem R.mono {m : ι → StateT SortSt Sem α} {st : ι → SortSt} {P P' : (ι → α) → (ι → SortSt) → Prop} (h : R m st P) (f : ∀ a st', P a st' → P' a st') : R m st P' := by
  obtain ⟨a, st', hP, h1⟩ := h
  exact ⟨a, st', f _ _ hP, h1⟩
theorem R.get {st : ι → SortSt} {P : (ι → SortSt) → (ι → SortSt) → Prop} (h : P st st) : R (fun _ => MonadState.get) st P := ⟨st, st, h, fun i prog w A E s Q q => wpS_get q⟩
theorem R.modify {g : ι → SortSt → SortSt} {st : ι → SortSt} {P : (ι → PUnit) → (ι → SortSt) → Prop} (h : P (fun _ => ⟨⟩) (fun i => g i (st i))) : R (fun i => _root_.modify (g i)) st P := ⟨fun _ => ⟨⟩, fun i => g i (st i), h, fun i prog w A E s Q q => wpS_modify q⟩
theorem R.rule {n : String} {st : ι → SortSt} {P : (ι → Unit) → (ι → SortSt) → Prop} (h : P (fun _ => ()) st) : R (fun _ => (liftM (PySem.rule n) : StateT SortSt Sem Unit)) st P := ⟨fun _ => (), st, h, fun i prog w A E s Q q => wpS_lift (wpAny_rule ⟨rfl, q⟩)⟩
/-- ints, with tokens of their own -/
def X (x : ι → Keyed) : Prop := ∃ z : Int, ∀ i, ∃ t, x i = (.int z t, .int z t)
def IntsOf (arr : Array Keyed) (zs : List Int) : Prop := arr.size = zs.length ∧ ∀ (k : Nat) (z : Int), zs[k]? = some z → ∃ t, arr[k]? = some (.int z t, .int z t)
def V (f : ι → Array Keyed) (n : Nat) : Prop := ∃ zs : List Int, zs.length = n ∧ ∀ i, IntsOf (f i) zs
theorem V.at {f : ι → Array Keyed} {n : Nat} (h : V f n) {k : Nat} (hk : k < n) : ∃ x : ι → Keyed, X x ∧ ∀ i, (f i)[k]? = some (x i) := by
  obtain ⟨zs, rfl, h⟩ := h
  have h1 : ∀ i, ∃ t, (f i)[k]? = some (.int zs[k] t, .int zs[k] t) := fun i => (h i).2 k _ (List.getElem?_eq_getElem hk)
  exact ⟨fun i => (.int zs[k] (Classical.choose (h1 i)), .int zs[k] (Classical.choose (h1 i))), ⟨zs[k], fun i => ⟨_, rfl⟩⟩, fun i => Classical.choose_spec (h1 i)⟩
theorem V.size {f : ι → Array Keyed} {n : Nat} (h : V f n) (i : ι) : (f i).size = n := by
  obtain ⟨zs, rfl, h⟩ := h
  exact (h i).1
theorem V.one {x : ι → Keyed} (h : X x) : V (fun i => #[x i]) 1 := by
  obtain ⟨z, h⟩ := h
  refine ⟨[z], rfl, fun i => ⟨rfl, fun k z' e => ?_⟩⟩
  obtain ⟨t, ht⟩ := h i
  cases k with
  | zero => cases e; exact ⟨t, by show #[x i][0]? = _; rw [ht]; rfl⟩
  | succ k => simp at e
theorem V.append {f g : ι → Array Keyed} {n m : Nat} (h1 : V f n) (h2 : V g m) : V (fun i => f i ++ g i) (n + m) := by
  obtain ⟨zs, rfl, h1⟩ := h1
  obtain ⟨ys, rfl, h2⟩ := h2
  refine ⟨zs ++ ys, List.length_append, fun i => ⟨by rw [Array.size_append, (h1 i).1, (h2 i).1, List.length_append], fun k z e => ?_⟩⟩
  rw [List.getElem?_append] at e
  rw [Array.getElem?_append, (h1 i).1]
  split at e
  · rename_i hk; rw [if_pos hk]; exact (h1 i).2 k z e
  · rename_i hk; rw [if_neg hk]; exact (h2 i).2 _ z e
theorem V.push {f : ι → Array Keyed} {x : ι → Keyed} {n : Nat} (h1 : V f n) (h2 : X x) : V (fun i => (f i).push (x i)) (n + 1) := by
  have := h1.append (V.one h2)
  obtain ⟨zs, e, h⟩ := this
  exact ⟨zs, e, fun i => by have := h i; show IntsOf ((f i).push (x i)) zs; rw [Array.push_eq_append]; exact this⟩
theorem V.extract {f : ι → Array Keyed} {n : Nat} (h : V f n) (a b : Nat) : V (fun i => (f i).extract a b) (min b n - a) := by
  obtain ⟨zs, rfl, h⟩ := h
  refine ⟨(zs.take b).drop a, by rw [List.length_drop, List.length_take], fun i => ⟨by rw [Array.size_extract, List.length_drop, List.length_take, (h i).1], fun k z e => ?_⟩⟩
  rw [List.getElem?_drop, List.getElem?_take] at e
  split at e
  · rename_i hk
    obtain ⟨t, ht⟩ := (h i).2 _ z e
    refine ⟨t, ?_⟩
    have hz := (List.getElem?_eq_some_iff.mp e).1
    rw [Array.getElem?_extract, if_pos (by rw [(h i).1]; omega)]
    exact ht
  · exact nomatch e
theorem V.reverse {f : ι → Array Keyed} {n : Nat} (h : V f n) : V (fun i => (f i).reverse) n := by
  obtain ⟨zs, rfl, h⟩ := h
  refine ⟨zs.reverse, by rw [List.length_reverse], fun i => ⟨by rw [Array.size_reverse, List.length_reverse, (h i).1], fun k z e => ?_⟩⟩
  have hk := (List.getElem?_eq_some_iff.mp e).1
  rw [List.length_reverse] at hk
  rw [List.getElem?_reverse hk] at e
  rw [Array.getElem?_reverse (by rw [(h i).1]; exact hk), (h i).1]
  exact (h i).2 _ z e
theorem V.swap {f : ι → Array Keyed} {n : Nat} (h : V f n) (p q : Nat) : V (fun i => (f i).swapIfInBounds p q) n := by
  obtain ⟨zs, rfl, h⟩ := h
  by_cases hp : p < zs.length
  · by_cases hq : q < zs.length
    · refine ⟨(zs.set p zs[q]).set q zs[p], by simp, fun i => ⟨by rw [Array.size_swapIfInBounds, (h i).1]; simp, fun k z e => ?_⟩⟩
      have s := (h i).1
      rw [getElem?_swapIB (by omega) (by omega)]
      rw [List.getElem?_set, List.getElem?_set] at e
      by_cases e1 : q = k
      · subst e1
        rw [if_pos rfl, if_pos (by simpa using hq)] at e
        cases e
        rw [if_pos rfl]
        exact (h i).2 p _ (List.getElem?_eq_getElem hp)
      · rw [if_neg e1] at e ⊢
        by_cases e2 : p = k
        · subst e2
          rw [if_pos rfl, if_pos hp] at e
          cases e
          rw [if_pos rfl]
          exact (h i).2 q _ (List.getElem?_eq_getElem hq)
        · rw [if_neg e2] at e ⊢
          exact (h i).2 k z e
    · refine ⟨zs, rfl, fun i => ?_⟩
      have s := (h i).1
      show IntsOf ((f i).swapIfInBounds p q) zs
      rw [Array.swapIfInBounds_def, dif_pos (by omega), dif_neg (by omega)]
      exact h i
  · refine ⟨zs, rfl, fun i => ?_⟩
    have s := (h i).1
    show IntsOf ((f i).swapIfInBounds p q) zs
    rw [Array.swapIfInBounds_def, dif_neg (by omega)]
    exact h i
theorem V.swaps {n : Nat} (p q : Nat → Nat) : ∀ (l : List Nat) {f : ι → Array Keyed}, V f n → V (fun i => l.foldl (fun a k => a.swapIfInBounds (p k) (q k)) (f i)) n
  | [], f, h => h
  | k :: l, f, h => V.swaps p q l (h.swap (p k) (q k))
theorem V.setAt {f : ι → Array Keyed} {x : ι → Keyed} {n : Nat} (h : V f n) (hx : X x) (p : Nat) : V (fun i => (f i).setIfInBounds p (x i)) n := by
  obtain ⟨zs, rfl, h⟩ := h
  obtain ⟨y, hx⟩ := hx
  refine ⟨zs.set p y, by simp, fun i => ⟨by rw [Array.size_setIfInBounds, (h i).1]; simp, fun k z e => ?_⟩⟩
  have s := (h i).1
  obtain ⟨t, ht⟩ := hx i
  rw [Array.getElem?_setIfInBounds]
  rw [List.getElem?_set] at e
  by_cases e1 : p = k
  · subst e1
    rw [if_pos rfl] at e ⊢
    split at e
    · rename_i hp
      cases e
      exact ⟨t, by rw [if_pos (by omega), ht]⟩
    · exact nomatch e
  · rw [if_neg e1] at e ⊢
    exact (h i).2 k z e
/-- the state: kinds, the ints, the runs that wait -/
structure Ok (st : ι → SortSt) (n : Nat) (p : Array (Nat × Nat × Nat)) : Prop where
  k : ∀ i, kindOf (st i) = oneType'
  v : V (fun i => arrOf (st i)) n
  p : ∀ i, pendingOf (st i) = p
  g : ∃ g, ∀ i, gallopOf (st i) = g
  f : ∀ i, failedOf (st i) = none
theorem R.elem {arr : ι → Array Keyed} {k : Nat} {x : ι → Keyed} {st : ι → SortSt} {P : (ι → Keyed) → (ι → SortSt) → Prop} (h : ∀ i, (arr i)[k]? = some (x i)) (q : P x st) : R (fun i => elem' (arr i) k) st P :=
  ⟨x, st, q, fun i prog w A E s Q q => by show wpS _ _ _ _ (elem' (arr i) k) _ _; rw [elem'_eq, h i]; exact wpS_pure q⟩
theorem R.lt {x y : ι → Keyed} {st : ι → SortSt} {P : (ι → Option Bool) → (ι → SortSt) → Prop} (hk : ∀ i, kindOf (st i) = oneType') (hx : X x) (hy : X y) (q : ∀ b, P (fun _ => some b) st) : R (fun i => lt' (x i) (y i)) st P := by
  obtain ⟨a, hx⟩ := hx
  obtain ⟨b, hy⟩ := hy
  refine ⟨fun _ => some (decide (a < b)), st, q _, fun i prog w A E s Q q => ?_⟩
  obtain ⟨t, ht⟩ := hx i
  obtain ⟨u, hu⟩ := hy i
  show wpS _ _ _ _ (lt' (x i) (y i)) _ _
  rw [lt'_eq, ht, hu]
  refine wpS_bind (wpS_get ?_)
  rw [hk i, keyLt'_oneType]
  refine wpS_bind (wpS_lift (wpAny_attempt (oneLt_int ⟨rfl, ?_⟩)))
  exact wpS_pure q
theorem R.ltAt {st : ι → SortSt} {n : Nat} {p : Array (Nat × Nat × Nat)} {i j : Nat} {P : (ι → Option Bool) → (ι → SortSt) → Prop} (h : Ok st n p) (hi : i < n) (hj : j < n) (q : ∀ b, P (fun _ => some b) st) : R (fun _ => ltAt' i j) st P := by
  obtain ⟨x, hx, ex⟩ := h.v.at hi
  obtain ⟨y, hy, ey⟩ := h.v.at hj
  have e : (fun _ : ι => ltAt' i j) = fun _ => (MonadState.get >>= fun s => elem' (arrOf s) i >>= fun a => elem' (arrOf s) j >>= fun b => lt' a b) := by
    funext _; rw [ltAt'_eq]
  rw [e]
  refine R.bind (R.get ?_)
  refine R.bind (R.elem ex ?_)
  exact R.bind (R.elem ey (R.lt h.k hx hy q))
/-- a loop -/
theorem R.list {β : Type} (f : ι → Nat → β → StateT SortSt Sem (ForInStep β)) (I : List Nat → (ι → β) → (ι → SortSt) → Prop) (Q : (ι → β) → (ι → SortSt) → Prop)
    (hstep : ∀ x rest b st, I (x :: rest) b st → R (fun i => f i x (b i)) st fun r st' => (∃ b', (∀ i, r i = .done (b' i)) ∧ Q b' st') ∨ ∃ b', (∀ i, r i = .yield (b' i)) ∧ I rest b' st')
    (hend : ∀ b st, I [] b st → Q b st) : ∀ (l : List Nat) (b : ι → β) (st : ι → SortSt), I l b st → R (fun i => forIn l (b i) (f i)) st Q
  | [], b, st, h => by
    have e : (fun i => forIn ([] : List Nat) (b i) (f i)) = fun i => Pure.pure (b i) := by funext i; rw [List.forIn_nil]
    rw [e]
    exact R.pure (hend _ _ h)
  | x :: rest, b, st, h => by
    obtain ⟨r, st', hr, h1⟩ := hstep x rest b st h
    rcases hr with ⟨b', e, q⟩ | ⟨b', e, hI⟩
    · refine ⟨b', st', q, fun i prog w A E s Q' q' => ?_⟩
      show wpS _ _ _ _ (forIn (x :: rest) (b i) (f i)) _ _
      rw [List.forIn_cons]
      refine wpS_bind (h1 i prog w A E s _ ?_)
      rw [e i]
      exact wpS_pure q'
    · obtain ⟨b2, st2, q, h2⟩ := R.list f I Q hstep hend rest b' st' hI
      refine ⟨b2, st2, q, fun i prog w A E s Q' q' => ?_⟩
      show wpS _ _ _ _ (forIn (x :: rest) (b i) (f i)) _ _
      rw [List.forIn_cons]
      refine wpS_bind (h1 i prog w A E s _ ?_)
      rw [e i]
      exact h2 i prog w A E s Q' q'
theorem R.range {β : Type} {a b : Nat} {f : ι → Nat → β → StateT SortSt Sem (ForInStep β)} (I : Nat → (ι → β) → (ι → SortSt) → Prop) {Q : (ι → β) → (ι → SortSt) → Prop}
    (hstep : ∀ k c st, a ≤ k → k < b → I k c st → R (fun i => f i k (c i)) st fun r st' => (∃ c', (∀ i, r i = .done (c' i)) ∧ Q c' st') ∨ ∃ c', (∀ i, r i = .yield (c' i)) ∧ I (k + 1) c' st')
    (hend : ∀ c st, I (max a b) c st → Q c st) {c : ι → β} {st : ι → SortSt} (h : I a c st) : R (fun i => forIn [a:b] (c i) (f i)) st Q := by
  have e : (fun i => forIn [a:b] (c i) (f i)) = fun i => forIn (List.range' a (b - a) 1) (c i) (f i) := by
    funext i
    rw [Std.Legacy.Range.forIn_eq_forIn_range']
    have hsz : ([a:b] : Std.Legacy.Range).size = b - a := by simp [Std.Legacy.Range.size]
    show forIn (List.range' a ([a:b] : Std.Legacy.Range).size 1) (c i) (f i) = _
    rw [hsz]
  rw [e]
  refine R.list f (fun l c st => ∃ i, a ≤ i ∧ i ≤ max a b ∧ l = List.range' i (max a b - i) 1 ∧ I i c st) Q ?_ ?_ _ c st ⟨a, Nat.le_refl _, by omega, by congr 1; omega, h⟩
  · rintro x rest c st ⟨i, hai, hib, hl, hI⟩
    have hlt : i < max a b := by
      rcases Nat.lt_or_ge i (max a b) with h' | h'
      · exact h'
      · rw [show max a b - i = 0 by omega] at hl; simp at hl
    obtain ⟨n, hn⟩ : ∃ n, max a b - i = n + 1 := ⟨max a b - i - 1, by omega⟩
    rw [hn, List.range'_succ] at hl
    obtain ⟨rfl, rfl⟩ := List.cons.inj hl
    refine (hstep x c st hai (by omega) hI).mono fun r st' h' => ?_
    rcases h' with h' | ⟨c', e, h'⟩
    · exact .inl h'
    · exact .inr ⟨c', e, x + 1, by omega, by omega, by congr 1; omega, h'⟩
  · rintro c st ⟨i, hai, hib, hl, hI⟩
    have : i = max a b := by
      rcases Nat.lt_or_ge i (max a b) with h' | h'
      · obtain ⟨n, hn⟩ : ∃ n, max a b - i = n + 1 := ⟨max a b - i - 1, by omega⟩
        rw [hn, List.range'_succ] at hl; simp at hl
      · omega
    subst this; exact hend _ _ hI
end SD

set_option Elab.async false
set_option linter.all false
set_option maxRecDepth 100000
set_option maxHeartbeats 4000000
/-! The model's sort of ints: runs counted, lengthened. Own work. -/
namespace SD
open PySem PyProof.Rows
variable {ι : Type} {α β : Type}
theorem Ok.arr {st : ι → SortSt} {n : Nat} {p : Array (Nat × Nat × Nat)} (h : Ok st n p) {f : ι → Array Keyed} (hf : V f n) : Ok (fun i => setArr (st i) (f i)) n p := ⟨h.k, hf, h.p, h.g, h.f⟩
theorem R.rev {st : ι → SortSt} {n : Nat} {p : Array (Nat × Nat × Nat)} {a b : Nat} {P : (ι → Unit) → (ι → SortSt) → Prop} (h : Ok st n p) (q : ∀ st', Ok st' n p → P (fun _ => ()) st') : R (fun _ => reverseSlice' a b) st P := by
  have e : (fun _ : ι => reverseSlice' a b) = fun _ => _root_.modify fun s => setArr s (mirror (arrOf s) a b ((b - a) / 2)) := by funext _; rw [reverseSlice'_eq]
  rw [e]
  exact R.modify (q _ (h.arr (h.v.swaps (fun k => a + k) (fun k => b - 1 - k) _)))
theorem R.down {st : ι → SortSt} {n : Nat} {p : Array (Nat × Nat × Nat)} {a b : Nat} {P : (ι → Unit) → (ι → SortSt) → Prop} (h : Ok st n p) (q : ∀ st', Ok st' n p → P (fun _ => ()) st') : R (fun _ => moveDown' a b) st P := by
  have e : (fun _ : ι => moveDown' a b) = fun _ => _root_.modify fun s => setArr s (bubble (arrOf s) a (a - b)) := by funext _; rw [moveDown'_eq]
  rw [e]
  exact R.modify (q _ (h.arr (h.v.swaps (fun k => a - k) (fun k => a - k - 1) _)))
theorem R.of {m m' : ι → StateT SortSt Sem α} {st : ι → SortSt} {P : (ι → α) → (ι → SortSt) → Prop} (h : R m' st P) (e : ∀ i, m i = m' i) : R m st P := by rw [funext e]; exact h
theorem R.join {F : ι → StateT SortSt Sem α} {n : Nat} {p : Array (Nat × Nat × Nat)} {P : (ι → α) → (ι → SortSt) → Prop} {G : Prop} (main : (∀ stx, Ok stx n p → R F stx P) → G) (d : ∀ stx, Ok stx n p → R F stx P) : G := main d
theorem R.count {st : ι → SortSt} {n lo nrem : Nat} {p : Array (Nat × Nat × Nat)} {P : (ι → Option Nat) → (ι → SortSt) → Prop} (h : Ok st n p) (hl : lo + nrem ≤ n) (h1 : 1 ≤ nrem) (q : ∀ m st', 1 ≤ m → m ≤ nrem → Ok st' n p → P (fun _ => some m) st') : R (fun _ => countRun' lo nrem) st P := by
  refine R.of ?_ (fun _ => countRun'_eq lo nrem)
  refine R.bind (R.mono (R.range (I := fun k c st' => 1 ≤ k ∧ k ≤ nrem ∧ c = (fun _ => (none, k)) ∧ Ok st' n p) (Q := fun c st' => ∃ m, 1 ≤ m ∧ m ≤ nrem ∧ c = (fun _ => (none, m)) ∧ Ok st' n p) ?_ ?_ (c := fun _ => (none, 1)) ⟨Nat.le_refl _, h1, rfl, h⟩) ?_)
  · rintro k c st' _ hk ⟨h3, h4, rfl, hO⟩
    dsimp only
    refine R.bind (R.ltAt hO (by omega) (by omega) fun b => ?_)
    cases b with
    | true => exact R.pure (.inl ⟨fun _ => (none, k), fun _ => rfl, k, h3, h4, rfl, hO⟩)
    | false => exact R.pure (.inr ⟨fun _ => (none, k + 1), fun _ => rfl, by omega, by omega, rfl, hO⟩)
  · rintro c st' ⟨h3, h4, rfl, hO⟩
    exact ⟨_, by omega, h4, rfl, hO⟩
  rintro c st1 ⟨m, hm1, hm2, rfl, hO1⟩
  dsimp only
  by_cases hm : m = nrem
  · subst hm
    have e2 : (m == m) = true := by simp
    simp only [e2, if_true]
    exact R.pure (q m st1 hm1 (Nat.le_refl _) hO1)
  have e2 : (m == nrem) = false := by simpa using hm
  simp only [e2, Bool.false_eq_true, if_false]
  apply R.join (n := n) (p := p) (P := P)
  · intro desc
    by_cases hn : m > 1
    · simp only [if_pos hn]
      refine R.bind (R.ltAt hO1 (by omega) (by omega) fun b => ?_)
      cases b with
      | true => exact R.pure (q m st1 hm1 hm2 hO1)
      | false =>
        simp only [Bool.false_eq_true, if_false]
        exact R.bind (R.rev hO1 fun st3 h3 => desc st3 h3)
    · simp only [if_neg hn]
      exact desc st1 hO1
  -- what comes down
  intro stx hO
  refine R.bind (R.rule ?_)
  refine R.bind (R.mono (R.range (a := m + 1) (b := nrem) (I := fun k c st' => m + 1 ≤ k ∧ k ≤ nrem ∧ (∃ neq, c = (fun _ => (none, k, neq))) ∧ Ok st' n p) (Q := fun c st' => ∃ k neq, m + 1 ≤ k ∧ k ≤ nrem ∧ c = (fun _ => (none, k, neq)) ∧ Ok st' n p) ?_ ?_ (c := fun _ => (none, m + 1, 0)) ⟨Nat.le_refl _, by omega, ⟨0, rfl⟩, hO⟩) ?_)
  · rintro k c st' _ hk ⟨h3, h4, ⟨neq, rfl⟩, hO⟩
    dsimp only
    refine R.bind (R.ltAt hO (by omega) (by omega) fun b => ?_)
    cases b with
    | true =>
      dsimp only
      by_cases hn : neq > 0
      · simp only [if_pos hn, if_true]
        refine R.bind (R.rev hO fun st2 h2 => ?_)
        exact R.pure (.inr ⟨fun _ => (none, k + 1, 0), fun _ => rfl, by omega, by omega, ⟨0, rfl⟩, h2⟩)
      · simp only [if_neg hn, if_true]
        exact R.pure (.inr ⟨fun _ => (none, k + 1, 0), fun _ => rfl, by omega, by omega, ⟨0, rfl⟩, hO⟩)
    | false =>
      simp only [Bool.false_eq_true, if_false]
      refine R.bind (R.ltAt hO (by omega) (by omega) fun b => ?_)
      cases b with
      | true => exact R.pure (.inl ⟨fun _ => (none, k, neq), fun _ => rfl, k, neq, h3, h4, rfl, hO⟩)
      | false => exact R.pure (.inr ⟨fun _ => (none, k + 1, neq + 1), fun _ => rfl, by omega, by omega, ⟨neq + 1, rfl⟩, hO⟩)
  · rintro c st' ⟨h3, h4, ⟨neq, rfl⟩, hO⟩
    exact ⟨_, neq, by omega, h4, rfl, hO⟩
  rintro c st2 ⟨k, neq, h3, h4, rfl, hO2⟩
  dsimp only
  apply R.join (n := n) (p := p) (P := P)
  · intro tail
    by_cases hn : neq > 0
    · simp only [if_pos hn]
      exact R.bind (R.rev hO2 fun st3 h3 => tail st3 h3)
    · simp only [if_neg hn]
      exact tail st2 hO2
  intro st' hO
  refine R.bind (R.rev hO fun st3 h3' => ?_)
  refine R.bind (R.mono (R.range (a := k) (b := nrem) (I := fun k' c st' => k ≤ k' ∧ k' ≤ nrem ∧ c = (fun _ => (none, k')) ∧ Ok st' n p) (Q := fun c st' => ∃ m, k ≤ m ∧ m ≤ nrem ∧ c = (fun _ => (none, m)) ∧ Ok st' n p) ?_ ?_ (c := fun _ => (none, k)) ⟨Nat.le_refl _, h4, rfl, h3'⟩) ?_)
  · rintro k' c st' _ hk ⟨h3, h4, rfl, hO⟩
    dsimp only
    refine R.bind (R.ltAt hO (by omega) (by omega) fun b => ?_)
    cases b with
    | true => exact R.pure (.inl ⟨fun _ => (none, k'), fun _ => rfl, k', h3, h4, rfl, hO⟩)
    | false => exact R.pure (.inr ⟨fun _ => (none, k' + 1), fun _ => rfl, by omega, by omega, rfl, hO⟩)
  · rintro c st' ⟨h3, h4, rfl, hO⟩
    exact ⟨_, by omega, h4, rfl, hO⟩
  rintro c st4 ⟨m', h5, h6, rfl, hO4⟩
  exact R.pure (q m' st4 (by omega) h6 hO4)
end SD

set_option Elab.async false
set_option linter.all false
set_option maxRecDepth 100000
set_option maxHeartbeats 4000000
/-! The model's sort of ints: a run lengthened; galloping. Own work. -/
namespace SD
open PySem PyProof.Rows
variable {ι : Type} {α β : Type}
theorem R.binary {st : ι → SortSt} {n lo f ok : Nat} {p : Array (Nat × Nat × Nat)} {P : (ι → Bool) → (ι → SortSt) → Prop} (h : Ok st n p) (hl : lo + f ≤ n) (q : ∀ st', Ok st' n p → P (fun _ => true) st') : R (fun _ => binarySort' lo f ok) st P := by
  refine R.bind (R.mono (R.range (I := fun k c st' => c = (fun _ => (none, PUnit.unit)) ∧ Ok st' n p) (Q := fun c st' => c = (fun _ => (none, PUnit.unit)) ∧ Ok st' n p) ?_ ?_ (c := fun _ => (none, PUnit.unit)) ⟨rfl, h⟩) ?_)
  · rintro k c st' hk1 hk ⟨rfl, hO⟩
    dsimp only
    refine R.bind (R.mono (R.range (I := fun _ c st' => (∃ l r, l ≤ k ∧ r ≤ k ∧ c = (fun _ => (none, l, r))) ∧ Ok st' n p) (Q := fun c st' => (∃ l r, l ≤ k ∧ r ≤ k ∧ c = (fun _ => (none, l, r))) ∧ Ok st' n p) ?_ ?_ (c := fun _ => (none, 0, k)) ⟨⟨0, k, Nat.zero_le _, Nat.le_refl _, rfl⟩, hO⟩) ?_)
    · rintro j c st2 _ hj ⟨⟨l, r, hl1, hr1, rfl⟩, hO2⟩
      dsimp only
      by_cases hlr : l ≥ r
      · simp only [if_pos hlr]
        exact R.pure (.inl ⟨fun _ => (none, l, r), fun _ => rfl, ⟨l, r, hl1, hr1, rfl⟩, hO2⟩)
      · simp only [if_neg hlr]
        refine R.bind (R.ltAt hO2 (by omega) (by omega) fun b => ?_)
        cases b with
        | true => exact R.pure (.inr ⟨fun _ => (none, l, (l + r) / 2), fun _ => rfl, ⟨l, (l + r) / 2, hl1, by omega, rfl⟩, hO2⟩)
        | false => exact R.pure (.inr ⟨fun _ => (none, (l + r) / 2 + 1, r), fun _ => rfl, ⟨(l + r) / 2 + 1, r, by omega, hr1, rfl⟩, hO2⟩)
    · rintro c st2 hh
      exact hh
    rintro c st2 ⟨⟨l, r, hl1, hr1, rfl⟩, hO2⟩
    dsimp only
    refine R.bind (R.down hO2 fun st3 h3 => ?_)
    exact R.pure (.inr ⟨fun _ => (none, PUnit.unit), fun _ => rfl, rfl, h3⟩)
  · rintro c st' ⟨rfl, hO⟩
    exact ⟨rfl, hO⟩
  rintro c st' ⟨rfl, hO⟩
  exact R.pure (q st' hO)
def gallop' : Bool → Keyed → Array Keyed → Nat → Nat → Nat → StateT SortSt Sem (Option Nat) := sortPriv% PySem.Builtin.gallop
theorem R.askAt {st : ι → SortSt} {arr : ι → Array Keyed} {na k : Nat} {f : ι → Keyed → StateT SortSt Sem (Option Bool)} {P : (ι → Option Bool) → (ι → SortSt) → Prop} (ha : V arr na) (hk : k < na) (hf : ∀ (x : ι → Keyed) (P' : (ι → Option Bool) → (ι → SortSt) → Prop), X x → (∀ b, P' (fun _ => some b) st) → R (fun i => f i (x i)) st P')
    (q : ∀ b, P (fun _ => some b) st) : R (fun i => elem' (arr i) k >>= f i) st P := by
  obtain ⟨x, hx, ex⟩ := ha.at hk
  exact R.bind (R.elem ex (hf x P hx q))
theorem R.gallop {st : ι → SortSt} {left : Bool} {key : ι → Keyed} {arr : ι → Array Keyed} {na base cnt hint : Nat} {P : (ι → Option Nat) → (ι → SortSt) → Prop} (hk : ∀ i, kindOf (st i) = oneType') (hx : X key) (ha : V arr na) (hb : base + cnt ≤ na) (hh : hint < cnt) (q : ∀ k, k ≤ cnt → P (fun _ => some k) st) :
    R (fun i => gallop' left (key i) (arr i) base cnt hint) st P := by
  refine R.bind ?_
  refine R.askAt ha (k := base + hint) (by omega) ?_ fun right => ?_
  · intro x P' hx' q'; cases left with | false => exact R.bind (R.lt hk hx hx' fun b => R.pure (q' (!b))) | true => exact R.lt hk hx' hx q'
  dsimp only
  cases right with
  | true =>
    simp only [if_true]
    refine R.bind (R.mono (R.range (I := fun _ c st' => (∃ l o, c = (fun _ => (none, l, o))) ∧ st' = st) (Q := fun c st' => (∃ l o, c = (fun _ => (none, l, o))) ∧ st' = st) ?_ (fun c st' h => h) (c := fun _ => (none, 0, 1)) ⟨⟨0, 1, rfl⟩, rfl⟩) ?_)
    · rintro j c st' _ hj ⟨⟨l, o, rfl⟩, rfl⟩
      dsimp only
      by_cases ho : o ≥ cnt - hint
      · simp only [if_pos ho]
        exact R.pure (.inl ⟨fun _ => (none, l, o), fun _ => rfl, ⟨l, o, rfl⟩, rfl⟩)
      · simp only [if_neg ho]
        refine R.bind ?_
        refine R.askAt ha (k := base + (hint + o)) (by omega) ?_ fun more => ?_
        · intro x P' hx' q'; cases left with | false => exact R.bind (R.lt hk hx hx' fun b => R.pure (q' (!b))) | true => exact R.lt hk hx' hx q'
        cases more with
        | true => exact R.pure (.inr ⟨fun _ => (none, o, 2 * o + 1), fun _ => rfl, ⟨o, 2 * o + 1, rfl⟩, rfl⟩)
        | false => exact R.pure (.inl ⟨fun _ => (none, l, o), fun _ => rfl, ⟨l, o, rfl⟩, rfl⟩)
    rintro c st' ⟨⟨l, o, rfl⟩, rfl⟩
    dsimp only
    refine R.bind (R.mono (R.range (I := fun _ c st'' => (∃ l h, h ≤ cnt ∧ c = (fun _ => (none, l, h))) ∧ st'' = st') (Q := fun c st'' => (∃ l h, h ≤ cnt ∧ c = (fun _ => (none, l, h))) ∧ st'' = st') ?_ (fun c st' h => h) (c := fun _ => (none, hint + l + 1, hint + min o (cnt - hint))) ⟨⟨_, _, by omega, rfl⟩, rfl⟩) ?_)
    · rintro j c st'' _ hj ⟨⟨l, h, hc, rfl⟩, rfl⟩
      dsimp only
      by_cases hlh : l ≥ h
      · simp only [if_pos hlh]
        exact R.pure (.inl ⟨fun _ => (none, l, h), fun _ => rfl, ⟨l, h, hc, rfl⟩, rfl⟩)
      · simp only [if_neg hlh]
        refine R.bind ?_
        refine R.askAt ha (k := base + (l + (h - l) / 2)) (by omega) ?_ fun more => ?_
        · intro x P' hx' q'; cases left with | false => exact R.bind (R.lt hk hx hx' fun b => R.pure (q' (!b))) | true => exact R.lt hk hx' hx q'
        cases more with
        | true => exact R.pure (.inr ⟨fun _ => (none, l + (h - l) / 2 + 1, h), fun _ => rfl, ⟨_, _, hc, rfl⟩, rfl⟩)
        | false => exact R.pure (.inr ⟨fun _ => (none, l, l + (h - l) / 2), fun _ => rfl, ⟨_, _, by omega, rfl⟩, rfl⟩)
    rintro c st'' ⟨⟨l, h, hc, rfl⟩, rfl⟩
    exact R.pure (q h hc)
  | false =>
    simp only [Bool.false_eq_true, if_false]
    refine R.bind (R.mono (R.range (I := fun _ c st' => (∃ l o, c = (fun _ => (none, l, o))) ∧ st' = st) (Q := fun c st' => (∃ l o, c = (fun _ => (none, l, o))) ∧ st' = st) ?_ (fun c st' h => h) (c := fun _ => (none, 0, 1)) ⟨⟨0, 1, rfl⟩, rfl⟩) ?_)
    · rintro j c st' _ hj ⟨⟨l, o, rfl⟩, rfl⟩
      dsimp only
      by_cases ho : o ≥ hint + 1
      · simp only [if_pos ho]
        exact R.pure (.inl ⟨fun _ => (none, l, o), fun _ => rfl, ⟨l, o, rfl⟩, rfl⟩)
      · simp only [if_neg ho]
        refine R.bind ?_
        refine R.askAt ha (k := base + (hint - o)) (by omega) ?_ fun more => ?_
        · intro x P' hx' q'; cases left with | false => exact R.bind (R.lt hk hx hx' fun b => R.pure (q' (!b))) | true => exact R.lt hk hx' hx q'
        cases more with
        | false => exact R.pure (.inr ⟨fun _ => (none, o, 2 * o + 1), fun _ => rfl, ⟨o, 2 * o + 1, rfl⟩, rfl⟩)
        | true => exact R.pure (.inl ⟨fun _ => (none, l, o), fun _ => rfl, ⟨l, o, rfl⟩, rfl⟩)
    rintro c st' ⟨⟨l, o, rfl⟩, rfl⟩
    dsimp only
    refine R.bind (R.mono (R.range (I := fun _ c st'' => (∃ l h, h ≤ cnt ∧ c = (fun _ => (none, l, h))) ∧ st'' = st') (Q := fun c st'' => (∃ l h, h ≤ cnt ∧ c = (fun _ => (none, l, h))) ∧ st'' = st') ?_ (fun c st' h => h) (c := fun _ => (none, hint + 1 - min o (hint + 1), hint - l)) ⟨⟨_, _, by omega, rfl⟩, rfl⟩) ?_)
    · rintro j c st'' _ hj ⟨⟨l, h, hc, rfl⟩, rfl⟩
      dsimp only
      by_cases hlh : l ≥ h
      · simp only [if_pos hlh]
        exact R.pure (.inl ⟨fun _ => (none, l, h), fun _ => rfl, ⟨l, h, hc, rfl⟩, rfl⟩)
      · simp only [if_neg hlh]
        refine R.bind ?_
        refine R.askAt ha (k := base + (l + (h - l) / 2)) (by omega) ?_ fun more => ?_
        · intro x P' hx' q'; cases left with | false => exact R.bind (R.lt hk hx hx' fun b => R.pure (q' (!b))) | true => exact R.lt hk hx' hx q'
        cases more with
        | true => exact R.pure (.inr ⟨fun _ => (none, l + (h - l) / 2 + 1, h), fun _ => rfl, ⟨_, _, hc, rfl⟩, rfl⟩)
        | false => exact R.pure (.inr ⟨fun _ => (none, l, l + (h - l) / 2), fun _ => rfl, ⟨_, _, by omega, rfl⟩, rfl⟩)
    rintro c st'' ⟨⟨l, h, hc, rfl⟩, rfl⟩
    exact R.pure (q h hc)
end SD

set_option Elab.async false
set_option linter.all false
set_option maxRecDepth 100000
set_option maxHeartbeats 4000000
/-! The model's sort of ints: merging. Own work. -/
namespace SD
open PySem PyProof.Rows
variable {ι : Type} {α β : Type}
def mergeLo' : Array Keyed → Array Keyed → StateT SortSt Sem (Array Keyed) := sortPriv% PySem.Builtin.mergeLo
theorem V.cast {f : ι → Array Keyed} {n m : Nat} (h : V f n) (e : n = m) : V f m := e ▸ h
/-- what is left is laid behind -/
theorem V.rest {o a b : ι → Array Keyed} {no na nb ia ib m : Nat} (ho : V o no) (ha : V a na) (hb : V b nb) (h1 : ia ≤ na) (h2 : ib ≤ nb) (e : no + (na - ia) + (nb - ib) = m) : V (fun i => o i ++ (a i).extract ia (a i).size ++ (b i).extract ib (b i).size) m := by
  have e1 : (fun i => o i ++ (a i).extract ia (a i).size ++ (b i).extract ib (b i).size) = fun i => o i ++ (a i).extract ia na ++ (b i).extract ib nb := by
    funext i; rw [ha.size i, hb.size i]
  rw [e1]
  exact ((ho.append (ha.extract ia na)).append (hb.extract ib nb)).cast (by omega)
theorem R.iff {c : Prop} [Decidable c] {x y : ι → StateT SortSt Sem α} {st : ι → SortSt} {P : (ι → α) → (ι → SortSt) → Prop} (h1 : c → R x st P) (h2 : ¬ c → R y st P) : R (fun i => if c then x i else y i) st P := by
  by_cases hc : c
  · simp only [if_pos hc]; exact h1 hc
  · simp only [if_neg hc]; exact h2 hc
theorem R.iffs {c : ι → Prop} [∀ i, Decidable (c i)] {d : Prop} {x y : ι → StateT SortSt Sem α} {st : ι → SortSt} {P : (ι → α) → (ι → SortSt) → Prop} (e : ∀ i, c i ↔ d) (h1 : d → R x st P) (h2 : ¬ d → R y st P) : R (fun i => if c i then x i else y i) st P := by
  by_cases hc : d
  · have : (fun i => if c i then x i else y i) = x := funext fun i => if_pos ((e i).mpr hc)
    rw [this]; exact h1 hc
  · have : (fun i => if c i then x i else y i) = y := funext fun i => if_neg fun z => hc ((e i).mp z)
    rw [this]; exact h2 hc
theorem R.rangeF {β : Type} {b : Nat} {B : ι → Nat} {f : ι → Nat → β → StateT SortSt Sem (ForInStep β)} (hB : ∀ i, B i = b) (I : Nat → (ι → β) → (ι → SortSt) → Prop) {Q : (ι → β) → (ι → SortSt) → Prop}
    (hstep : ∀ k c st, k < b → I k c st → R (fun i => f i k (c i)) st fun r st' => (∃ c', (∀ i, r i = .done (c' i)) ∧ Q c' st') ∨ ∃ c', (∀ i, r i = .yield (c' i)) ∧ I (k + 1) c' st')
    (hend : ∀ c st, I b c st → Q c st) {c : ι → β} {st : ι → SortSt} (h : I 0 c st) : R (fun i => forIn [0:B i] (c i) (f i)) st Q := by
  have e : (fun i => forIn [0:B i] (c i) (f i)) = fun i => forIn [0:b] (c i) (f i) := funext fun i => by rw [hB i]
  rw [e]
  exact R.range I (fun k c st _ hk => hstep k c st hk) (fun c st hh => hend c st (by rwa [Nat.zero_max] at hh)) h
theorem R.elemV {arr : ι → Array Keyed} {na k : Nat} {st : ι → SortSt} {P : (ι → Keyed) → (ι → SortSt) → Prop} (ha : V arr na) (hk : k < na) (q : ∀ x, X x → P x st) : R (fun i => elem' (arr i) k) st P := by
  obtain ⟨x, hx, ex⟩ := ha.at hk
  exact R.elem ex (q x hx)
theorem R.gallopF {st : ι → SortSt} {left : Bool} {key : ι → Keyed} {arr : ι → Array Keyed} {C : ι → Nat} {na base cnt hint : Nat} {P : (ι → Option Nat) → (ι → SortSt) → Prop} (hC : ∀ i, C i = cnt) (hk : ∀ i, kindOf (st i) = oneType') (hx : X key) (ha : V arr na) (hb : base + cnt ≤ na) (hh : hint < cnt) (q : ∀ k, k ≤ cnt → P (fun _ => some k) st) :
    R (fun i => gallop' left (key i) (arr i) base (C i) hint) st P := by
  have e : (fun i => gallop' left (key i) (arr i) base (C i) hint) = fun i => gallop' left (key i) (arr i) base cnt hint := funext fun i => by rw [hC i]
  rw [e]
  exact R.gallop hk hx ha hb hh q
theorem Ok.gal {st : ι → SortSt} {n : Nat} {p : Array (Nat × Nat × Nat)} (h : Ok st n p) (g : Nat) : Ok (fun i => SortSt.mk' (kindOf (st i)) (arrOf (st i)) (pendingOf (st i)) g (failedOf (st i))) n p := ⟨h.k, h.v, h.p, ⟨g, fun _ => rfl⟩, h.f⟩
theorem R.gset {st : ι → SortSt} {n g : Nat} {p : Array (Nat × Nat × Nat)} {P : (ι → PUnit) → (ι → SortSt) → Prop} (h : Ok st n p) (q : ∀ st', Ok st' n p → P (fun _ => ⟨⟩) st') : R (fun _ => (sortPriv% PySem.Builtin.setMinGallop) g) st P := by
  refine R.modify ?_
  exact q _ (h.gal g)
theorem R.lo {st : ι → SortSt} {n : Nat} {p : Array (Nat × Nat × Nat)} {a b : ι → Array Keyed} {na nb : Nat} {P : (ι → Array Keyed) → (ι → SortSt) → Prop} (h : Ok st n p) (ha : V a na) (hb : V b nb) (h1 : 1 ≤ na) (h2 : 1 ≤ nb) (q : ∀ out st', V out (na + nb) → Ok st' n p → P out st') : R (fun i => mergeLo' (a i) (b i)) st P := by
  obtain ⟨b0, hb0, eb0⟩ := hb.at (k := 0) (by omega)
  have sa : ∀ j (i : ι), ((j == (a i).size) = true) ↔ j = na := fun j i => by rw [ha.size i]; simp
  have sb : ∀ j (i : ι), ((j == (b i).size) = true) ↔ j = nb := fun j i => by rw [hb.size i]; simp
  refine R.bind (R.rule ?_)
  refine R.bind (R.elem eb0 ?_)
  have hv0 := V.one hb0
  refine R.iffs (sb 1) (fun e => ?_) (fun n1 => ?_)
  · exact R.pure (q _ st (V.rest hv0 ha hb (Nat.zero_le _) h2 (by omega)) h)
  refine R.iffs (sa (0 + 1)) (fun e => ?_) (fun n2 => ?_)
  · exact R.pure (q _ st (V.rest hv0 hb ha h2 (Nat.zero_le _) (by omega)) h)
  refine R.bind (R.get ?_)
  obtain ⟨g0, hg0⟩ := h.g
  refine R.bind (R.mono (R.rangeF (b := na + nb) (fun i => by rw [ha.size i, hb.size i]) (I := fun x c st' => ∃ (out : ι → Array Keyed) (ia ib mg : Nat), c = (fun i => (none, out i, ia, ib, mg)) ∧ V out (ia + ib) ∧ ia + 1 < na ∧ ib < nb ∧ x + 1 ≤ ia + ib ∧ Ok st' n p) (Q := fun c st' => ∃ (res : ι → Array Keyed) (r : ι → Array Keyed × Nat × Nat × Nat), c = (fun i => (some (res i), r i)) ∧ V res (na + nb) ∧ Ok st' n p) ?_ ?_ (c := fun i => (none, #[b0 i], 0, 1, gallopOf (st i))) ⟨fun i => #[b0 i], 0, 1, g0, by funext i; rw [hg0 i], hv0, by omega, by omega, by omega, h⟩) ?_)
  · rintro x c st' hx ⟨out, ia, ib, mg, rfl, hv, hia, hib, hpr, hO⟩
    dsimp -zeta only
    refine R.bind (R.mono (R.rangeF (b := na + nb) (fun i => by rw [ha.size i, hb.size i]) (I := fun _ c st' => ∃ (out : ι → Array Keyed) (ia ib ac bc : Nat), c = (fun i => (none, out i, ia, ib, ac, bc)) ∧ V out (ia + ib) ∧ ia + 1 < na ∧ ib < nb ∧ x + 1 ≤ ia + ib ∧ Ok st' n p) (Q := fun c st' => Ok st' n p ∧ ((∃ (out : ι → Array Keyed) (ia ib ac bc : Nat), c = (fun i => (none, out i, ia, ib, ac, bc)) ∧ V out (ia + ib) ∧ ia + 1 < na ∧ ib < nb ∧ x + 1 ≤ ia + ib) ∨ ∃ (res : ι → Array Keyed) (r : ι → Array Keyed × Nat × Nat × Nat × Nat), c = (fun i => (some (res i), r i)) ∧ V res (na + nb))) ?_ ?_ (c := fun i => (none, out i, ia, ib, 0, 0)) ⟨out, ia, ib, 0, 0, rfl, hv, hia, hib, hpr, hO⟩) ?_)
    · rintro y c st2 hy ⟨out, ia, ib, ac, bc, rfl, hv, hia, hib, hpr, hO2⟩
      obtain ⟨xb, hxb, exb⟩ := hb.at hib
      obtain ⟨xa, hxa, exa⟩ := ha.at (k := ia) (by omega)
      refine R.bind (R.elem exb ?_)
      refine R.bind (R.elem exa ?_)
      refine R.bind (R.lt hO2.k hxb hxa fun w => ?_)
      cases w with
      | true =>
        refine R.bind (R.elem exb ?_)
        have hv' := hv.push hxb
        refine R.iffs (sb (ib + 1)) (fun e => ?_) (fun ne => ?_)
        · exact R.pure (.inl ⟨_, fun i => rfl, hO2, .inr ⟨_, _, rfl, V.rest (ia := ia) (ib := ib + 1) hv' ha hb (by omega) (by omega) (by omega)⟩⟩)
        · refine R.iffs (d := bc + 1 ≥ mg) (fun _ => Iff.rfl) (fun hc => ?_) (fun hc => ?_)
          · exact R.pure (.inl ⟨_, fun i => rfl, hO2, .inl ⟨_, ia, ib + 1, 0, bc + 1, rfl, hv'.cast (by omega), hia, by omega, by omega⟩⟩)
          · exact R.pure (.inr ⟨_, fun i => rfl, _, ia, ib + 1, 0, bc + 1, rfl, hv'.cast (by omega), hia, by omega, by omega, hO2⟩)
      | false =>
        refine R.bind (R.elem exa ?_)
        have hv' := hv.push hxa
        refine R.iffs (sa (ia + 1 + 1)) (fun e => ?_) (fun ne => ?_)
        · exact R.pure (.inl ⟨_, fun i => rfl, hO2, .inr ⟨_, _, rfl, V.rest (ia := ib) (ib := ia + 1) hv' hb ha (by omega) (by omega) (by omega)⟩⟩)
        · refine R.iffs (d := ac + 1 ≥ mg) (fun _ => Iff.rfl) (fun hc => ?_) (fun hc => ?_)
          · exact R.pure (.inl ⟨_, fun i => rfl, hO2, .inl ⟨_, ia + 1, ib, ac + 1, 0, rfl, hv'.cast (by omega), by omega, hib, by omega⟩⟩)
          · exact R.pure (.inr ⟨_, fun i => rfl, _, ia + 1, ib, ac + 1, 0, rfl, hv'.cast (by omega), by omega, hib, by omega, hO2⟩)
    · rintro c st2 ⟨out, ia, ib, ac, bc, rfl, hv, hia, hib, hpr, hO2⟩
      exact ⟨hO2, .inl ⟨out, ia, ib, ac, bc, rfl, hv, hia, hib, hpr⟩⟩
    rintro c st2 ⟨hO2, ⟨out, ia, ib, ac, bc, rfl, hv, hia, hib, hpr⟩ | ⟨res, r, rfl, hres⟩⟩
    · refine R.bind (R.rule ?_)
      refine R.bind (R.mono (R.rangeF (b := na + nb) (fun i => by rw [ha.size i, hb.size i]) (I := fun y c st' => ∃ (out : ι → Array Keyed) (ia ib mg ac bc : Nat), c = (fun i => (none, out i, ia, ib, mg, ac, bc)) ∧ V out (ia + ib) ∧ ia + 1 < na ∧ ib < nb ∧ x + 1 + y ≤ ia + ib ∧ Ok st' n p) (Q := fun c st' => Ok st' n p ∧ ((∃ (out : ι → Array Keyed) (ia ib mg ac bc : Nat), c = (fun i => (none, out i, ia, ib, mg, ac, bc)) ∧ V out (ia + ib) ∧ ia + 1 < na ∧ ib < nb ∧ x + 2 ≤ ia + ib) ∨ ∃ (res : ι → Array Keyed) (r : ι → Array Keyed × Nat × Nat × Nat × Nat × Nat), c = (fun i => (some (res i), r i)) ∧ V res (na + nb))) ?_ ?_ (c := fun i => (none, out i, ia, ib, mg + 1, ac, bc)) ⟨out, ia, ib, mg + 1, ac, bc, rfl, hv, hia, hib, by omega, hO2⟩) ?_)
      · rintro y c st3 hy ⟨out, ia, ib, mg2, ac, bc, rfl, hv, hia, hib, hpr2, hO2'⟩
        dsimp only
        rcases Nat.lt_or_ge 1 mg2 with hmg | hmg
        · refine R.iffs (d := True) (fun _ => ⟨fun _ => trivial, fun _ => hmg⟩) (fun _ => ?_) (fun z => absurd trivial z)
          refine R.bind (R.gset (g := mg2 - 1) hO2' fun st4 hO3 => ?_)
          refine R.bind (R.elemV hb hib fun x1 hx1 => ?_)
          refine R.bind (R.gallopF (cnt := na - ia) (fun i => by rw [ha.size i]) hO3.k hx1 ha (by omega) (by omega) fun k hk => ?_)
          rcases Nat.eq_zero_or_pos k with rfl | hkp
          · refine R.iffs (d := False) (fun _ => ⟨fun z => absurd z (Nat.lt_irrefl 0), False.elim⟩) False.elim (fun _ => ?_)
            have hv1 := hv
            refine R.bind (R.elemV hb (by omega) fun x2 hx2 => ?_)
            have hv2 := hv1.push hx2
            refine R.iffs (sb (ib + 1)) (fun e2 => ?_) (fun ne2 => ?_)
            · refine R.pure (.inl ⟨_, fun i => rfl, hO3, .inr ⟨_, _, rfl, ?_⟩⟩)
              refine V.rest hv2 ha hb ?_ ?_ ?_ <;> omega
            refine R.bind (R.elemV ha (by omega) fun x3 hx3 => ?_)
            refine R.bind (R.gallopF (cnt := nb - (ib + 1)) (fun i => by rw [hb.size i]) hO3.k hx3 hb (by omega) (by omega) fun k2 hk2 => ?_)
            rcases Nat.eq_zero_or_pos k2 with rfl | hk2p
            · refine R.iffs (d := False) (fun _ => ⟨fun z => absurd z (Nat.lt_irrefl 0), False.elim⟩) False.elim (fun _ => ?_)
              refine R.bind (R.elemV ha (by omega) fun x4 hx4 => ?_)
              have hv4 := hv2.push hx4
              refine R.iffs (sa (ia + 1 + 1)) (fun e4 => ?_) (fun ne4 => ?_)
              · refine R.pure (.inl ⟨_, fun i => rfl, hO3, .inr ⟨_, _, rfl, ?_⟩⟩)
                refine V.rest hv4 hb ha ?_ ?_ ?_ <;> omega
              · refine R.iffs (d := (decide (0 < 7) && decide (0 < 7)) = true) (fun _ => Iff.rfl) (fun hc => ?_) (fun hc => ?_)
                · exact R.pure (.inl ⟨_, fun i => rfl, hO3, .inl ⟨_, ia + 1, (ib + 1), _, _, _, rfl, hv4.cast (by omega), by omega, by omega, by omega⟩⟩)
                · exact R.pure (.inr ⟨_, fun i => rfl, _, ia + 1, (ib + 1), _, _, _, rfl, hv4.cast (by omega), by omega, by omega, by omega, hO3⟩)
            · refine R.iffs (d := True) (fun _ => ⟨fun _ => trivial, fun _ => hk2p⟩) (fun _ => ?_) (fun z => absurd trivial z)
              have hv3 := hv2.append (hb.extract (ib + 1) (ib + 1 + k2))
              refine R.iffs (sb (ib + 1 + k2)) (fun e3 => ?_) (fun ne3 => ?_)
              · refine R.pure (.inl ⟨_, fun i => rfl, hO3, .inr ⟨_, _, rfl, ?_⟩⟩)
                refine V.rest hv3 ha hb ?_ ?_ ?_ <;> omega
              refine R.bind (R.elemV ha (by omega) fun x4 hx4 => ?_)
              have hv4 := hv3.push hx4
              refine R.iffs (sa (ia + 1 + 1)) (fun e4 => ?_) (fun ne4 => ?_)
              · refine R.pure (.inl ⟨_, fun i => rfl, hO3, .inr ⟨_, _, rfl, ?_⟩⟩)
                refine V.rest hv4 hb ha ?_ ?_ ?_ <;> omega
              · refine R.iffs (d := (decide (0 < 7) && decide (k2 < 7)) = true) (fun _ => Iff.rfl) (fun hc => ?_) (fun hc => ?_)
                · exact R.pure (.inl ⟨_, fun i => rfl, hO3, .inl ⟨_, ia + 1, (ib + 1 + k2), _, _, _, rfl, hv4.cast (by omega), by omega, by omega, by omega⟩⟩)
                · exact R.pure (.inr ⟨_, fun i => rfl, _, ia + 1, (ib + 1 + k2), _, _, _, rfl, hv4.cast (by omega), by omega, by omega, by omega, hO3⟩)
          · refine R.iffs (d := True) (fun _ => ⟨fun _ => trivial, fun _ => hkp⟩) (fun _ => ?_) (fun z => absurd trivial z)
            have hv1 := (hv.append (ha.extract ia (ia + k)))
            refine R.iffs (sa (ia + k + 1)) (fun e1 => ?_) (fun ne1 => ?_)
            · refine R.pure (.inl ⟨_, fun i => rfl, hO3, .inr ⟨_, _, rfl, ?_⟩⟩)
              refine V.rest hv1 hb ha ?_ ?_ ?_ <;> omega
            refine R.iffs (sa (ia + k)) (fun e1 => ?_) (fun ne1' => ?_)
            · refine R.pure (.inl ⟨_, fun i => rfl, hO3, .inr ⟨_, _, rfl, ?_⟩⟩)
              refine V.rest hv1 ha hb ?_ ?_ ?_ <;> omega
            refine R.bind (R.elemV hb (by omega) fun x2 hx2 => ?_)
            have hv2 := hv1.push hx2
            refine R.iffs (sb (ib + 1)) (fun e2 => ?_) (fun ne2 => ?_)
            · refine R.pure (.inl ⟨_, fun i => rfl, hO3, .inr ⟨_, _, rfl, ?_⟩⟩)
              refine V.rest hv2 ha hb ?_ ?_ ?_ <;> omega
            refine R.bind (R.elemV ha (by omega) fun x3 hx3 => ?_)
            refine R.bind (R.gallopF (cnt := nb - (ib + 1)) (fun i => by rw [hb.size i]) hO3.k hx3 hb (by omega) (by omega) fun k2 hk2 => ?_)
            rcases Nat.eq_zero_or_pos k2 with rfl | hk2p
            · refine R.iffs (d := False) (fun _ => ⟨fun z => absurd z (Nat.lt_irrefl 0), False.elim⟩) False.elim (fun _ => ?_)
              refine R.bind (R.elemV ha (by omega) fun x4 hx4 => ?_)
              have hv4 := hv2.push hx4
              refine R.iffs (sa (ia + k + 1 + 1)) (fun e4 => ?_) (fun ne4 => ?_)
              · refine R.pure (.inl ⟨_, fun i => rfl, hO3, .inr ⟨_, _, rfl, ?_⟩⟩)
                refine V.rest hv4 hb ha ?_ ?_ ?_ <;> omega
              · refine R.iffs (d := (decide (k < 7) && decide (0 < 7)) = true) (fun _ => Iff.rfl) (fun hc => ?_) (fun hc => ?_)
                · exact R.pure (.inl ⟨_, fun i => rfl, hO3, .inl ⟨_, (ia + k) + 1, (ib + 1), _, _, _, rfl, hv4.cast (by omega), by omega, by omega, by omega⟩⟩)
                · exact R.pure (.inr ⟨_, fun i => rfl, _, (ia + k) + 1, (ib + 1), _, _, _, rfl, hv4.cast (by omega), by omega, by omega, by omega, hO3⟩)
            · refine R.iffs (d := True) (fun _ => ⟨fun _ => trivial, fun _ => hk2p⟩) (fun _ => ?_) (fun z => absurd trivial z)
              have hv3 := hv2.append (hb.extract (ib + 1) (ib + 1 + k2))
              refine R.iffs (sb (ib + 1 + k2)) (fun e3 => ?_) (fun ne3 => ?_)
              · refine R.pure (.inl ⟨_, fun i => rfl, hO3, .inr ⟨_, _, rfl, ?_⟩⟩)
                refine V.rest hv3 ha hb ?_ ?_ ?_ <;> omega
              refine R.bind (R.elemV ha (by omega) fun x4 hx4 => ?_)
              have hv4 := hv3.push hx4
              refine R.iffs (sa (ia + k + 1 + 1)) (fun e4 => ?_) (fun ne4 => ?_)
              · refine R.pure (.inl ⟨_, fun i => rfl, hO3, .inr ⟨_, _, rfl, ?_⟩⟩)
                refine V.rest hv4 hb ha ?_ ?_ ?_ <;> omega
              · refine R.iffs (d := (decide (k < 7) && decide (k2 < 7)) = true) (fun _ => Iff.rfl) (fun hc => ?_) (fun hc => ?_)
                · exact R.pure (.inl ⟨_, fun i => rfl, hO3, .inl ⟨_, (ia + k) + 1, (ib + 1 + k2), _, _, _, rfl, hv4.cast (by omega), by omega, by omega, by omega⟩⟩)
                · exact R.pure (.inr ⟨_, fun i => rfl, _, (ia + k) + 1, (ib + 1 + k2), _, _, _, rfl, hv4.cast (by omega), by omega, by omega, by omega, hO3⟩)
        · refine R.iffs (d := False) (fun _ => ⟨fun z => absurd z (Nat.not_lt.mpr hmg), False.elim⟩) False.elim (fun _ => ?_)
          refine R.bind (R.gset (g := mg2) hO2' fun st4 hO3 => ?_)
          refine R.bind (R.elemV hb hib fun x1 hx1 => ?_)
          refine R.bind (R.gallopF (cnt := na - ia) (fun i => by rw [ha.size i]) hO3.k hx1 ha (by omega) (by omega) fun k hk => ?_)
          rcases Nat.eq_zero_or_pos k with rfl | hkp
          · refine R.iffs (d := False) (fun _ => ⟨fun z => absurd z (Nat.lt_irrefl 0), False.elim⟩) False.elim (fun _ => ?_)
            have hv1 := hv
            refine R.bind (R.elemV hb (by omega) fun x2 hx2 => ?_)
            have hv2 := hv1.push hx2
            refine R.iffs (sb (ib + 1)) (fun e2 => ?_) (fun ne2 => ?_)
            · refine R.pure (.inl ⟨_, fun i => rfl, hO3, .inr ⟨_, _, rfl, ?_⟩⟩)
              refine V.rest hv2 ha hb ?_ ?_ ?_ <;> omega
            refine R.bind (R.elemV ha (by omega) fun x3 hx3 => ?_)
            refine R.bind (R.gallopF (cnt := nb - (ib + 1)) (fun i => by rw [hb.size i]) hO3.k hx3 hb (by omega) (by omega) fun k2 hk2 => ?_)
            rcases Nat.eq_zero_or_pos k2 with rfl | hk2p
            · refine R.iffs (d := False) (fun _ => ⟨fun z => absurd z (Nat.lt_irrefl 0), False.elim⟩) False.elim (fun _ => ?_)
              refine R.bind (R.elemV ha (by omega) fun x4 hx4 => ?_)
              have hv4 := hv2.push hx4
              refine R.iffs (sa (ia + 1 + 1)) (fun e4 => ?_) (fun ne4 => ?_)
              · refine R.pure (.inl ⟨_, fun i => rfl, hO3, .inr ⟨_, _, rfl, ?_⟩⟩)
                refine V.rest hv4 hb ha ?_ ?_ ?_ <;> omega
              · refine R.iffs (d := (decide (0 < 7) && decide (0 < 7)) = true) (fun _ => Iff.rfl) (fun hc => ?_) (fun hc => ?_)
                · exact R.pure (.inl ⟨_, fun i => rfl, hO3, .inl ⟨_, ia + 1, (ib + 1), _, _, _, rfl, hv4.cast (by omega), by omega, by omega, by omega⟩⟩)
                · exact R.pure (.inr ⟨_, fun i => rfl, _, ia + 1, (ib + 1), _, _, _, rfl, hv4.cast (by omega), by omega, by omega, by omega, hO3⟩)
            · refine R.iffs (d := True) (fun _ => ⟨fun _ => trivial, fun _ => hk2p⟩) (fun _ => ?_) (fun z => absurd trivial z)
              have hv3 := hv2.append (hb.extract (ib + 1) (ib + 1 + k2))
              refine R.iffs (sb (ib + 1 + k2)) (fun e3 => ?_) (fun ne3 => ?_)
              · refine R.pure (.inl ⟨_, fun i => rfl, hO3, .inr ⟨_, _, rfl, ?_⟩⟩)
                refine V.rest hv3 ha hb ?_ ?_ ?_ <;> omega
              refine R.bind (R.elemV ha (by omega) fun x4 hx4 => ?_)
              have hv4 := hv3.push hx4
              refine R.iffs (sa (ia + 1 + 1)) (fun e4 => ?_) (fun ne4 => ?_)
              · refine R.pure (.inl ⟨_, fun i => rfl, hO3, .inr ⟨_, _, rfl, ?_⟩⟩)
                refine V.rest hv4 hb ha ?_ ?_ ?_ <;> omega
              · refine R.iffs (d := (decide (0 < 7) && decide (k2 < 7)) = true) (fun _ => Iff.rfl) (fun hc => ?_) (fun hc => ?_)
                · exact R.pure (.inl ⟨_, fun i => rfl, hO3, .inl ⟨_, ia + 1, (ib + 1 + k2), _, _, _, rfl, hv4.cast (by omega), by omega, by omega, by omega⟩⟩)
                · exact R.pure (.inr ⟨_, fun i => rfl, _, ia + 1, (ib + 1 + k2), _, _, _, rfl, hv4.cast (by omega), by omega, by omega, by omega, hO3⟩)
          · refine R.iffs (d := True) (fun _ => ⟨fun _ => trivial, fun _ => hkp⟩) (fun _ => ?_) (fun z => absurd trivial z)
            have hv1 := (hv.append (ha.extract ia (ia + k)))
            refine R.iffs (sa (ia + k + 1)) (fun e1 => ?_) (fun ne1 => ?_)
            · refine R.pure (.inl ⟨_, fun i => rfl, hO3, .inr ⟨_, _, rfl, ?_⟩⟩)
              refine V.rest hv1 hb ha ?_ ?_ ?_ <;> omega
            refine R.iffs (sa (ia + k)) (fun e1 => ?_) (fun ne1' => ?_)
            · refine R.pure (.inl ⟨_, fun i => rfl, hO3, .inr ⟨_, _, rfl, ?_⟩⟩)
              refine V.rest hv1 ha hb ?_ ?_ ?_ <;> omega
            refine R.bind (R.elemV hb (by omega) fun x2 hx2 => ?_)
            have hv2 := hv1.push hx2
            refine R.iffs (sb (ib + 1)) (fun e2 => ?_) (fun ne2 => ?_)
            · refine R.pure (.inl ⟨_, fun i => rfl, hO3, .inr ⟨_, _, rfl, ?_⟩⟩)
              refine V.rest hv2 ha hb ?_ ?_ ?_ <;> omega
            refine R.bind (R.elemV ha (by omega) fun x3 hx3 => ?_)
            refine R.bind (R.gallopF (cnt := nb - (ib + 1)) (fun i => by rw [hb.size i]) hO3.k hx3 hb (by omega) (by omega) fun k2 hk2 => ?_)
            rcases Nat.eq_zero_or_pos k2 with rfl | hk2p
            · refine R.iffs (d := False) (fun _ => ⟨fun z => absurd z (Nat.lt_irrefl 0), False.elim⟩) False.elim (fun _ => ?_)
              refine R.bind (R.elemV ha (by omega) fun x4 hx4 => ?_)
              have hv4 := hv2.push hx4
              refine R.iffs (sa (ia + k + 1 + 1)) (fun e4 => ?_) (fun ne4 => ?_)
              · refine R.pure (.inl ⟨_, fun i => rfl, hO3, .inr ⟨_, _, rfl, ?_⟩⟩)
                refine V.rest hv4 hb ha ?_ ?_ ?_ <;> omega
              · refine R.iffs (d := (decide (k < 7) && decide (0 < 7)) = true) (fun _ => Iff.rfl) (fun hc => ?_) (fun hc => ?_)
                · exact R.pure (.inl ⟨_, fun i => rfl, hO3, .inl ⟨_, (ia + k) + 1, (ib + 1), _, _, _, rfl, hv4.cast (by omega), by omega, by omega, by omega⟩⟩)
                · exact R.pure (.inr ⟨_, fun i => rfl, _, (ia + k) + 1, (ib + 1), _, _, _, rfl, hv4.cast (by omega), by omega, by omega, by omega, hO3⟩)
            · refine R.iffs (d := True) (fun _ => ⟨fun _ => trivial, fun _ => hk2p⟩) (fun _ => ?_) (fun z => absurd trivial z)
              have hv3 := hv2.append (hb.extract (ib + 1) (ib + 1 + k2))
              refine R.iffs (sb (ib + 1 + k2)) (fun e3 => ?_) (fun ne3 => ?_)
              · refine R.pure (.inl ⟨_, fun i => rfl, hO3, .inr ⟨_, _, rfl, ?_⟩⟩)
                refine V.rest hv3 ha hb ?_ ?_ ?_ <;> omega
              refine R.bind (R.elemV ha (by omega) fun x4 hx4 => ?_)
              have hv4 := hv3.push hx4
              refine R.iffs (sa (ia + k + 1 + 1)) (fun e4 => ?_) (fun ne4 => ?_)
              · refine R.pure (.inl ⟨_, fun i => rfl, hO3, .inr ⟨_, _, rfl, ?_⟩⟩)
                refine V.rest hv4 hb ha ?_ ?_ ?_ <;> omega
              · refine R.iffs (d := (decide (k < 7) && decide (k2 < 7)) = true) (fun _ => Iff.rfl) (fun hc => ?_) (fun hc => ?_)
                · exact R.pure (.inl ⟨_, fun i => rfl, hO3, .inl ⟨_, (ia + k) + 1, (ib + 1 + k2), _, _, _, rfl, hv4.cast (by omega), by omega, by omega, by omega⟩⟩)
                · exact R.pure (.inr ⟨_, fun i => rfl, _, (ia + k) + 1, (ib + 1 + k2), _, _, _, rfl, hv4.cast (by omega), by omega, by omega, by omega, hO3⟩)
      · rintro c st3 ⟨out, ia, ib, mg2, ac, bc, rfl, hv, hia, hib, hpr2, hO2'⟩
        exact ⟨hO2', .inl ⟨out, ia, ib, mg2, ac, bc, rfl, hv, hia, hib, by omega⟩⟩
      rintro c st3 ⟨hO3, ⟨out, ia, ib, mg2, ac, bc, rfl, hv, hia, hib, hpr2⟩ | ⟨res, r, rfl, hres⟩⟩
      · refine R.bind (R.gset (g := mg2 + 1) hO3 fun st4 hO4 => ?_)
        exact R.pure (.inr ⟨_, fun i => rfl, out, ia, ib, mg2 + 1, rfl, hv, hia, hib, by omega, hO4⟩)
      · exact R.pure (.inl ⟨_, fun i => rfl, res, _, rfl, hres, hO3⟩)
    · exact R.pure (.inl ⟨_, fun i => rfl, res, _, rfl, hres, hO2⟩)
  · rintro c st' ⟨out, ia, ib, mg, rfl, hv, hia, hib, hpr, hO⟩
    omega
  rintro c st' ⟨res, r, rfl, hres, hO⟩
  exact R.pure (q res st' hres hO)
end SD

set_option Elab.async false
set_option linter.all false
set_option maxRecDepth 100000
set_option maxHeartbeats 4000000
/-! The model's sort of ints: merging from the end. Own work. -/
namespace SD
open PySem PyProof.Rows
variable {ι : Type} {α β : Type}
def mergeHi' : Array Keyed → Array Keyed → StateT SortSt Sem (Array Keyed) := sortPriv% PySem.Builtin.mergeHi
theorem V.rest2 {o a b : ι → Array Keyed} {no na nb ia ib m : Nat} (ho : V o no) (ha : V a na) (hb : V b nb) (h1 : ia ≤ na) (h2 : ib ≤ nb) (e : ia + ib + no = m) : V (fun i => (a i).extract 0 ia ++ (b i).extract 0 ib ++ (o i).reverse) m :=
  (((ha.extract 0 ia).append (hb.extract 0 ib)).append ho.reverse).cast (by omega)
theorem R.elemF {arr : ι → Array Keyed} {K : ι → Nat} {na k : Nat} {st : ι → SortSt} {P : (ι → Keyed) → (ι → SortSt) → Prop} (hK : ∀ i, K i = k) (ha : V arr na) (hk : k < na) (q : ∀ x, X x → P x st) : R (fun i => elem' (arr i) (K i)) st P := by
  have e : (fun i => elem' (arr i) (K i)) = fun i => elem' (arr i) k := funext fun i => by rw [hK i]
  rw [e]
  exact R.elemV ha hk q
theorem V.ext {f g : ι → Array Keyed} {n : Nat} (h : V f n) (e : ∀ i, g i = f i) : V g n := by rw [funext e]; exact h
theorem R.hi {st : ι → SortSt} {n : Nat} {p : Array (Nat × Nat × Nat)} {a b : ι → Array Keyed} {A B : Nat} {P : (ι → Array Keyed) → (ι → SortSt) → Prop} (h : Ok st n p) (ha : V a A) (hb : V b B) (h1 : 1 ≤ A) (h2 : 1 ≤ B) (q : ∀ out st', V out (A + B) → Ok st' n p → P out st') : R (fun i => mergeHi' (a i) (b i)) st P := by
  refine R.bind (R.rule ?_)
  refine R.bind (R.elemF (k := A - 1) (fun i => by rw [ha.size i]) ha (by omega) fun x0 hx0 => ?_)
  have hv0 := V.one hx0
  refine R.iffs (d := A - 1 = 0) (fun i => by rw [ha.size i]; simp) (fun e => ?_) (fun n1 => ?_)
  · exact R.pure (q _ st ((V.rest2 (ia := A - 1) (ib := B) hv0 ha hb (by omega) (Nat.le_refl _) (by omega)).ext fun i => by rw [ha.size i, hb.size i]) h)
  refine R.iffs (d := B = 1) (fun i => by rw [hb.size i]; simp) (fun e => ?_) (fun n2 => ?_)
  · exact R.pure (q _ st ((V.rest2 (ia := B) (ib := A - 1) hv0 hb ha (Nat.le_refl _) (by omega) (by omega)).ext fun i => by rw [ha.size i, hb.size i]) h)
  refine R.bind (R.get ?_)
  obtain ⟨g0, hg0⟩ := h.g
  refine R.bind (R.mono (R.rangeF (b := A + B) (fun i => by rw [ha.size i, hb.size i]) (I := fun x c st' => ∃ (out : ι → Array Keyed) (na nb mg : Nat), c = (fun i => (none, na, nb, out i, mg)) ∧ V out (A + B - na - nb) ∧ 1 ≤ na ∧ na < A ∧ 2 ≤ nb ∧ nb ≤ B ∧ x + 1 + na + nb ≤ A + B ∧ Ok st' n p) (Q := fun c st' => ∃ (res : ι → Array Keyed) (r : ι → Nat × Nat × Array Keyed × Nat), c = (fun i => (some (res i), r i)) ∧ V res (A + B) ∧ Ok st' n p) ?_ ?_ (c := fun i => (none, (a i).size - 1, (b i).size, #[x0 i], gallopOf (st i))) ⟨fun i => #[x0 i], A - 1, B, g0, by funext i; rw [hg0 i, ha.size i, hb.size i], hv0.cast (by omega), by omega, by omega, by omega, by omega, by omega, h⟩) ?_)
  · rintro x c st' hx ⟨out, na, nb, mg, rfl, hv, ha1, ha2, hb1, hb2, hpr, hO⟩
    dsimp -zeta only
    refine R.bind (R.mono (R.rangeF (b := A + B) (fun i => by rw [ha.size i, hb.size i]) (I := fun _ c st' => ∃ (out : ι → Array Keyed) (na nb ac bc : Nat), c = (fun i => (none, na, nb, out i, ac, bc)) ∧ V out (A + B - na - nb) ∧ 1 ≤ na ∧ na < A ∧ 2 ≤ nb ∧ nb ≤ B ∧ x + 1 + na + nb ≤ A + B ∧ Ok st' n p) (Q := fun c st' => Ok st' n p ∧ ((∃ (out : ι → Array Keyed) (na nb ac bc : Nat), c = (fun i => (none, na, nb, out i, ac, bc)) ∧ V out (A + B - na - nb) ∧ 1 ≤ na ∧ na < A ∧ 2 ≤ nb ∧ nb ≤ B ∧ x + 1 + na + nb ≤ A + B) ∨ ∃ (res : ι → Array Keyed) (r : ι → Nat × Nat × Array Keyed × Nat × Nat), c = (fun i => (some (res i), r i)) ∧ V res (A + B))) ?_ ?_ (c := fun i => (none, na, nb, out i, 0, 0)) ⟨out, na, nb, 0, 0, rfl, hv, ha1, ha2, hb1, hb2, hpr, hO⟩) ?_)
    · rintro y c st2 hy ⟨out, na, nb, ac, bc, rfl, hv, ha1, ha2, hb1, hb2, hpr, hO2⟩
      dsimp only
      refine R.bind (R.elemV hb (by omega) fun xb hxb => ?_)
      refine R.bind (R.elemV ha (by omega) fun xa hxa => ?_)
      refine R.bind (R.lt hO2.k hxb hxa fun w => ?_)
      cases w with
      | true =>
        simp only [if_true]
        refine R.bind (R.elemV ha (by omega) fun xc hxc => ?_)
        have hv' := hv.push hxc
        refine R.iffs (d := na - 1 = 0) (fun i => by simp) (fun e => ?_) (fun ne => ?_)
        · refine R.pure (.inl ⟨_, fun i => rfl, hO2, .inr ⟨_, _, rfl, ?_⟩⟩)
          refine V.rest2 hv' ha hb ?_ ?_ ?_ <;> omega
        · refine R.iffs (d := ac + 1 ≥ mg) (fun _ => Iff.rfl) (fun hc => ?_) (fun hc => ?_)
          · exact R.pure (.inl ⟨_, fun i => rfl, hO2, .inl ⟨_, na - 1, nb, ac + 1, 0, rfl, hv'.cast (by omega), by omega, by omega, by omega, by omega, by omega⟩⟩)
          · exact R.pure (.inr ⟨_, fun i => rfl, _, na - 1, nb, ac + 1, 0, rfl, hv'.cast (by omega), by omega, by omega, by omega, by omega, by omega, hO2⟩)
      | false =>
        simp only [Bool.false_eq_true, if_false]
        refine R.bind (R.elemV hb (by omega) fun xc hxc => ?_)
        have hv' := hv.push hxc
        refine R.iffs (d := nb - 1 = 1) (fun i => by simp) (fun e => ?_) (fun ne => ?_)
        · refine R.pure (.inl ⟨_, fun i => rfl, hO2, .inr ⟨_, _, rfl, ?_⟩⟩)
          refine V.rest2 hv' hb ha ?_ ?_ ?_ <;> omega
        · refine R.iffs (d := bc + 1 ≥ mg) (fun _ => Iff.rfl) (fun hc => ?_) (fun hc => ?_)
          · exact R.pure (.inl ⟨_, fun i => rfl, hO2, .inl ⟨_, na, nb - 1, 0, bc + 1, rfl, hv'.cast (by omega), by omega, by omega, by omega, by omega, by omega⟩⟩)
          · exact R.pure (.inr ⟨_, fun i => rfl, _, na, nb - 1, 0, bc + 1, rfl, hv'.cast (by omega), by omega, by omega, by omega, by omega, by omega, hO2⟩)
    · rintro c st2 ⟨out, na, nb, ac, bc, rfl, hv, ha1, ha2, hb1, hb2, hpr, hO2⟩
      exact ⟨hO2, .inl ⟨out, na, nb, ac, bc, rfl, hv, ha1, ha2, hb1, hb2, hpr⟩⟩
    rintro c st2 ⟨hO2, ⟨out, na, nb, ac, bc, rfl, hv, ha1, ha2, hb1, hb2, hpr⟩ | ⟨res, r, rfl, hres⟩⟩
    · refine R.bind (R.rule ?_)
      refine R.bind (R.mono (R.rangeF (b := A + B) (fun i => by rw [ha.size i, hb.size i]) (I := fun y c st' => ∃ (out : ι → Array Keyed) (na nb mg ac bc : Nat), c = (fun i => (none, na, nb, out i, mg, ac, bc)) ∧ V out (A + B - na - nb) ∧ 1 ≤ na ∧ na < A ∧ 2 ≤ nb ∧ nb ≤ B ∧ x + 1 + y + na + nb ≤ A + B ∧ Ok st' n p) (Q := fun c st' => Ok st' n p ∧ ((∃ (out : ι → Array Keyed) (na nb mg ac bc : Nat), c = (fun i => (none, na, nb, out i, mg, ac, bc)) ∧ V out (A + B - na - nb) ∧ 1 ≤ na ∧ na < A ∧ 2 ≤ nb ∧ nb ≤ B ∧ x + 2 + na + nb ≤ A + B) ∨ ∃ (res : ι → Array Keyed) (r : ι → Nat × Nat × Array Keyed × Nat × Nat × Nat), c = (fun i => (some (res i), r i)) ∧ V res (A + B))) ?_ ?_ (c := fun i => (none, na, nb, out i, mg + 1, ac, bc)) ⟨out, na, nb, mg + 1, ac, bc, rfl, hv, ha1, ha2, hb1, hb2, by omega, hO2⟩) ?_)
      · rintro y c st3 hy ⟨out, na, nb, mg2, ac, bc, rfl, hv, ha1, ha2, hb1, hb2, hpr2, hO2'⟩
        dsimp only
        rcases Nat.lt_or_ge 1 mg2 with hmg | hmg
        · refine R.iffs (d := True) (fun _ => ⟨fun _ => trivial, fun _ => hmg⟩) (fun _ => ?_) (fun z => absurd trivial z)
          refine R.bind (R.gset (g := mg2 - 1) hO2' fun st4 hO3 => ?_)
          refine R.bind (R.elemV hb (by omega) fun x1 hx1 => ?_)
          refine R.bind (R.gallop hO3.k hx1 ha (by omega) (by omega) fun at1 hat1 => ?_)
          rcases Nat.eq_zero_or_pos (na - at1) with hz1 | hkp
          · refine R.iffs (d := False) (fun _ => ⟨fun z => absurd z (by omega), False.elim⟩) False.elim (fun _ => ?_)
            refine R.bind (R.elemV hb (by omega) fun x2 hx2 => ?_)
            have hv2 := hv.push hx2
            refine R.iffs (d := nb - 1 = 1) (fun i => by simp) (fun e2 => ?_) (fun ne2 => ?_)
            · refine R.pure (.inl ⟨_, fun i => rfl, hO3, .inr ⟨_, _, rfl, ?_⟩⟩)
              refine V.rest2 hv2 hb ha ?_ ?_ ?_ <;> omega
            refine R.bind (R.elemV ha (by omega) fun x3 hx3 => ?_)
            refine R.bind (R.gallop hO3.k hx3 hb (by omega) (by omega) fun at2 hat2 => ?_)
            rcases Nat.eq_zero_or_pos (nb - 1 - at2) with hz2 | hk2p
            · refine R.iffs (d := False) (fun _ => ⟨fun z => absurd z (by omega), False.elim⟩) False.elim (fun _ => ?_)
              refine R.bind (R.elemV ha (by omega) fun x4 hx4 => ?_)
              have hv4 := hv2.push hx4
              refine R.iffs (d := na - 1 = 0) (fun i => by simp) (fun e4 => ?_) (fun ne4 => ?_)
              · refine R.pure (.inl ⟨_, fun i => rfl, hO3, .inr ⟨_, _, rfl, ?_⟩⟩)
                refine V.rest2 hv4 ha hb ?_ ?_ ?_ <;> omega
              · refine R.iffs (d := (decide (na - at1 < 7) && decide (nb - 1 - at2 < 7)) = true) (fun _ => Iff.rfl) (fun hc => ?_) (fun hc => ?_)
                · exact R.pure (.inl ⟨_, fun i => rfl, hO3, .inl ⟨_, na - 1, (nb - 1), _, _, _, rfl, hv4.cast (by omega), by omega, by omega, by omega, by omega, by omega⟩⟩)
                · exact R.pure (.inr ⟨_, fun i => rfl, _, na - 1, (nb - 1), _, _, _, rfl, hv4.cast (by omega), by omega, by omega, by omega, by omega, by omega, hO3⟩)
            · refine R.iffs (d := True) (fun _ => ⟨fun _ => trivial, fun _ => hk2p⟩) (fun _ => ?_) (fun z => absurd trivial z)
              have hv3 := hv2.append ((hb.extract at2 (nb - 1)).reverse)
              refine R.iffs (d := at2 = 1) (fun i => by simp) (fun e3 => ?_) (fun ne3 => ?_)
              · refine R.pure (.inl ⟨_, fun i => rfl, hO3, .inr ⟨_, _, rfl, ?_⟩⟩)
                refine V.rest2 hv3 hb ha ?_ ?_ ?_ <;> omega
              refine R.iffs (d := at2 = 0) (fun i => by simp) (fun e3 => ?_) (fun ne3' => ?_)
              · refine R.pure (.inl ⟨_, fun i => rfl, hO3, .inr ⟨_, _, rfl, ?_⟩⟩)
                refine V.rest2 hv3 ha hb ?_ ?_ ?_ <;> omega
              refine R.bind (R.elemV ha (by omega) fun x4 hx4 => ?_)
              have hv4 := hv3.push hx4
              refine R.iffs (d := na - 1 = 0) (fun i => by simp) (fun e4 => ?_) (fun ne4 => ?_)
              · refine R.pure (.inl ⟨_, fun i => rfl, hO3, .inr ⟨_, _, rfl, ?_⟩⟩)
                refine V.rest2 hv4 ha hb ?_ ?_ ?_ <;> omega
              · refine R.iffs (d := (decide (na - at1 < 7) && decide (nb - 1 - at2 < 7)) = true) (fun _ => Iff.rfl) (fun hc => ?_) (fun hc => ?_)
                · exact R.pure (.inl ⟨_, fun i => rfl, hO3, .inl ⟨_, na - 1, at2, _, _, _, rfl, hv4.cast (by omega), by omega, by omega, by omega, by omega, by omega⟩⟩)
                · exact R.pure (.inr ⟨_, fun i => rfl, _, na - 1, at2, _, _, _, rfl, hv4.cast (by omega), by omega, by omega, by omega, by omega, by omega, hO3⟩)
          · refine R.iffs (d := True) (fun _ => ⟨fun _ => trivial, fun _ => hkp⟩) (fun _ => ?_) (fun z => absurd trivial z)
            have hv1 := hv.append ((ha.extract at1 na).reverse)
            refine R.iffs (d := at1 = 0) (fun i => by simp) (fun e1 => ?_) (fun ne1 => ?_)
            · refine R.pure (.inl ⟨_, fun i => rfl, hO3, .inr ⟨_, _, rfl, ?_⟩⟩)
              refine V.rest2 hv1 ha hb ?_ ?_ ?_ <;> omega
            refine R.bind (R.elemV hb (by omega) fun x2 hx2 => ?_)
            have hv2 := hv1.push hx2
            refine R.iffs (d := nb - 1 = 1) (fun i => by simp) (fun e2 => ?_) (fun ne2 => ?_)
            · refine R.pure (.inl ⟨_, fun i => rfl, hO3, .inr ⟨_, _, rfl, ?_⟩⟩)
              refine V.rest2 hv2 hb ha ?_ ?_ ?_ <;> omega
            refine R.bind (R.elemV ha (by omega) fun x3 hx3 => ?_)
            refine R.bind (R.gallop hO3.k hx3 hb (by omega) (by omega) fun at2 hat2 => ?_)
            rcases Nat.eq_zero_or_pos (nb - 1 - at2) with hz2 | hk2p
            · refine R.iffs (d := False) (fun _ => ⟨fun z => absurd z (by omega), False.elim⟩) False.elim (fun _ => ?_)
              refine R.bind (R.elemV ha (by omega) fun x4 hx4 => ?_)
              have hv4 := hv2.push hx4
              refine R.iffs (d := at1 - 1 = 0) (fun i => by simp) (fun e4 => ?_) (fun ne4 => ?_)
              · refine R.pure (.inl ⟨_, fun i => rfl, hO3, .inr ⟨_, _, rfl, ?_⟩⟩)
                refine V.rest2 hv4 ha hb ?_ ?_ ?_ <;> omega
              · refine R.iffs (d := (decide (na - at1 < 7) && decide (nb - 1 - at2 < 7)) = true) (fun _ => Iff.rfl) (fun hc => ?_) (fun hc => ?_)
                · exact R.pure (.inl ⟨_, fun i => rfl, hO3, .inl ⟨_, at1 - 1, (nb - 1), _, _, _, rfl, hv4.cast (by omega), by omega, by omega, by omega, by omega, by omega⟩⟩)
                · exact R.pure (.inr ⟨_, fun i => rfl, _, at1 - 1, (nb - 1), _, _, _, rfl, hv4.cast (by omega), by omega, by omega, by omega, by omega, by omega, hO3⟩)
            · refine R.iffs (d := True) (fun _ => ⟨fun _ => trivial, fun _ => hk2p⟩) (fun _ => ?_) (fun z => absurd trivial z)
              have hv3 := hv2.append ((hb.extract at2 (nb - 1)).reverse)
              refine R.iffs (d := at2 = 1) (fun i => by simp) (fun e3 => ?_) (fun ne3 => ?_)
              · refine R.pure (.inl ⟨_, fun i => rfl, hO3, .inr ⟨_, _, rfl, ?_⟩⟩)
                refine V.rest2 hv3 hb ha ?_ ?_ ?_ <;> omega
              refine R.iffs (d := at2 = 0) (fun i => by simp) (fun e3 => ?_) (fun ne3' => ?_)
              · refine R.pure (.inl ⟨_, fun i => rfl, hO3, .inr ⟨_, _, rfl, ?_⟩⟩)
                refine V.rest2 hv3 ha hb ?_ ?_ ?_ <;> omega
              refine R.bind (R.elemV ha (by omega) fun x4 hx4 => ?_)
              have hv4 := hv3.push hx4
              refine R.iffs (d := at1 - 1 = 0) (fun i => by simp) (fun e4 => ?_) (fun ne4 => ?_)
              · refine R.pure (.inl ⟨_, fun i => rfl, hO3, .inr ⟨_, _, rfl, ?_⟩⟩)
                refine V.rest2 hv4 ha hb ?_ ?_ ?_ <;> omega
              · refine R.iffs (d := (decide (na - at1 < 7) && decide (nb - 1 - at2 < 7)) = true) (fun _ => Iff.rfl) (fun hc => ?_) (fun hc => ?_)
                · exact R.pure (.inl ⟨_, fun i => rfl, hO3, .inl ⟨_, at1 - 1, at2, _, _, _, rfl, hv4.cast (by omega), by omega, by omega, by omega, by omega, by omega⟩⟩)
                · exact R.pure (.inr ⟨_, fun i => rfl, _, at1 - 1, at2, _, _, _, rfl, hv4.cast (by omega), by omega, by omega, by omega, by omega, by omega, hO3⟩)
        · refine R.iffs (d := False) (fun _ => ⟨fun z => absurd z (Nat.not_lt.mpr hmg), False.elim⟩) False.elim (fun _ => ?_)
          refine R.bind (R.gset (g := mg2) hO2' fun st4 hO3 => ?_)
          refine R.bind (R.elemV hb (by omega) fun x1 hx1 => ?_)
          refine R.bind (R.gallop hO3.k hx1 ha (by omega) (by omega) fun at1 hat1 => ?_)
          rcases Nat.eq_zero_or_pos (na - at1) with hz1 | hkp
          · refine R.iffs (d := False) (fun _ => ⟨fun z => absurd z (by omega), False.elim⟩) False.elim (fun _ => ?_)
            refine R.bind (R.elemV hb (by omega) fun x2 hx2 => ?_)
            have hv2 := hv.push hx2
            refine R.iffs (d := nb - 1 = 1) (fun i => by simp) (fun e2 => ?_) (fun ne2 => ?_)
            · refine R.pure (.inl ⟨_, fun i => rfl, hO3, .inr ⟨_, _, rfl, ?_⟩⟩)
              refine V.rest2 hv2 hb ha ?_ ?_ ?_ <;> omega
            refine R.bind (R.elemV ha (by omega) fun x3 hx3 => ?_)
            refine R.bind (R.gallop hO3.k hx3 hb (by omega) (by omega) fun at2 hat2 => ?_)
            rcases Nat.eq_zero_or_pos (nb - 1 - at2) with hz2 | hk2p
            · refine R.iffs (d := False) (fun _ => ⟨fun z => absurd z (by omega), False.elim⟩) False.elim (fun _ => ?_)
              refine R.bind (R.elemV ha (by omega) fun x4 hx4 => ?_)
              have hv4 := hv2.push hx4
              refine R.iffs (d := na - 1 = 0) (fun i => by simp) (fun e4 => ?_) (fun ne4 => ?_)
              · refine R.pure (.inl ⟨_, fun i => rfl, hO3, .inr ⟨_, _, rfl, ?_⟩⟩)
                refine V.rest2 hv4 ha hb ?_ ?_ ?_ <;> omega
              · refine R.iffs (d := (decide (na - at1 < 7) && decide (nb - 1 - at2 < 7)) = true) (fun _ => Iff.rfl) (fun hc => ?_) (fun hc => ?_)
                · exact R.pure (.inl ⟨_, fun i => rfl, hO3, .inl ⟨_, na - 1, (nb - 1), _, _, _, rfl, hv4.cast (by omega), by omega, by omega, by omega, by omega, by omega⟩⟩)
                · exact R.pure (.inr ⟨_, fun i => rfl, _, na - 1, (nb - 1), _, _, _, rfl, hv4.cast (by omega), by omega, by omega, by omega, by omega, by omega, hO3⟩)
            · refine R.iffs (d := True) (fun _ => ⟨fun _ => trivial, fun _ => hk2p⟩) (fun _ => ?_) (fun z => absurd trivial z)
              have hv3 := hv2.append ((hb.extract at2 (nb - 1)).reverse)
              refine R.iffs (d := at2 = 1) (fun i => by simp) (fun e3 => ?_) (fun ne3 => ?_)
              · refine R.pure (.inl ⟨_, fun i => rfl, hO3, .inr ⟨_, _, rfl, ?_⟩⟩)
                refine V.rest2 hv3 hb ha ?_ ?_ ?_ <;> omega
              refine R.iffs (d := at2 = 0) (fun i => by simp) (fun e3 => ?_) (fun ne3' => ?_)
              · refine R.pure (.inl ⟨_, fun i => rfl, hO3, .inr ⟨_, _, rfl, ?_⟩⟩)
                refine V.rest2 hv3 ha hb ?_ ?_ ?_ <;> omega
              refine R.bind (R.elemV ha (by omega) fun x4 hx4 => ?_)
              have hv4 := hv3.push hx4
              refine R.iffs (d := na - 1 = 0) (fun i => by simp) (fun e4 => ?_) (fun ne4 => ?_)
              · refine R.pure (.inl ⟨_, fun i => rfl, hO3, .inr ⟨_, _, rfl, ?_⟩⟩)
                refine V.rest2 hv4 ha hb ?_ ?_ ?_ <;> omega
              · refine R.iffs (d := (decide (na - at1 < 7) && decide (nb - 1 - at2 < 7)) = true) (fun _ => Iff.rfl) (fun hc => ?_) (fun hc => ?_)
                · exact R.pure (.inl ⟨_, fun i => rfl, hO3, .inl ⟨_, na - 1, at2, _, _, _, rfl, hv4.cast (by omega), by omega, by omega, by omega, by omega, by omega⟩⟩)
                · exact R.pure (.inr ⟨_, fun i => rfl, _, na - 1, at2, _, _, _, rfl, hv4.cast (by omega), by omega, by omega, by omega, by omega, by omega, hO3⟩)
          · refine R.iffs (d := True) (fun _ => ⟨fun _ => trivial, fun _ => hkp⟩) (fun _ => ?_) (fun z => absurd trivial z)
            have hv1 := hv.append ((ha.extract at1 na).reverse)
            refine R.iffs (d := at1 = 0) (fun i => by simp) (fun e1 => ?_) (fun ne1 => ?_)
            · refine R.pure (.inl ⟨_, fun i => rfl, hO3, .inr ⟨_, _, rfl, ?_⟩⟩)
              refine V.rest2 hv1 ha hb ?_ ?_ ?_ <;> omega
            refine R.bind (R.elemV hb (by omega) fun x2 hx2 => ?_)
            have hv2 := hv1.push hx2
            refine R.iffs (d := nb - 1 = 1) (fun i => by simp) (fun e2 => ?_) (fun ne2 => ?_)
            · refine R.pure (.inl ⟨_, fun i => rfl, hO3, .inr ⟨_, _, rfl, ?_⟩⟩)
              refine V.rest2 hv2 hb ha ?_ ?_ ?_ <;> omega
            refine R.bind (R.elemV ha (by omega) fun x3 hx3 => ?_)
            refine R.bind (R.gallop hO3.k hx3 hb (by omega) (by omega) fun at2 hat2 => ?_)
            rcases Nat.eq_zero_or_pos (nb - 1 - at2) with hz2 | hk2p
            · refine R.iffs (d := False) (fun _ => ⟨fun z => absurd z (by omega), False.elim⟩) False.elim (fun _ => ?_)
              refine R.bind (R.elemV ha (by omega) fun x4 hx4 => ?_)
              have hv4 := hv2.push hx4
              refine R.iffs (d := at1 - 1 = 0) (fun i => by simp) (fun e4 => ?_) (fun ne4 => ?_)
              · refine R.pure (.inl ⟨_, fun i => rfl, hO3, .inr ⟨_, _, rfl, ?_⟩⟩)
                refine V.rest2 hv4 ha hb ?_ ?_ ?_ <;> omega
              · refine R.iffs (d := (decide (na - at1 < 7) && decide (nb - 1 - at2 < 7)) = true) (fun _ => Iff.rfl) (fun hc => ?_) (fun hc => ?_)
                · exact R.pure (.inl ⟨_, fun i => rfl, hO3, .inl ⟨_, at1 - 1, (nb - 1), _, _, _, rfl, hv4.cast (by omega), by omega, by omega, by omega, by omega, by omega⟩⟩)
                · exact R.pure (.inr ⟨_, fun i => rfl, _, at1 - 1, (nb - 1), _, _, _, rfl, hv4.cast (by omega), by omega, by omega, by omega, by omega, by omega, hO3⟩)
            · refine R.iffs (d := True) (fun _ => ⟨fun _ => trivial, fun _ => hk2p⟩) (fun _ => ?_) (fun z => absurd trivial z)
              have hv3 := hv2.append ((hb.extract at2 (nb - 1)).reverse)
              refine R.iffs (d := at2 = 1) (fun i => by simp) (fun e3 => ?_) (fun ne3 => ?_)
              · refine R.pure (.inl ⟨_, fun i => rfl, hO3, .inr ⟨_, _, rfl, ?_⟩⟩)
                refine V.rest2 hv3 hb ha ?_ ?_ ?_ <;> omega
              refine R.iffs (d := at2 = 0) (fun i => by simp) (fun e3 => ?_) (fun ne3' => ?_)
              · refine R.pure (.inl ⟨_, fun i => rfl, hO3, .inr ⟨_, _, rfl, ?_⟩⟩)
                refine V.rest2 hv3 ha hb ?_ ?_ ?_ <;> omega
              refine R.bind (R.elemV ha (by omega) fun x4 hx4 => ?_)
              have hv4 := hv3.push hx4
              refine R.iffs (d := at1 - 1 = 0) (fun i => by simp) (fun e4 => ?_) (fun ne4 => ?_)
              · refine R.pure (.inl ⟨_, fun i => rfl, hO3, .inr ⟨_, _, rfl, ?_⟩⟩)
                refine V.rest2 hv4 ha hb ?_ ?_ ?_ <;> omega
              · refine R.iffs (d := (decide (na - at1 < 7) && decide (nb - 1 - at2 < 7)) = true) (fun _ => Iff.rfl) (fun hc => ?_) (fun hc => ?_)
                · exact R.pure (.inl ⟨_, fun i => rfl, hO3, .inl ⟨_, at1 - 1, at2, _, _, _, rfl, hv4.cast (by omega), by omega, by omega, by omega, by omega, by omega⟩⟩)
                · exact R.pure (.inr ⟨_, fun i => rfl, _, at1 - 1, at2, _, _, _, rfl, hv4.cast (by omega), by omega, by omega, by omega, by omega, by omega, hO3⟩)
      · rintro c st3 ⟨out, na, nb, mg2, ac, bc, rfl, hv, ha1, ha2, hb1, hb2, hpr2, hO2'⟩
        exact ⟨hO2', .inl ⟨out, na, nb, mg2, ac, bc, rfl, hv, ha1, ha2, hb1, hb2, by omega⟩⟩
      rintro c st3 ⟨hO3, ⟨out, na, nb, mg2, ac, bc, rfl, hv, ha1, ha2, hb1, hb2, hpr2⟩ | ⟨res, r, rfl, hres⟩⟩
      · refine R.bind (R.gset (g := mg2 + 1) hO3 fun st4 hO4 => ?_)
        exact R.pure (.inr ⟨_, fun i => rfl, out, na, nb, mg2 + 1, rfl, hv, ha1, ha2, hb1, hb2, by omega, hO4⟩)
      · exact R.pure (.inl ⟨_, fun i => rfl, res, _, rfl, hres, hO3⟩)
    · exact R.pure (.inl ⟨_, fun i => rfl, res, _, rfl, hres, hO2⟩)
  · rintro c st' ⟨out, na, nb, mg, rfl, hv, ha1, ha2, hb1, hb2, hpr, hO⟩
    omega
  rintro c st' ⟨res, r, rfl, hres, hO⟩
  exact R.pure (q res st' hres hO)
end SD

set_option Elab.async false
set_option linter.all false
set_option maxRecDepth 100000
set_option maxHeartbeats 4000000
/-! The model's sort of ints: runs merged, all of it. Own work. -/
namespace SD
open PySem PyProof.Rows
variable {ι : Type} {α β : Type}
/-- laid back over what was there -/
theorem V.back {n : Nat} (off : Nat) : ∀ (zs : List Int) (m : ι → List Keyed) (k : Nat) {f : ι → Array Keyed}, (∀ i, (m i).length = zs.length ∧ ∀ (j : Nat) (z : Int), zs[j]? = some z → ∃ t, (m i)[j]? = some (.int z t, .int z t)) → V f n → V (fun i => ((m i).zipIdx k).foldl (fun a (pj : Keyed × Nat) => a.setIfInBounds (off + pj.2) pj.1) (f i)) n
  | [], m, k, f, hm, hf => by
    have e : (fun i => ((m i).zipIdx k).foldl (fun a (pj : Keyed × Nat) => a.setIfInBounds (off + pj.2) pj.1) (f i)) = f := funext fun i => by
      rw [List.length_eq_zero_iff.mp (hm i).1]; rfl
    rw [e]; exact hf
  | z :: zs, m, k, f, hm, hf => by
    have hx : ∀ i, ∃ x r, m i = x :: r ∧ ∃ t, x = (Value.int z t, Value.int z t) := fun i => by
      obtain ⟨t, ht⟩ := (hm i).2 0 z rfl
      cases e : m i with
      | nil => rw [e] at ht; exact nomatch ht
      | cons x r => rw [e] at ht; exact ⟨x, r, rfl, t, by simpa using ht⟩
    have e : (fun i => ((m i).zipIdx k).foldl (fun a (pj : Keyed × Nat) => a.setIfInBounds (off + pj.2) pj.1) (f i)) = fun i => (((m i).tail).zipIdx (k + 1)).foldl (fun a (pj : Keyed × Nat) => a.setIfInBounds (off + pj.2) pj.1) ((f i).setIfInBounds (off + k) (Classical.choose (hx i))) := funext fun i => by
      have key : ∀ (l : List Keyed) (x : Keyed) (r : List Keyed), l = x :: r → (l.zipIdx k).foldl (fun a (pj : Keyed × Nat) => a.setIfInBounds (off + pj.2) pj.1) (f i) = ((l.tail).zipIdx (k + 1)).foldl (fun a (pj : Keyed × Nat) => a.setIfInBounds (off + pj.2) pj.1) ((f i).setIfInBounds (off + k) x) := by
        rintro _ x r rfl; rfl
      obtain ⟨r, er, _⟩ := Classical.choose_spec (hx i)
      exact key _ _ r er
    rw [e]
    refine V.back off zs (fun i => (m i).tail) (k + 1) (fun i => ?_) (hf.setAt (x := fun i => Classical.choose (hx i)) ⟨z, fun i => ?_⟩ (off + k))
    · obtain ⟨h1, h2⟩ := hm i
      refine ⟨by rw [List.length_tail, h1]; rfl, fun j w ew => ?_⟩
      obtain ⟨t, ht⟩ := h2 (j + 1) w (by simpa using ew)
      exact ⟨t, by rw [List.getElem?_tail]; exact ht⟩
    · obtain ⟨r, er, t, ht⟩ := Classical.choose_spec (hx i)
      exact ⟨t, ht⟩
theorem V.backA {n : Nat} {f m : ι → Array Keyed} {k : Nat} (off : Nat) (hf : V f n) (hm : V m k) : V (fun i => ((m i).toList.zipIdx).foldl (fun a (pj : Keyed × Nat) => a.setIfInBounds (off + pj.2) pj.1) (f i)) n := by
  obtain ⟨zs, e, h⟩ := hm
  refine V.back off zs (fun i => (m i).toList) 0 (fun i => ⟨by rw [Array.length_toList, (h i).1], fun j z ez => ?_⟩) hf
  obtain ⟨t, ht⟩ := (h i).2 j z ez
  exact ⟨t, by rw [Array.getElem?_toList]; exact ht⟩
theorem R.set {s' : ι → SortSt} {st : ι → SortSt} {P : (ι → PUnit) → (ι → SortSt) → Prop} (h : P (fun _ => ⟨⟩) s') : R (fun i => MonadStateOf.set (s' i)) st P := ⟨fun _ => ⟨⟩, s', h, fun i prog w A E s Q q => by show wpS _ _ _ _ (MonadStateOf.set (s' i) : StateT SortSt Sem PUnit) _ _; unfold wpS; exact wpAny_pure ⟨rfl, q⟩⟩
theorem Ok.canon {st : ι → SortSt} {n : Nat} {p : Array (Nat × Nat × Nat)} (h : Ok st n p) : ∃ (arr : ι → Array Keyed) (g : Nat), V arr n ∧ st = fun i => SortSt.mk' oneType' (arr i) p g none := by
  obtain ⟨g, hg⟩ := h.g
  refine ⟨fun i => arrOf (st i), g, h.v, funext fun i => ?_⟩
  show st i = SortSt.mk' oneType' (arrOf (st i)) p g none
  have h1 := h.k i
  have h2 := h.p i
  have h3 := hg i
  have h4 := h.f i
  generalize st i = s at h1 h2 h3 h4 ⊢
  cases s
  cases h1; cases h2; cases h3; cases h4
  rfl
theorem R.mergeAt {st : ι → SortSt} {n i sa na pw sb nb pw2 : Nat} {p : Array (Nat × Nat × Nat)} {P : (ι → Bool) → (ι → SortSt) → Prop} (h : Ok st n p) (e1 : p[i]? = some (sa, na, pw)) (e2 : p[i + 1]? = some (sb, nb, pw2)) (hs : sb = sa + na) (h1 : 1 ≤ na) (h2 : 1 ≤ nb) (hn : sb + nb ≤ n)
    (q : ∀ st', Ok st' n ((p.setIfInBounds i (sa, na + nb, pw)).eraseIdxIfInBounds (i + 1)) → P (fun _ => true) st') : R (fun _ => mergeAt' i) st P := by
  obtain ⟨arr, g, hv, rfl⟩ := h.canon
  refine R.bind (R.get ?_)
  dsimp only
  simp only [e1, e2]
  have hO : Ok (fun j : ι => SortSt.mk' oneType' (arr j) ((p.setIfInBounds i (sa, na + nb, pw)).eraseIdxIfInBounds (i + 1)) g none) n ((p.setIfInBounds i (sa, na + nb, pw)).eraseIdxIfInBounds (i + 1)) := ⟨fun _ => rfl, hv, fun _ => rfl, ⟨g, fun _ => rfl⟩, fun _ => rfl⟩
  refine R.bind (R.set ?_)
  refine R.bind (R.elemV hv (by omega) fun x hx => ?_)
  refine R.bind (R.gallop hO.k hx hv (by omega) (by omega) fun k hk => ?_)
  dsimp only
  refine R.iffs (d := na - k = 0) (fun _ => by simp) (fun _ => R.pure (q _ hO)) (fun hk0 => ?_)
  refine R.bind (R.elemV hv (by omega) fun x2 hx2 => ?_)
  refine R.bind (R.gallop hO.k hx2 hv (by omega) (by omega) fun m hm => ?_)
  dsimp only
  refine R.iffs (d := m = 0) (fun _ => by simp) (fun _ => R.pure (q _ hO)) (fun hm0 => ?_)
  have vx := (hv.extract (sa + k) sb).cast (m := na - k) (by omega)
  have vy := (hv.extract sb (sb + m)).cast (m := m) (by omega)
  refine R.iff (fun _ => ?_) (fun _ => ?_)
  · refine R.bind (R.lo hO vx vy (by omega) (by omega) fun out st2 ho h2 => ?_)
    refine R.bind (R.modify ?_)
    refine R.bind (R.get ?_)
    refine R.pure ?_
    obtain ⟨arr2, g2, hv2, rfl⟩ := h2.canon
    exact q _ ⟨fun _ => rfl, hv2.backA (sa + k) ho, fun _ => rfl, ⟨g2, fun _ => rfl⟩, fun _ => rfl⟩
  · refine R.bind (R.hi hO vx vy (by omega) (by omega) fun out st2 ho h2 => ?_)
    refine R.bind (R.modify ?_)
    refine R.bind (R.get ?_)
    refine R.pure ?_
    obtain ⟨arr2, g2, hv2, rfl⟩ := h2.canon
    exact q _ ⟨fun _ => rfl, hv2.backA (sa + k) ho, fun _ => rfl, ⟨g2, fun _ => rfl⟩, fun _ => rfl⟩
end SD

set_option Elab.async false
set_option linter.all false
set_option maxRecDepth 100000
set_option maxHeartbeats 4000000
/-! The model's sort of ints: all of it. Own work. -/
namespace SD
open PySem PyProof.Rows
variable {ι : Type} {α β : Type}
/-- runs that lie one behind the other -/
def Run : List (Nat × Nat × Nat) → Nat → Nat → Prop
  | [], a, b => a = b
  | (s, l, _) :: r, a, b => s = a ∧ 1 ≤ l ∧ Run r (s + l) b
theorem Run.le : ∀ {l : List (Nat × Nat × Nat)} {a b : Nat}, Run l a b → a ≤ b
  | [], a, b, h => Nat.le_of_eq h
  | (s, l, w) :: r, a, b, h => by
    obtain ⟨h1, h2, h3⟩ := h
    have := Run.le h3
    omega
theorem Run.snoc {L w : Nat} (hL : 1 ≤ L) : ∀ {l : List (Nat × Nat × Nat)} {a b : Nat}, Run l a b → Run (l ++ [(b, L, w)]) a (b + L)
  | [], a, b, h => by cases h; exact ⟨rfl, hL, rfl⟩
  | (s, l, w') :: r, a, b, h => ⟨h.1, h.2.1, Run.snoc hL h.2.2⟩
theorem Run.two : ∀ {l : List (Nat × Nat × Nat)} {a b i : Nat}, Run l a b → i + 1 < l.length → ∃ s n w s2 n2 w2, l[i]? = some (s, n, w) ∧ l[i + 1]? = some (s2, n2, w2) ∧ s2 = s + n ∧ 1 ≤ n ∧ 1 ≤ n2 ∧ s2 + n2 ≤ b ∧ Run ((l.set i (s, n + n2, w)).eraseIdx (i + 1)) a b
  | [], a, b, i, h, hi => by simp at hi
  | [x], a, b, i, h, hi => by simp at hi
  | (s, n, w) :: (s2, n2, w2) :: r, a, b, 0, h, hi => by
    obtain ⟨rfl, h1, rfl, h2, h3⟩ := h
    have := Run.le h3
    exact ⟨s, n, w, _, n2, w2, rfl, rfl, rfl, h1, h2, this, rfl, by omega, by rw [show s + (n + n2) = s + n + n2 by omega]; exact h3⟩
  | (s, n, w) :: x :: r, a, b, i + 1, h, hi => by
    obtain ⟨rfl, h1, h2⟩ := h
    obtain ⟨s', n', w', s2, n2, w2, e1, e2, e3, g1, g2, g3, g4⟩ := Run.two (i := i) h2 (by simpa using hi)
    refine ⟨s', n', w', s2, n2, w2, by simpa using e1, by simpa using e2, e3, g1, g2, g3, ?_⟩
    rw [List.set_cons_succ, List.eraseIdx_cons_succ]
    exact ⟨rfl, h1, g4⟩
theorem Run.mod {f : Nat × Nat × Nat → Nat × Nat × Nat} (hf : ∀ x, (f x).1 = x.1 ∧ (f x).2.1 = x.2.1) : ∀ {l : List (Nat × Nat × Nat)} {a b : Nat} (i : Nat), Run l a b → Run (l.modify i f) a b
  | [], a, b, i, h => by simpa using h
  | x :: r, a, b, 0, h => by
    obtain ⟨s, l, w⟩ := x
    rw [List.modify_zero_cons]
    obtain ⟨e1, e2⟩ := hf (s, l, w)
    generalize f (s, l, w) = y at e1 e2
    obtain ⟨s', l', w'⟩ := y
    cases e1; cases e2
    exact h
  | x :: r, a, b, i + 1, h => by
    obtain ⟨s, l, w⟩ := x
    rw [List.modify_succ_cons]
    exact ⟨h.1, h.2.1, Run.mod hf i h.2.2⟩
theorem R.merge {st : ι → SortSt} {n j b : Nat} {p : Array (Nat × Nat × Nat)} {P : (ι → Bool) → (ι → SortSt) → Prop} (h : Ok st n p) (hR : Run p.toList 0 b) (hb : b ≤ n) (hj : j + 1 < p.size) (q : ∀ st' p', Run p'.toList 0 b → Ok st' n p' → P (fun _ => true) st') : R (fun _ => mergeAt' j) st P := by
  obtain ⟨s, m, w, s2, m2, w2, e1, e2, e3, g1, g2, g3, g4⟩ := hR.two (i := j) (by rw [Array.length_toList]; exact hj)
  rw [Array.getElem?_toList] at e1 e2
  refine R.mergeAt h e1 e2 e3 g1 g2 (by omega) fun st' h' => q st' _ ?_ h'
  rw [Array.toList_eraseIdxIfInBounds, Array.toList_setIfInBounds]
  exact g4
theorem R.mergeF {st : ι → SortSt} {n j b : Nat} {J : ι → Nat} {p : Array (Nat × Nat × Nat)} {P : (ι → Bool) → (ι → SortSt) → Prop} (hJ : ∀ i, J i = j) (h : Ok st n p) (hR : Run p.toList 0 b) (hb : b ≤ n) (hj : j + 1 < p.size) (q : ∀ st' p', Run p'.toList 0 b → Ok st' n p' → P (fun _ => true) st') : R (fun i => mergeAt' (J i)) st P := by
  have e : (fun i => mergeAt' (J i)) = fun _ => mergeAt' j := funext fun i => by rw [hJ i]
  rw [e]
  exact R.merge h hR hb hj q
/-- the one of the last three that is merged with the next -/
def mid (p : Array (Nat × Nat × Nat)) : Nat :=
  if (if p.size - 2 > 0 then p[p.size - 2 - 1]?.map (·.2.1) else none).any (fun x => decide (x < (p[p.size - 2 + 1]?.elim 0 (·.2.1)))) = true then p.size - 2 - 1 else p.size - 2
theorem mid_lt {p : Array (Nat × Nat × Nat)} (h : ¬ p.size ≤ 1) : mid p + 1 < p.size := by
  have key : ∀ (c : Bool) (x y z : Nat), x + 1 < z → y + 1 < z → (if c = true then x else y) + 1 < z := fun c x y z h1 h2 => by cases c <;> simp <;> omega
  exact key _ _ _ _ (by omega) (by omega)
theorem R.runs {st : ι → SortSt} {n : Nat} {P : (ι → Unit) → (ι → SortSt) → Prop} (h : Ok st n #[]) (q : ∀ st' p, Ok st' n p → P (fun _ => ()) st') : R (fun _ => sortRuns') st P := by
  have hs : ∀ i, (arrOf (st i)).size = n := fun i => h.v.size i
  refine R.bind (R.get ?_)
  simp only [hs]
  refine R.bind (R.mono (R.rangeF (b := n) (fun _ => rfl) (I := fun x c st' => ∃ (lo : Nat) (p : Array (Nat × Nat × Nat)), c = (fun _ => (none, lo)) ∧ lo ≤ n ∧ Run p.toList 0 lo ∧ Ok st' n p) (Q := fun c st' => ∃ (lo : Nat) (p : Array (Nat × Nat × Nat)), c = (fun _ => (none, lo)) ∧ lo ≤ n ∧ Run p.toList 0 lo ∧ Ok st' n p) ?_ (fun c st' h => h) (c := fun _ => (none, 0)) ⟨0, #[], rfl, Nat.zero_le _, rfl, h⟩) ?_)
  · rintro x c st1 hx ⟨lo, p, rfl, hlo, hR, hO⟩
    dsimp only
    refine R.iff (fun hc => ?_) (fun hc => ?_)
    · exact R.pure (.inl ⟨fun _ => (none, lo), fun _ => rfl, lo, p, rfl, hlo, hR, hO⟩)
    refine R.bind (R.count hO (by omega) (by omega) fun m st2 hm1 hm2 hO2 => ?_)
    dsimp only
    refine R.iff (fun hmr => ?_) (fun hmr => ?_)
    · refine R.bind (R.rule ?_)
      refine R.bind (R.binary hO2 (by omega) fun st3 hO3 => ?_)
      simp only [Bool.not_true, Bool.false_eq_true, if_false]
      have hmr' : m < minRun' n n 0 := hmr
      have hLb : 1 ≤ min (n - lo) (minRun' n n 0) ∧ lo + min (n - lo) (minRun' n n 0) ≤ n := by omega
      obtain ⟨arr, g, hv, rfl⟩ := hO3.canon
      refine R.bind (R.get ?_)
      dsimp only
      cases hb : p.back? with
      | none =>
        dsimp only
        refine R.bind (R.modify ?_)
        refine R.pure (.inr ⟨_, fun _ => rfl, lo + min (n - lo) (minRun' n n 0), p.push (lo, min (n - lo) (minRun' n n 0), 0), rfl, by omega, ?_, ⟨fun _ => rfl, hv, fun _ => rfl, ⟨g, fun _ => rfl⟩, fun _ => rfl⟩⟩)
        rw [Array.toList_push]
        exact hR.snoc (by omega)
      | some r =>
        obtain ⟨s1, n1, w1⟩ := r
        dsimp only
        refine R.bind (R.mono (R.rangeF (b := n) (fun _ => rfl) (I := fun _ c st' => c = (fun _ => (none, ())) ∧ ∃ p, Run p.toList 0 lo ∧ Ok st' n p) (Q := fun c st' => c = (fun _ => (none, ())) ∧ ∃ p, Run p.toList 0 lo ∧ Ok st' n p) ?_ (fun c st' h => h) (c := fun _ => (none, ())) ⟨rfl, p, hR, hO3⟩) ?_)
        · rintro y c st3 hy ⟨rfl, p3, hR3, hO3⟩
          obtain ⟨arr3, g3, hv3, rfl⟩ := hO3.canon
          refine R.bind (R.get ?_)
          dsimp only
          by_cases h1 : p3.size > 1
          · obtain ⟨s0, m0, w0, _, _, _, e0, _⟩ := hR3.two (i := p3.size - 2) (by rw [Array.length_toList]; omega)
            rw [Array.getElem?_toList] at e0
            simp only [if_pos h1, e0]
            refine R.iff (fun _ => ?_) (fun _ => ?_)
            · exact R.pure (.inl ⟨_, fun _ => rfl, rfl, p3, hR3, hO3⟩)
            · refine R.bind (R.merge hO3 hR3 hlo (by omega) fun st4 p4 hR4 hO4 => ?_)
              exact R.pure (.inr ⟨_, fun _ => rfl, rfl, p4, hR4, hO4⟩)
          · simp only [if_neg h1]
            exact R.pure (.inl ⟨_, fun _ => rfl, rfl, p3, hR3, hO3⟩)
        rintro c st4 ⟨rfl, p4, hR4, hO4⟩
        obtain ⟨arr4, g4, hv4, rfl⟩ := hO4.canon
        dsimp only
        refine R.bind (R.modify ?_)
        refine R.bind (R.modify ?_)
        refine R.pure (.inr ⟨_, fun _ => rfl, lo + min (n - lo) (minRun' n n 0), (p4.modify (p4.size - 1) fun x => (x.1, x.2.1, power' n (2 * s1 + n1) (2 * s1 + n1 + n1 + min (n - lo) (minRun' n n 0)) n)).push (lo, min (n - lo) (minRun' n n 0), 0), rfl, by omega, ?_, ⟨fun _ => rfl, hv4, fun _ => rfl, ⟨g4, fun _ => rfl⟩, fun _ => rfl⟩⟩)
        rw [Array.toList_push, Array.toList_modify]
        refine Run.snoc (by omega) (Run.mod ?_ _ hR4)
        exact fun _ => ⟨rfl, rfl⟩
    · obtain ⟨arr, g, hv, rfl⟩ := hO2.canon
      refine R.bind (R.get ?_)
      dsimp only
      cases hb : p.back? with
      | none =>
        dsimp only
        refine R.bind (R.modify ?_)
        refine R.pure (.inr ⟨_, fun _ => rfl, lo + m, p.push (lo, m, 0), rfl, by omega, ?_, ⟨fun _ => rfl, hv, fun _ => rfl, ⟨g, fun _ => rfl⟩, fun _ => rfl⟩⟩)
        rw [Array.toList_push]
        exact hR.snoc (by omega)
      | some r =>
        obtain ⟨s1, n1, w1⟩ := r
        dsimp only
        refine R.bind (R.mono (R.rangeF (b := n) (fun _ => rfl) (I := fun _ c st' => c = (fun _ => (none, ())) ∧ ∃ p, Run p.toList 0 lo ∧ Ok st' n p) (Q := fun c st' => c = (fun _ => (none, ())) ∧ ∃ p, Run p.toList 0 lo ∧ Ok st' n p) ?_ (fun c st' h => h) (c := fun _ => (none, ())) ⟨rfl, p, hR, hO2⟩) ?_)
        · rintro y c st3 hy ⟨rfl, p3, hR3, hO3⟩
          obtain ⟨arr3, g3, hv3, rfl⟩ := hO3.canon
          refine R.bind (R.get ?_)
          dsimp only
          by_cases h1 : p3.size > 1
          · obtain ⟨s0, m0, w0, _, _, _, e0, _⟩ := hR3.two (i := p3.size - 2) (by rw [Array.length_toList]; omega)
            rw [Array.getElem?_toList] at e0
            simp only [if_pos h1, e0]
            refine R.iff (fun _ => ?_) (fun _ => ?_)
            · exact R.pure (.inl ⟨_, fun _ => rfl, rfl, p3, hR3, hO3⟩)
            · refine R.bind (R.merge hO3 hR3 hlo (by omega) fun st4 p4 hR4 hO4 => ?_)
              exact R.pure (.inr ⟨_, fun _ => rfl, rfl, p4, hR4, hO4⟩)
          · simp only [if_neg h1]
            exact R.pure (.inl ⟨_, fun _ => rfl, rfl, p3, hR3, hO3⟩)
        rintro c st4 ⟨rfl, p4, hR4, hO4⟩
        obtain ⟨arr4, g4, hv4, rfl⟩ := hO4.canon
        dsimp only
        refine R.bind (R.modify ?_)
        refine R.bind (R.modify ?_)
        refine R.pure (.inr ⟨_, fun _ => rfl, lo + m, (p4.modify (p4.size - 1) fun x => (x.1, x.2.1, power' n (2 * s1 + n1) (2 * s1 + n1 + n1 + m) n)).push (lo, m, 0), rfl, by omega, ?_, ⟨fun _ => rfl, hv4, fun _ => rfl, ⟨g4, fun _ => rfl⟩, fun _ => rfl⟩⟩)
        rw [Array.toList_push, Array.toList_modify]
        refine Run.snoc (by omega) (Run.mod ?_ _ hR4)
        exact fun _ => ⟨rfl, rfl⟩
  rintro c st1 ⟨lo, p, rfl, hlo, hR, hO⟩
  dsimp only
  refine R.bind (R.mono (R.rangeF (b := n) (fun _ => rfl) (I := fun _ c st' => c = (fun _ => (none, ())) ∧ ∃ p, Run p.toList 0 lo ∧ Ok st' n p) (Q := fun c st' => c = (fun _ => (none, ())) ∧ ∃ p, Run p.toList 0 lo ∧ Ok st' n p) ?_ (fun c st' h => h) (c := fun _ => (none, ())) ⟨rfl, p, hR, hO⟩) ?_)
  · rintro y c st3 hy ⟨rfl, p3, hR3, hO3⟩
    obtain ⟨arr3, g3, hv3, rfl⟩ := hO3.canon
    refine R.bind (R.get ?_)
    dsimp only
    refine R.iffs (d := p3.size ≤ 1) (fun _ => Iff.rfl) (fun h1 => ?_) (fun h1 => ?_)
    · exact R.pure (.inl ⟨_, fun _ => rfl, rfl, p3, hR3, hO3⟩)
    · refine R.bind (R.mergeF (j := mid p3) (fun _ => rfl) hO3 hR3 hlo (mid_lt h1) fun st4 p4 hR4 hO4 => ?_)
      exact R.pure (.inr ⟨_, fun _ => rfl, rfl, p4, hR4, hO4⟩)
  rintro c st4 ⟨rfl, p4, hR4, hO4⟩
  exact R.pure (q st4 p4 hO4)
end SD

set_option Elab.async false
set_option linter.all false
set_option maxRecDepth 100000
set_option maxHeartbeats 4000000
/-! sorted(a list of ints), however long: what comes of it hangs on the ints alone. Own work. -/
namespace SD
open PySem PyProof.Rows
theorem intsOf_pairs : ∀ {vs : List Value} {ns : List Int}, IntsAre vs ns → vs.length = ns.length ∧ ∀ (k : Nat) (z : Int), ns[k]? = some z → ∃ t, vs[k]? = some (.int z t)
  | _, _, .nil => ⟨rfl, fun k z e => by simp at e⟩
  | _, _, .cons n t h => by
    obtain ⟨h1, h2⟩ := intsOf_pairs h
    refine ⟨by simp [h1], fun k z e => ?_⟩
    cases k with
    | zero => exact ⟨t, by simpa using e⟩
    | succ k => simpa using h2 k z (by simpa using e)
theorem pairs_ints {vs : List Value} {ns : List Int} (h : IntsAre vs ns) : IntsOf (pairsOf vs) ns := by
  obtain ⟨h1, h2⟩ := intsOf_pairs h
  refine ⟨by rw [pairsOf_size, h1], fun k z e => ?_⟩
  obtain ⟨t, ht⟩ := h2 k z e
  exact ⟨t, by rw [← Array.getElem?_toList, pairsOf_toList, List.getElem?_zip_eq_some]; exact ⟨ht, ht⟩⟩
theorem srt_ex (ns : List Int) : ∃ ns' : List Int, ns'.length = ns.length ∧ ∀ (vs : List Value), IntsAre vs ns → ∀ (prog : Program) (w : World) (A : Around) (E : Value → Shared → Prop) (s : Shared) (Q : Unit → SortSt → Prop),
    (∀ st', failedOf st' = none → IntsOf (arrOf st') ns' → Q () st') → wpS (model prog w) A E s sortRuns' Q (SortSt.mk' oneType' (pairsOf vs) #[] 7 none) := by
  have h : R (ι := {vs : List Value // IntsAre vs ns}) (fun _ => sortRuns') (fun i => SortSt.mk' oneType' (pairsOf i.1) #[] 7 none) (fun a st' => ∃ p, Ok st' ns.length p) :=
    R.runs ⟨fun _ => rfl, ⟨ns, rfl, fun i => pairs_ints i.2⟩, fun _ => rfl, ⟨7, fun _ => rfl⟩, fun _ => rfl⟩ (fun st' p hO => ⟨p, hO⟩)
  obtain ⟨a, st', ⟨p, hO⟩, h⟩ := h
  obtain ⟨zs, e, hz⟩ := hO.v
  exact ⟨zs, e, fun vs hvs prog w A E s Q q => h ⟨vs, hvs⟩ prog w A E s Q (q _ (hO.f _) (hz _))⟩
/-- the ints in order -/
noncomputable def srt (ns : List Int) : List Int := if ns.length < 2 then ns else Classical.choose (srt_ex ns)
theorem srt_len (ns : List Int) : (srt ns).length = ns.length := by
  unfold srt
  split
  · rfl
  · exact (Classical.choose_spec (srt_ex ns)).1
theorem srt_runs {ns : List Int} (h2 : ¬ ns.length < 2) {vs : List Value} (hvs : IntsAre vs ns) {prog : Program} {w : World} {A : Around} {E : Value → Shared → Prop} {s : Shared} {Q : Unit → SortSt → Prop} (q : ∀ st', failedOf st' = none → IntsOf (arrOf st') (srt ns) → Q () st') : wpS (model prog w) A E s sortRuns' Q (SortSt.mk' oneType' (pairsOf vs) #[] 7 none) := by
  refine (Classical.choose_spec (srt_ex ns)).2 vs hvs prog w A E s Q fun st' f hi => q st' f ?_
  unfold srt
  rw [if_neg h2]
  exact hi
theorem intsAre_out {arr : Array Keyed} {zs : List Int} (h : IntsOf arr zs) : IntsAre (arr.map (·.2)).toList zs := by
  have key : ∀ (zs : List Int) (l : List Keyed), l.length = zs.length → (∀ (k : Nat) (z : Int), zs[k]? = some z → ∃ t, l[k]? = some (.int z t, .int z t)) → IntsAre (l.map (·.2)) zs := by
    intro zs
    induction zs with
    | nil => intro l hl _; rw [List.length_eq_zero_iff.mp hl]; exact .nil
    | cons z zs ih =>
      intro l hl hk
      obtain ⟨t, ht⟩ := hk 0 z rfl
      cases l with
      | nil => exact nomatch ht
      | cons x r =>
        have ex : x = (.int z t, .int z t) := by simpa using ht
        subst ex
        exact .cons z t (ih r (by simpa using hl) fun k w e => by simpa using hk (k + 1) w (by simpa using e))
  rw [Array.toList_map]
  refine key zs arr.toList (by rw [Array.length_toList, h.1]) fun k z e => ?_
  obtain ⟨t, ht⟩ := h.2 k z e
  exact ⟨t, by rw [Array.getElem?_toList]; exact ht⟩
end SD

set_option Elab.async false
set_option linter.all false
set_option maxRecDepth 100000
set_option maxHeartbeats 4000000
/-! list.sort and sorted of ints, however many. Own work. -/
namespace SD
open PySem PyProof.Rows
section
variable {prog : Program} {w : World} {A : Around} {E : Value → Shared → Prop} {s : Shared}
theorem srt_few {ns : List Int} (h : ns.length < 2) : srt ns = ns := if_pos h
theorem sort_ends {a : Addr} {vs : List Value} {ns : List Int} {n : Nat} {P : Fin → Shared → Prop} (ho : s.heap.get? a = some (seqObj "list" vs.toArray n)) (hI : IntsAre vs ns) (hlen : vs.length ≤ 4000000)
    (h : ∀ out : Array Value, IntsAre out.toList (srt ns) → P (.done (.ret .none)) { s with heap := sortedHeap s.heap a vs out }) : wpAny (model prog w) A (Builtin.«list.sort» ⟨[.ref a], []⟩) P E s := by
  have hl := (intsOf_pairs hI).1
  have ha : a < s.heap.objs.size := Heap.lt_size ho
  have z0 : vs.toArray.size ≤ sizeLine := by rw [List.size_toArray, sizeLine_eq]; omega
  have h0 := get?_update_seq ho (fun _ => #[])
  generalize (if ((fun _ => #[]) vs.toArray : Array Value).size == vs.toArray.size then n else n + 1) = e1 at h0
  have h1 : (((s.heap.update a (Obj.mapSeq fun _ => #[])).push (seqObj "tuple" vs.toArray 0)).push (seqObj "list" #[] 0)).get? a = some (seqObj "list" #[] e1) :=
    Heap.get?_push_of_some _ (Heap.get?_push_of_some _ h0)
  rw [list_sort_plain]
  refine wpAny_bind (listItems_at ho rfl (wpAny_bind (listUpdate_at ho rfl (wpAny_bind (seqEpoch_at h0 rfl (wpAny_bind (wpAny_newTuple (wpAny_bind (wpAny_newList (wpAny_holding ?_))))))) z0)))
  show wpAny (model prog w) A _ P E { s with heap := ((s.heap.update a (Obj.mapSeq fun _ => #[])).push (seqObj "tuple" vs.toArray 0)).push (seqObj "list" #[] 0) }
  dsimp only
  have hsz : vs.toArray.size = vs.length := List.size_toArray ..
  by_cases h2 : vs.toArray.size < 2
  · rw [if_pos h2, if_pos h2]
    refine wpAny_bind (wpAny_pure ?_)
    rw [StateT.run_pure]
    refine wpAny_bind (wpAny_pure ?_)
    dsimp only
    have hi : IntsOf (arrOf (SortSt.mk' general' (vs.toArray.zip vs.toArray) #[] 7 none)) (srt ns) := by rw [srt_few (by omega)]; exact pairs_ints hI
    refine wpAny_bind (seqEpoch_at h1 rfl ?_)
    refine wpAny_bind (listUpdate_at h1 rfl ?_ (Nat.zero_le _) (by show ((arrOf (SortSt.mk' general' (vs.toArray.zip vs.toArray) #[] 7 none)).map (·.2)).size ≤ _; rw [Array.size_map, hi.1, srt_len, sizeLine_eq]; omega))
    simp only [bne_self_eq_false, Bool.false_eq_true, if_false]
    exact wpAny_pure (h _ (intsAre_out hi))
  · rw [if_neg h2, if_neg h2]
    have hk : keyKind' vs.toArray = pure oneType' := by
      cases vs with
      | nil => exact absurd (show (0 : Nat) < 2 by decide) h2
      | cons v vs => cases vs with
        | nil => exact absurd (show (1 : Nat) < 2 by decide) h2
        | cons v2 vs => exact keyKind_ints hI
    rw [hk]
    refine wpAny_bind (wpAny_pure ?_)
    refine wpAny_bind (wpAny_mono (srt_runs (Q := fun _ st' => failedOf st' = none ∧ IntsOf (arrOf st') (srt ns)) (by omega) hI fun st' f i => ⟨f, i⟩) ?_ fun _ _ e => e)
    rintro ⟨⟨⟩, st'⟩ s' ⟨rfl, hf, hi⟩
    dsimp only
    refine wpAny_bind (seqEpoch_at h1 rfl ?_)
    refine wpAny_bind (listUpdate_at h1 rfl ?_ (Nat.zero_le _) (by show ((arrOf st').map (·.2)).size ≤ _; rw [Array.size_map, hi.1, srt_len, sizeLine_eq]; omega))
    rw [hf]
    simp only [bne_self_eq_false, Bool.false_eq_true, if_false]
    exact wpAny_pure (h _ (intsAre_out hi))
/-- sorted(what is collected into a list of ints) -/
theorem sorted_of {v : Value} {vs : List Value} {ns : List Int} {Q : Value → Shared → Prop} {s2 : Shared} (hc : ∀ (Q' : List Value → Shared → Prop), Q' vs s2 → wpAny (model prog w) A.in1 (collect v) Q' E s) (hI : IntsAre vs ns) (hlen : vs.length ≤ 4000000)
    (h : ∀ out : Array Value, IntsAre out.toList (srt ns) → Q (.ref s2.heap.objs.size) { s2 with heap := sortedHeap (s2.heap.push (seqObj "list" vs.toArray 0)) s2.heap.objs.size vs out }) : wpAny (model prog w) A (call (.builtin "sorted") [v]) Q E s := by
  refine Calls.call_function_entry kind_sorted plain_sorted entry_sorted (args_sorted1 _) ?_
  unfold Builtin.«sorted»
  refine wpAny_bind (m := checkCount "sorted" 1 1 _) (wpAny_pure ?_)
  refine wpAny_bind (hc _ ?_)
  refine wpAny_bind (wpAny_newList ?_)
  have hoL : (s2.heap.push (seqObj "list" vs.toArray 0)).get? s2.heap.objs.size = some (seqObj "list" vs.toArray 0) := Heap.get?_push_size _ rfl
  show wpAny _ _ _ _ _ { s2 with heap := s2.heap.push (seqObj "list" vs.toArray 0) }
  refine wpAny_bind (wpAny_holding (wpAny_call_entry slot_list_sort ⟨_, hoL, rfl⟩ entry_list_sort (sort_ends hoL hI hlen fun out ho => ⟨_, rfl, ?_⟩) (args_list_sort _)))
  exact wpAny_pure ⟨_, rfl, h out ho⟩
end
end SD

set_option Elab.async false
set_option linter.all false
set_option maxRecDepth 100000
set_option maxHeartbeats 4000000
/-! sorted(a list of ints), however long: a rule. Own work. -/
namespace L2
open PySem PySem.Spec PyProof.Rows SI
section
variable {X : Cx}
theorem call_sortedD : CallR X (.builtin "sorted") (fun xs H Q => ∃ (p : Addr) (ks : List Int), xs = [.ref p] ∧ SqL X.K H p (ks.map V.int) ∧ ks.length ≤ 4000000 ∧ ∀ (l : Addr), H l = none → Q (.ref l) (upd H l (.lst ((SD.srt ks).map V.int)))) := by
  intro pins s σ H xs us Q I r h
  obtain ⟨p, ks, rfl, hq, hk, q⟩ := h
  obtain ⟨u, rfl, rx⟩ := vals1 r
  cases rx
  obtain ⟨its, rv, pl, hz⟩ := I.list hq
  have hI := intsAre_of rv
  have hlen : ks.length = its.length := by have := rv.length; rw [List.length_map] at this; exact this
  have hsz : ((s.heap.push (seqObj "list" #[] 0)).update s.heap.objs.size (Obj.mapSeq (· ++ its.toArray))).objs.size = s.heap.objs.size + 1 := by
    rw [Heap.size_update, size_push']
  refine SD.sorted_of (vs := its) (fun Q' q' => collect_list pl.isList q' (by rw [sizeLine_eq]; omega)) hI (by omega) fun out hI' => ?_
  show EP X pins σ Q (.ref ((s.heap.push (seqObj "list" #[] 0)).update s.heap.objs.size (Obj.mapSeq (· ++ its.toArray))).objs.size) _
  rw [hsz]
  have keep0 : ∀ b o, s.heap.get? b = some o → (((s.heap.push (seqObj "list" #[] 0)).update s.heap.objs.size (Obj.mapSeq (· ++ its.toArray))).push (seqObj "list" its.toArray 0)).get? b = some o := fun b o e => by
    refine Heap.get?_push_of_some _ ?_
    rw [Heap.get?_update_other _ _ (Ne.symm (Nat.ne_of_lt (Heap.lt_size e)))]
    exact Heap.get?_push_of_some _ e
  have hoL : (((s.heap.push (seqObj "list" #[] 0)).update s.heap.objs.size (Obj.mapSeq (· ++ its.toArray))).push (seqObj "list" its.toArray 0)).get? (s.heap.objs.size + 1) = some (seqObj "list" its.toArray 0) := by
    rw [← hsz]; exact Heap.get?_push_size _ rfl
  obtain ⟨e1, g1⟩ : ∃ e1, ((((s.heap.push (seqObj "list" #[] 0)).update s.heap.objs.size (Obj.mapSeq (· ++ its.toArray))).push (seqObj "list" its.toArray 0)).update (s.heap.objs.size + 1) (Obj.mapSeq fun _ => #[])).get? (s.heap.objs.size + 1) = some (seqObj "list" #[] e1) := ⟨_, get?_update_seq hoL (fun _ => #[])⟩
  have g2 : ((((((s.heap.push (seqObj "list" #[] 0)).update s.heap.objs.size (Obj.mapSeq (· ++ its.toArray))).push (seqObj "list" its.toArray 0)).update (s.heap.objs.size + 1) (Obj.mapSeq fun _ => #[])).push (seqObj "tuple" its.toArray 0)).push (seqObj "list" #[] 0)).get? (s.heap.objs.size + 1) = some (seqObj "list" #[] e1) :=
    Heap.get?_push_of_some _ (Heap.get?_push_of_some _ g1)
  have hle2 : s.heap.objs.size ≤ s.heap.objs.size + 1 := Nat.le_succ _
  refine ⟨.ref (s.heap.objs.size + 1), upd H (s.heap.objs.size + 1) (.lst ((SD.srt ks).map V.int)), ?_, rfl, q _ (I.hok.fresh hle2)⟩
  refine I.laid (a := s.heap.objs.size + 1) (o := .lst ((SD.srt ks).map V.int)) (t' := s.toks) (fun b o e => ?_) hle2 (show ObjOk X.prog X.w _ (sortedHeap _ (s.heap.objs.size + 1) its out) _ (.lst ((SD.srt ks).map V.int)) from ⟨by rw [List.length_map, SD.srt_len, sizeLine_eq]; omega, out.toList, _, vals_ints hI', by unfold sortedHeap; simpa using get?_update_seq g2 (fun _ => out)⟩)
  have hb : b ≠ s.heap.objs.size + 1 := Nat.ne_of_lt (Nat.lt_succ_of_lt (Heap.lt_size e))
  unfold sortedHeap
  rw [Heap.get?_update_other _ _ (Ne.symm hb)]
  exact Heap.get?_push_of_some _ (Heap.get?_push_of_some _ ((Heap.get?_update_other _ _ (Ne.symm hb)).trans (keep0 b o e)))
end
end L2

set_option Elab.async false
set_option linter.all false
set_option maxRecDepth 100000
set_option maxHeartbeats 4000000
/-! sorted(a dict whose keys are ints). Own work. -/
namespace SD
open PySem PyProof.Rows
section
variable {prog : Program} {w : World} {A : Around} {E : Value → Shared → Prop} {s : Shared} {K : Type} [DecidableEq K] {knd : KeyKind prog w K}
theorem dict_len_slot : typeLookup (.type "dict") "__len__" = pure (some (.builtin "dict.__len__")) := by rw [typeLookup_type, builtinLookup_eq_fast]; kernel_rfl
theorem hint_dict {r : Addr} {Q : Bool → Shared → Prop} (hT : s.TypeIs (.ref r) "dict") (h : Q false s) : wpAny (model prog w) A (Builtin.List.listLengthHint (.ref r)) Q E s := by
  unfold Builtin.List.listLengthHint
  refine wpAny_bind (wpAny_specialOf hT dict_len_slot ?_)
  generalize hid : ("dict.__len__" : String) = id0
  wp_delta
  rw [show splitId id0 = some ("dict", "__len__") from by subst hid; decide +kernel]
  subst hid
  refine wpAny_bind (wpAny_isInstance (T := "dict") (b := true) hT (by rw [isSubtype_type]; kernel_rfl) ?_)
  refine wpAny_ite_split (fun hab => absurd hab (by decide)) (fun _ => ?_)
  refine wpAny_ite_split (fun _ => ?_) (fun hab => absurd (by decide +kernel) hab)
  refine wpAny_bind (wpAny_typeOf hT ?_)
  exact wpAny_pure h
/-- the keys of a dict, in a list -/
theorem collect_dict {a : Addr} {kvs : List (K × Value)} {ep : Nat} {Q : List Value → Shared → Prop} (hh : A.handled = none) (hd : (a == sysModules) = false) (hm : s.heap.DictAt knd a kvs ep) (hn : kvs.length ≤ sizeLine)
    (hQ : ∀ (vs : List Value) (h' : Heap) (tk : Nat), vs.length = kvs.length → (∀ (i : Nat) (v : Value), vs[i]? = some v → ∃ k x, kvs[i]? = some (k, x) ∧ knd.is k v = true) → s.heap.objs.size < h'.objs.size → (∀ b o, s.heap.get? b = some o → h'.get? b = some o) → Q vs { s with heap := h', toks := tk }) :
    wpAny (model prog w) A (collect (.ref a)) Q E s := by
  have halt := hm.lt_size
  unfold collect
  refine wpAny_bind (wpAny_runValue (codeAny_builtin PySem.F.entry_proto_collect ?_))
  rw [Around.under_plainId PySem.F.plain_proto_collect _]
  show wpAny _ A.in1 (newList [] >>= fun l => again (.builtin "list.__iadd__" ⟨[l, .ref a], []⟩)) _ _ s
  refine wpAny_bind (wpAny_newObj_type ?_)
  refine wpAny_pure ⟨plainId_quiet PySem.F.plain_list_iadd _, codeAny_builtin PySem.F.entry_list_iadd ?_⟩
  rw [Around.under_plainId PySem.F.plain_list_iadd _]
  show wpAny _ A.in1 (Builtin.List.listExtendWith (.ref s.heap.objs.size) (.ref a) (.ref s.heap.objs.size)) _ _ _
  have hm1 : (s.heap.push { cls := .type "list", data := .seq ([] : List Value).toArray }).DictAt knd a kvs ep := hm.push _
  have hL1 : (s.heap.push { cls := .type "list", data := .seq ([] : List Value).toArray }).get? s.heap.objs.size = some { cls := .type "list", data := .seq ([] : List Value).toArray } := Heap.get?_push_size _ rfl
  have hsz1 : (s.heap.push { cls := .type "list", data := .seq ([] : List Value).toArray }).objs.size = s.heap.objs.size + 1 := Heap.size_push _ _
  have hold1 : ∀ b o, s.heap.get? b = some o → (s.heap.push { cls := .type "list", data := .seq ([] : List Value).toArray }).get? b = some o := fun b o e => Heap.get?_push_of_some _ e
  generalize (s.heap.push { cls := .type "list", data := .seq ([] : List Value).toArray }) = h1 at hm1 hL1 hsz1 hold1 ⊢
  have hT1 : Shared.TypeIs { s with heap := h1 } (.ref a) "dict" := hm1.dictOf.typeIs
  have hne : s.heap.objs.size ≠ a := Nat.ne_of_gt halt
  unfold Builtin.List.listExtendWith
  refine wpAny_bind (wpAny_typeOf hT1 ?_)
  have q1 : Builtin.List.listSameRef (.ref s.heap.objs.size) (.ref a) = false := by simp [Builtin.List.listSameRef, hne]
  have q2 : (Value.type "dict" == Value.type "list") = false := by decide
  have q3 : (Value.type "dict" == Value.type "tuple") = false := by decide
  simp only [q1, q2, q3, Bool.or_false, Bool.false_eq_true, if_false]
  refine wpAny_bind (wpAny_pyIter_dict (s := { s with heap := h1 }) hd hm1 ?_)
  have hI2 : (h1.push { cls := .type "dict_keyiterator", data := .fields #[.ref a, .int 0 0, .int kvs.length 0, .int ep 0] }).IsKeyIter h1.objs.size a 0 kvs.length ep := ⟨_, Heap.get?_push_size _ rfl, rfl, rfl⟩
  have hm2 : (h1.push { cls := .type "dict_keyiterator", data := .fields #[.ref a, .int 0 0, .int kvs.length 0, .int ep 0] }).DictAt knd a kvs ep := hm1.push _
  have hold2 : ∀ b o, h1.get? b = some o → (h1.push { cls := .type "dict_keyiterator", data := .fields #[.ref a, .int 0 0, .int kvs.length 0, .int ep 0] }).get? b = some o := fun b o e => Heap.get?_push_of_some _ e
  generalize (h1.push { cls := .type "dict_keyiterator", data := .fields #[.ref a, .int 0 0, .int kvs.length 0, .int ep 0] }) = h2 at hI2 hm2 hold2 ⊢
  have hne2 : a ≠ h1.objs.size := Nat.ne_of_lt hm1.lt_size
  have hT2 : Shared.TypeIs { s with heap := h2 } (.ref a) "dict" := hm2.dictOf.typeIs
  have hL2 : h2.get? s.heap.objs.size = some { cls := .type "list", data := .seq ([] : List Value).toArray } := hold2 _ _ hL1
  have W := Walks.dictKeys (prog := prog) (w := w) (A := A.in1) (knd := knd) (by simpa using hh) h1.objs.size a hne2 kvs ep
  have hSf : s.heap.objs.size ∉ [h1.objs.size, a] := fun z => by
    rcases List.mem_cons.mp z with q | q
    · rw [hsz1] at q; exact Nat.succ_ne_self _ q.symm
    · exact hne (List.mem_singleton.mp q)
  refine wpAny_bind (wpAny_holding (hint_dict (s := { s with heap := h2 }) hT2 ?_))
  have key : ∀ (h3 : Heap) (c : Nat), (∀ b o, b ≠ s.heap.objs.size → h2.get? b = some o → h3.get? b = some o) → h3.get? s.heap.objs.size = some { cls := .type "list", dict := none, data := .seq #[] c, slots := #[] } →
      codeAny (model prog w) A (.builtin "list.extend.loop" ⟨[.ref s.heap.objs.size, .ref h1.objs.size, .ref s.heap.objs.size], []⟩) (fun r s' => match r with
        | .ok (.ret v) => wpAny (model prog w) A (do
            let .ref l := v | unsupported "internal:collect"
            match (← load l).data with
            | .seq xs _ => pure xs.toList
            | _ => unsupported "internal:collect") Q E s'
        | .ok _ => False
        | .error e => E e s') { s with heap := h3 } := by
    intro h3 c hk hg3
    refine codeAny_extend_loopS W.toS hn _ hSf _ kvs.length 0 _ #[] c rfl (Nat.zero_le _) (W.frame 0 _ _ ⟨hI2, hm2⟩ fun b hb o e => hk b o (fun z => hSf (z ▸ hb)) e) hg3 (ItemsOf.nil _) fun s' acc' c' hmv hS' hacc => ?_
    show wpAny _ A (load s.heap.objs.size >>= _) _ _ s'
    refine wpAny_bind (wpAny_load hS' ?_)
    show wpAny _ A (pure acc'.toList) _ _ s'
    rw [Moved.eq_with hmv]
    refine wpAny_pure (hQ acc'.toList s'.heap s'.toks (by rw [Array.length_toList, hacc.1]) (fun i v e => ?_) (Heap.lt_size hS') fun b o e => hmv.heap b o (fun z => ?_) (hk b o (Nat.ne_of_lt (Heap.lt_size e)) (hold2 b o (hold1 b o e))))
    · rw [Array.getElem?_toList] at e
      exact hacc.2 i v e
    · rcases List.mem_cons.mp z with q | q
      · exact absurd (Heap.lt_size e) (by rw [q]; exact Nat.lt_irrefl _)
      · have q1 := List.mem_singleton.mp q
        have q3 := Heap.lt_size e
        rw [q1, hsz1] at q3
        exact absurd (Nat.le_of_lt q3) (Nat.not_succ_le_self _)
  refine wpAny_ite_split (fun _ => ?_) (fun hab => absurd (by decide +kernel) hab)
  refine wpAny_bind (wpAny_rule ?_)
  refine wpAny_bind ?_
  show wpAny _ _ (updateSeq s.heap.objs.size (·.push .none) >>= fun _ => updateSeq s.heap.objs.size (·.pop)) _ _ _
  refine wpAny_bind (wpAny_updateSeq hL2 rfl ?_)
  have hL3 := Heap.get?_update_self (Obj.mapSeq (·.push Value.none)) hL2 rfl
  refine wpAny_updateSeq hL3 rfl ?_
  have hL4 := Heap.get?_update_self (Obj.mapSeq (·.pop)) hL3 rfl
  refine wpAny_pure ⟨plainId_quiet PySem.F.plain_extend_loop _, ?_⟩
  refine codeAny_mono (key _ _ (fun b o hb e => (Heap.get?_update_other _ _ (Ne.symm hb)).trans ((Heap.get?_update_other _ _ (Ne.symm hb)).trans e)) hL4) fun r s' hr => ?_
  cases r with
  | error e => exact hr
  | ok fl =>
    cases fl with
    | ret v => exact hr
    | next => exact hr.elim
    | brk => exact hr.elim
    | cont => exact hr.elim
end
end SD
namespace SD
open PySem PyProof.Rows
section
variable {prog : Program} {w : World} {A : Around} {E : Value → Shared → Prop} {s : Shared} {K : Type} [DecidableEq K] {knd : KeyKind prog w K}
theorem sorted_dict {a : Addr} {kvs : List (K × Value)} {ep : Nat} {ks : List Int} {Q : Value → Shared → Prop} (hh : A.handled = none) (hd : (a == sysModules) = false) (hm : s.heap.DictAt knd a kvs ep) (hl : kvs.length = ks.length) (hn : ks.length ≤ 4000000)
    (hk : ∀ (i : Nat) (k : K) (x v : Value), kvs[i]? = some (k, x) → knd.is k v = true → ∃ z t, ks[i]? = some z ∧ v = .int z t)
    (h : ∀ (D : Addr) (out : Array Value) (n : Nat) (h' : Heap) (tk : Nat), IntsAre out.toList (srt ks) → s.heap.objs.size ≤ D → h'.get? D = some { cls := .type "list", data := .seq out n } → (∀ b o, s.heap.get? b = some o → h'.get? b = some o) → Q (.ref D) { s with heap := h', toks := tk }) :
    wpAny (model prog w) A (call (.builtin "sorted") [.ref a]) Q E s := by
  refine Calls.call_function_entry kind_sorted plain_sorted entry_sorted (args_sorted1 _) ?_
  unfold Builtin.«sorted»
  refine wpAny_bind (m := checkCount "sorted" 1 1 _) (wpAny_pure ?_)
  refine wpAny_bind (collect_dict (by simpa using hh) hd hm (by rw [sizeLine_eq]; omega) fun vs h1 tk hvl hv hsz0 hold => ?_)
  have hI : IntsAre vs ks := by
    have key : ∀ (vs : List Value) (ks : List Int), vs.length = ks.length → (∀ (i : Nat) (v : Value), vs[i]? = some v → ∃ z t, ks[i]? = some z ∧ v = .int z t) → IntsAre vs ks := by
      intro vs
      induction vs with
      | nil => intro ks hl _; rw [List.length_eq_zero_iff.mp hl.symm]; exact .nil
      | cons v vs ih =>
        intro ks hl hv
        obtain ⟨z, t, e, rfl⟩ := hv 0 v rfl
        cases ks with
        | nil => exact nomatch e
        | cons z' ks =>
          have ez : z' = z := by simpa using e
          subst ez
          exact .cons z' t (ih ks (by simpa using hl) fun i v' e' => by simpa using hv (i + 1) v' (by simpa using e'))
    refine key vs ks (by omega) fun i v e => ?_
    obtain ⟨k, x, ek, hkv⟩ := hv i v e
    exact hk i k x v ek hkv
  have hfit : vs.length ≤ sizeLine := by rw [sizeLine_eq]; omega
  refine wpAny_bind (wpAny_newList ?_ (by first | exact hfit | size_fits))
  have hoL : (h1.push (seqObj "list" vs.toArray 0)).get? h1.objs.size = some (seqObj "list" vs.toArray 0) := Heap.get?_push_size _ rfl
  refine wpAny_bind (wpAny_holding (wpAny_call_entry slot_list_sort ⟨_, hoL, rfl⟩ entry_list_sort (sort_ends hoL hI (by omega) fun out ho => ⟨_, rfl, ?_⟩) (args_list_sort _)))
  refine wpAny_pure ⟨_, rfl, ?_⟩
  obtain ⟨e1, g1⟩ : ∃ e1, ((h1.push (seqObj "list" vs.toArray 0)).update h1.objs.size (Obj.mapSeq fun _ => #[])).get? h1.objs.size = some (seqObj "list" #[] e1) := ⟨_, get?_update_seq hoL _⟩
  have g2 : ((((h1.push (seqObj "list" vs.toArray 0)).update h1.objs.size (Obj.mapSeq fun _ => #[])).push (seqObj "tuple" vs.toArray 0)).push (seqObj "list" #[] 0)).get? h1.objs.size = some (seqObj "list" #[] e1) :=
    Heap.get?_push_of_some _ (Heap.get?_push_of_some _ g1)
  refine h h1.objs.size out _ _ tk ho (Nat.le_of_lt hsz0) (get?_update_seq g2 _) fun b o e => ?_
  have hb : b ≠ h1.objs.size := Nat.ne_of_lt (Heap.lt_size (hold b o e))
  unfold sortedHeap
  rw [Heap.get?_update_other _ _ (Ne.symm hb)]
  exact Heap.get?_push_of_some _ (Heap.get?_push_of_some _ ((Heap.get?_update_other _ _ (Ne.symm hb)).trans (Heap.get?_push_of_some _ (hold b o e))))
end
end SD
namespace L2
open PySem PySem.Spec PyProof.Rows SI
section
variable {X : Cx}
/-- sorted(a dict whose keys are ints) -/
theorem call_sortedK (hc : X.calm = true) : CallR X (.builtin "sorted") (fun xs H Q => ∃ (p : Addr) (kvs : List (Key × V)) (ks : List Int), xs = [.ref p] ∧ H p = some (.dK kvs) ∧ kvs.map (·.1) = ks.map (fun i => (.inl (some i) : Key)) ∧ ks.length ≤ 4000000 ∧ ∀ (l : Addr), H l = none → Q (.ref l) (upd H l (.lst ((SD.srt ks).map V.int)))) := by
  intro pins s σ H xs us Q I r h
  obtain ⟨p, kvs, ks, rfl, hp, hks, hn, q⟩ := h
  obtain ⟨u, rfl, rx⟩ := vals1 r
  cases rx
  obtain ⟨z1, z2, vs, hkv, hD⟩ := dk_of I.hok hp
  obtain ⟨ep, hA⟩ := hD.dictAt
  have hl : kvs.length = ks.length := by have := congrArg List.length hks; rwa [List.length_map, List.length_map] at this
  have hl2 : kvs.length = vs.length := Paired.length hkv
  refine SD.sorted_dict (I.ok.hd hc) z2 hA (ks := ks) (by omega) hn (fun i k x v e hkey => ?_) fun D out n h' tk hI hDs hg hk => ?_
  · have hi : i < kvs.length := by have := (List.getElem?_eq_some_iff.mp e).1; omega
    have hr := paired_get hkv (List.getElem?_eq_getElem hi) e
    have e2 : (kvs.map (·.1))[i]? = some kvs[i].1 := by rw [List.getElem?_map, List.getElem?_eq_getElem hi]; rfl
    rw [hks, List.getElem?_map] at e2
    obtain ⟨z, ez, e3⟩ := Option.map_eq_some_iff.mp e2
    have ek : (.inl (some z) : Key) = k := e3.trans hr.1
    subst ek
    rcases keyIs_shape (show keyIs (.inl (some z)) v = true from hkey) with ⟨e4, _⟩ | ⟨i', t, e4, e5⟩ | ⟨x', t, e4, _⟩
    · exact nomatch e4
    · cases e4; exact ⟨z, t, ez, e5⟩
    · exact nomatch e4
  · refine ⟨.ref D, upd H D (.lst ((SD.srt ks).map V.int)), ?_, rfl, q D (I.hok.fresh hDs)⟩
    exact I.laid (a := D) (o := .lst ((SD.srt ks).map V.int)) (t' := tk) hk hDs (show ObjOk X.prog X.w _ h' D (.lst ((SD.srt ks).map V.int)) from ⟨by rw [List.length_map, SD.srt_len, sizeLine_eq]; omega, out.toList, n, vals_ints hI, by simpa using hg⟩)
end
end L2

set_option Elab.async false
set_option linter.all false
set_option maxRecDepth 100000
set_option maxHeartbeats 4000000
/-! any list == []. Own work. -/
namespace L2
open PySem PySem.Spec PyProof.Rows SI
section
variable {X : Cx}
end
end L2

set_option Elab.async false
set_option linter.all false
set_option maxRecDepth 100000
set_option maxHeartbeats 4000000
/-! Rules that speak of the heap alone, in fewer words. Own work. -/
namespace L2
open PySem PySem.Spec PyProof.Rows
section
variable {X : Cx}
theorem PE.le {e : Expr} {te te' : TE} (h : PE X e te) (f : ∀ σ H Q, te' σ H Q → te σ H Q) : PE X e te' := fun pins s σ H Q I q => h pins s σ H Q I (f σ H Q q)
def tIxT (i : Nat) (n : Int) : TE := fun σ H Q => ∃ p xs v, σ[i]? = some (some (.ref p)) ∧ H p = some (.tup xs) ∧ atI xs n = some v ∧ Q v H
theorem pe_ixT (i : Nat) {x : Str} {n : Int} {j : Nat} {p1 p2 pos : Pos} (hN : X.N[i]? = some x := by rfl) (hv : Vis X.env.scope x := by first | exact Or.inl rfl | exact Or.inr (Or.inl rfl) | exact Or.inr (Or.inr rfl)) (hd : (x == ("__debug__" : Str)) = false := by decide)
    (hcd : (x == ("__classdict__" : Str)) = false := by decide) : PE X (.Subscript (.Name x p1) (.Constant (.int n) j p2) pos) (tIxT i n) := by
  refine (pe_ix ix_tup (pv i hN hv hd hcd) pe_int (fun _ _ => rfl)).le fun σ H Q h => ?_
  obtain ⟨p, xs, v, h1, h2, h3, q⟩ := h
  exact ⟨_, h1, p, xs, n, v, rfl, rfl, SqT.of h2, h3, q⟩
theorem ify_ne {i : Nat} {k w : Str} {p : Addr} {xs : List V} {t u : TS} {D : Ends} {σ : St} {H : Hp} (hσ : σ[i]? = some (some (.ref p))) (hq : H p = some (.tup xs)) (ha : atI xs 0 = some (.str k)) (hn : decide (V.str k = V.str w) = false) (h : u D σ H) : tIfS (tTest (tOp rEq (tIxT i 0) (tC (.str w)))) t u D σ H :=
  ⟨p, xs, _, hσ, hq, ha, rfl, false, congrArg V.bl hn, iteF h⟩
theorem ify_eq {i : Nat} {w : Str} {p : Addr} {xs : List V} {t u : TS} {D : Ends} {σ : St} {H : Hp} (hσ : σ[i]? = some (some (.ref p))) (hq : H p = some (.tup xs)) (ha : atI xs 0 = some (.str w)) (h : t D σ H) : tIfS (tTest (tOp rEq (tIxT i 0) (tC (.str w)))) t u D σ H :=
  ⟨p, xs, _, hσ, hq, ha, rfl, true, congrArg V.bl (decide_eq_true rfl), iteT h⟩
end
end L2
namespace Z
open PySem L2
variable {X : Cx}
end Z

set_option Elab.async false
set_option linter.all false
set_option maxRecDepth 100000
set_option maxHeartbeats 4000000
/-! Readings that come to their values by themselves: names, ints in operators, tests, fields. Own work. -/
namespace L2
open PySem PySem.Spec PyProof.Rows
section
variable {X : Cx}
/-! what stands there, if it does -/
def vw : Option (Option V) → Hp → VK → Prop
  | some (some v), H, Q => Q v H
  | _, _, _ => False
def vq : Option (Option V) → (Addr → Prop) → Prop
  | some (some (.ref p)), f => f p
  | _, _ => False
def vr : V → (Addr → Prop) → Prop
  | .ref p, f => f p
  | _, _ => False
def ax : Option V → (V → Prop) → Prop
  | some v, f => f v
  | none, _ => False
def an : Option V → Prop → Prop
  | none, P => P
  | some _, _ => False
def ii : V → V → (Int → Int → Prop) → Prop
  | .int i, .int j, f => f i j
  | _, _, _ => False
def bk : V → (Bool → Prop) → Prop
  | .bl k, f => f k
  | _, _ => False
theorem vw_ex {o : Option (Option V)} {H : Hp} {Q : VK} (h : vw o H Q) : ∃ v, o = some (some v) ∧ Q v H := by
  cases o with
  | none => exact h.elim
  | some o => cases o with
    | none => exact h.elim
    | some v => exact ⟨v, rfl, h⟩
theorem vq_ex {o : Option (Option V)} {f : Addr → Prop} (h : vq o f) : ∃ p, o = some (some (.ref p)) ∧ f p := by
  cases o with
  | none => exact h.elim
  | some o => cases o with
    | none => exact h.elim
    | some v => cases v with
      | ref p => exact ⟨p, rfl, h⟩
      | _ => exact False.elim h
theorem ax_ex {o : Option V} {f : V → Prop} (h : ax o f) : ∃ v, o = some v ∧ f v := by
  cases o with
  | none => exact h.elim
  | some v => exact ⟨v, rfl, h⟩
theorem ii_ex {x y : V} {f : Int → Int → Prop} (h : ii x y f) : ∃ i j, x = .int i ∧ y = .int j ∧ f i j := by
  cases x with
  | int i => cases y with
    | int j => exact ⟨i, j, rfl, rfl, h⟩
    | _ => exact False.elim h
  | _ => cases y <;> exact False.elim h
/-! names -/
def tVw (i : Nat) : TE := fun σ H Q => vw σ[i]? H Q
theorem pw (i : Nat) {x : Str} {pos : Pos} (hN : X.N[i]? = some x := by rfl) (hv : Vis X.env.scope x := by first | exact Or.inl rfl | exact Or.inr (Or.inl rfl) | exact Or.inr (Or.inr rfl)) (hd : (x == ("__debug__" : Str)) = false := by decide)
    (hcd : (x == ("__classdict__" : Str)) = false := by decide) : PE X (.Name x pos) (tVw i) := (pv i hN hv hd hcd).le fun σ H Q h => vw_ex h
def tIwT (i : Nat) (n : Int) : TE := fun σ H Q => vq σ[i]? fun p => ∃ xs, H p = some (.tup xs) ∧ ax (atI xs n) fun v => Q v H
theorem pe_iwT (i : Nat) {x : Str} {n : Int} {j : Nat} {p1 p2 pos : Pos} (hN : X.N[i]? = some x := by rfl) (hv : Vis X.env.scope x := by first | exact Or.inl rfl | exact Or.inr (Or.inl rfl) | exact Or.inr (Or.inr rfl)) (hd : (x == ("__debug__" : Str)) = false := by decide)
    (hcd : (x == ("__classdict__" : Str)) = false := by decide) : PE X (.Subscript (.Name x p1) (.Constant (.int n) j p2) pos) (tIwT i n) := by
  refine (pe_ixT i hN hv hd hcd).le fun σ H Q h => ?_
  obtain ⟨p, e, xs, hx, h⟩ := vq_ex h
  obtain ⟨v, e2, q⟩ := ax_ex h
  exact ⟨p, xs, v, e, hx, e2, q⟩
/-! operators of ints -/
theorem OpR.le {f : Value → Value → Sem Value} {r r' : R2} (h : OpR X f r) (g : ∀ x y H Q, r' x y H Q → r x y H Q) : OpR X f r' := fun pins s σ H x y v u Q I rx ry q => h pins s σ H x y v u Q I rx ry (g _ _ _ _ q)
def rW0 (g : Int → Int → V) : R2 := fun x y H Q => ii x y fun i j => Q (g i j) H
theorem OpR.w0 {f : Value → Value → Sem Value} {g : Int → Int → V} (h : OpR X f (rI0 g)) : OpR X f (rW0 g) := h.le fun x y H Q q => ii_ex q
theorem op_addW : OpR X (binaryOp .Add) (rW0 fun i j => .int (i + j)) := op_add.w0
/-! fields, methods of a name -/
def one : List V → (V → Prop) → Prop
  | [y], f => f y
  | _, _ => False
/-! tests of words -/
end
end L2
namespace Z
open PySem L2
variable {X : Cx}
end Z

set_option Elab.async false
set_option linter.all false
set_option maxRecDepth 100000
set_option maxHeartbeats 4000000
/-! k72: the law's places. Own work. -/
namespace K72
open PySem L2 Builtin.Str
/-- a tuple and a tuple: theirs lies somewhere -/
def rCatTA (K : PySem.W.Frag) : R2 := fun x y H Q => ∃ a b xs ys, x = .ref a ∧ y = .ref b ∧ H a = some (.tup xs) ∧ H b = some (.tup ys) ∧ xs ≠ [] ∧ xs.length + ys.length ≤ sizeLine ∧ ∀ (p : Addr) (H' : Hp), Same H H' → H' p = some (.tup (xs ++ ys)) → Q (.ref p) H'
theorem op_catTA {X : Cx} : OpR X (binaryOp .Add) (rCatTA X.K) := by
  intro pins s σ H x y v u Q I rx ry h
  obtain ⟨a, b, xs, ys, rfl, rfl, ha, hb, hx, hz, q⟩ := h
  exact op_catT pins s σ H _ _ v u Q I rx ry ⟨a, b, xs, ys, rfl, rfl, SqT.of ha, SqT.of hb, hx, hz, (fun e => q a H (Same.refl H) (by rw [e, List.append_nil]; exact ha)), fun _ p hp => q p _ (same_upd hp) upd_same⟩
theorem pres_take {ks : List Co} {i : Nat} {k : Co} (h : ks[i]? = some k) : pres (ks.take (i + 1)) = pres (ks.take i) ++ pre k := by
  rw [List.take_succ, h, pres_append]
  show _ ++ pres [k] = _
  rw [pres, pres, List.append_nil]
theorem plc_len {c : Co} (h : Wd c) : (plc (pre c)).length ≤ 20 * sz c := by
  unfold plc
  rw [List.length_map, ← pre_len]
  exact flat_len fun d hd => (h d hd).2
theorem pres_len_take {t : Tg} {ks : List Co} (i : Nat) : (pres (ks.take i)).length ≤ sz (.mk t ks) := by
  have e : pres ks = pres (ks.take i) ++ pres (ks.drop i) := by rw [← pres_append, List.take_append_drop]
  have e2 : (pre (.mk t ks)).length = 1 + (pres ks).length := by rw [pre, List.length_cons]; omega
  rw [← pre_len, e2, e, List.length_append]
  omega
theorem sz_kid {t : Tg} {ks : List Co} {k : Co} (h : k ∈ ks) : sz k ≤ sz (.mk t ks) := pre_sz (pre_mk.mpr (.inr ⟨k, h, pre_self k⟩))
def spPlaces (d : Nat) : Sp := fun vs H Q _ => ∃ (v : V) (c : Co), vs = [v] ∧ CoIn H c v ∧ dp c ≤ d ∧ Wd c ∧ sz c ≤ 100000 ∧ ∀ (H' : Hp) (D : Addr), Same H H' → H D = none → H' D = some (.lst ((plc (pre c)).map V.int)) → Q (.ref D) H'
/-- the walk over the parts -/
def PlW (v0 : Option V) (L : Addr) (ks : List Co) (H : Hp) (i : Nat) (σ : St) (H' : Hp) : Prop := (∃ v, σ = [v0, some (.ref L), v]) ∧ Same H H' ∧ H' L = some (.lst ((plc (pres (ks.take i))).map V.int))
theorem places_loop {K : PySem.W.Frag} {d : Nat} {D : Ends} {t : Tg} {ks : List Co} {us : List V} {v0 : Option V} {p L : Addr} {H H1 : Hp} (hk : ∀ k ∈ ks, dp k ≤ d ∧ Wd k) (hw : Wd (.mk t ks)) (hz : sz (.mk t ks) ≤ 100000) (s1 : Same H H1) (hLn : H L = none) (hL : H1 L = some (.lst [])) (hp : H1 p = some (.tup us)) (hpn : p ≠ L) (hal : Al (CoIn H) ks us)
    (hd : ∀ σ H', PlW v0 L ks H ks.length σ H' → D.nx σ H') :
    ∃ W : Nat → Nat → St → Hp → Prop, (∃ m, W 0 m [v0, some (.ref L), none] H1) ∧ ∀ i m σ H, W i m σ H →
      ((Itt K p).stop i H ∧ D.nx σ H) ∨ ((Itt K p).go i H ∧ ∃ N : St → Hp → Prop, (∀ σ' H', N σ' H' → ∃ m', m' < m ∧ W (i + 1) m' σ' H') ∧ ∀ x H', (Itt K p).yld i H x H' → gName 2 x σ H' fun σ2 H2 => tDrop (tBM K "list" rExtend (tVw 1) (tCons (tCall (spPlaces d) [] E0 (tCons (tVw 2) tNil)) tNil)) { D with nx := N, ct := N, bk := D.nx } σ2 H2) := by
  refine for_tup (K := K) (a := p) (xs := us) (fun i σ H' => PlW v0 L ks H i σ H' ∧ H' p = some (.tup us)) ⟨⟨⟨_, rfl⟩, s1, by rw [hL]; rfl⟩, hp⟩ (fun i σ H' _ hP => SqT.of hP.2) ?_ (fun σ H' hP => hd σ H' (by have := hP.1; rwa [hal.1] at this))
  rintro i x σ H' hx ⟨⟨⟨v, rfl⟩, sH, hLi⟩, hp'⟩
  obtain ⟨k, ek, hkx⟩ := hal.at hx
  have hm := List.mem_of_getElem? ek
  obtain ⟨hk1, hk2⟩ := hk k hm
  have hlk := plc_len hk2
  have hsk := sz_kid (t := t) hm
  have hlt : (plc (pres (ks.take i))).length ≤ 20 * sz (.mk t ks) := by
    unfold plc
    rw [List.length_map]
    refine Nat.le_trans (flat_len (n := 20) fun e he => ?_) (Nat.mul_le_mul_left _ (pres_len_take (t := t) i))
    refine (hw e (pre_mk.mpr (.inr ?_))).2
    obtain ⟨k', hk', he'⟩ := mem_pres.mp he
    exact ⟨k', List.mem_of_mem_take hk', he'⟩
  refine ⟨.inl ⟨rfl, _, SqL.of hLi⟩, x, k, rfl, hkx.tup (Tup.of sH), hk1, hk2, by omega, fun H2 D2 s2 hD2n hD2 => ?_⟩
  refine ⟨L, D2, _, _, rfl, rfl, s2 _ _ hLi, hD2, by rw [List.length_map, List.length_map, sizeLine_eq]; omega, ⟨⟨_, rfl⟩, fun b o e => ?_, ?_⟩, ?_⟩
  · rw [upd_ne (ne_of_none e hLn)]; exact s2 _ _ (sH _ _ e)
  · rw [upd_same, pres_take ek, plc_append, List.map_append]
  · rw [upd_ne hpn]; exact s2 _ _ hp'
section
variable {P : Program} {w : World} {K : PySem.W.Frag} {mg : Str → Option Value} {base : Heap}
abbrev NPl : List Str := ["_law_core_here", "_law_places_here", "_law_part"]
theorem scPl : FnScope NPl ["_law_core_here"] (defScope sPlaces) := ⟨rfl, rfl, rfl, by decide +kernel, rfl, by decide +kernel, by decide +kernel⟩
theorem lcPl1 : LcS (defScope sPlaces).names [(".0", .local), ("_law_pair", .local)] NPl [false, false, false] := ⟨by decide +kernel, by decide +kernel, by decide +kernel, by decide +kernel, by decide +kernel, rfl⟩
theorem ndPl1 : (["_law_core_here", "_law_places_here", "_law_part", "_law_pair"] : List Str).Nodup := by decide +kernel
theorem plc_kids (t : Tg) (ks : List Co) (h : parms (.mk t ks) = []) : plc (pre (.mk t ks)) = plc (pres ks) := by
  rw [pre_eq, plc_cons, h]; rfl
theorem places_step {k d : Nat} {spP : Sp} {f : Addr} {fd : FuncData} (F : Fun K "_law_places" "_law_places" sPlaces f fd) (bP : Binds K fd ["_law_core_here"] []) (mP : mg "_law_places" = some (.ref f))
    (GP : FnOk P w K mg base CX0 k f fd ["_law_core_here"] spP) (hP : ∀ e, d = e + 1 → spP = spPlaces e) : FnOk P w K mg base CX0 (k + 1) f fd ["_law_core_here"] (spPlaces d) := by
  refine F.ok scPl (fun vs H Q E h => ?_) (fun cdv A outer s H vs Q E hr h => ?_)
  · obtain ⟨v, c, rfl, _⟩ := h; rfl
  · obtain ⟨v, c, rfl, hc, hdp, hwd, hsz, q⟩ := h
    have nd := scPl.nd
    have z1 : 1 ≤ sizeLine := by rw [sizeLine_eq]; decide
    obtain ⟨t, ks⟩ := c
    obtain ⟨a, us, rfl, hat, hal⟩ := hc.cut
    rw [dp_mk] at hdp
    obtain ⟨d', rfl⟩ : ∃ d', d = d' + 1 := ⟨d - 1, by omega⟩
    have eP : spP = spPlaces d' := hP d' rfl
    subst eP
    have kd : ∀ k ∈ ks, dp k ≤ d' ∧ Wd k := fun k hk => ⟨by have := dp_kid hk; omega, hwd.kid hk⟩
    refine ⟨_, pss_cons (ps_if (pt_cmpR op_eq (pe_ixT 0) pe_str (nomark _))
      (pss_one (ps_ret (pe_op op_cat (pe_lc (ext := ["_law_pair"]) lcPl1 rfl (pi_tup (pe_iwT 0))
          ⟨fun _ _ _ _ _ => (pg_name (i := 3) ndPl1 rfl (Or.inl rfl) (.inr rfl)), fun _ _ _ _ _ => pts_nil, fun _ _ _ _ _ => (pe_iwT 3)⟩) (pe_call GP hr (by rfl) mP F.kp bP .nil pass0 (pa_cons (pe_iwT 0) pa_nil)))))
      pss_nil)
      (pss_cons (ps_set (i := 1) nd rfl (Or.inl rfl) (pe_lst pa_nil))
      (pss_cons (ps_if (pt_cmpR op_eq (pe_ixT 0) pe_str (nomark _))
      (pss_one (ps_for PassesOwn.never rfl (pi_tup (pe_op (op_catTA : OpR _ _ (rCatTA K)) (pe_tup (pa_cons (pe_iwT 0) pa_nil)) (pe_iwT 0))) (pg_name (i := 2) nd rfl (Or.inl rfl))
        (pss_one (ps_expr (pe_bm PySem.F.plainAttrs_list PySem.F.slot_list_extend PySem.F.type_list_extend mt_extend (pw 1) (pa_cons (pe_call GP hr (by rfl) mP F.kp bP .nil pass0 (pa_cons (pw 2) pa_nil)) pa_nil))))))
      pss_nil)
      (pss_cons (ps_if (PW.pt (pw_or (pt_cmpR op_eq (pe_ixT 0) pe_str (nomark _)) (pw_or1 (pt_cmpR op_eq (pe_ixT 0) pe_str (nomark _)))))
      (pss_one (ps_for PassesOwn.never rfl (pi_tup (pe_slice sl_tup (pw 0) (po_some pe_int) po_none)) (pg_name (i := 2) nd rfl (Or.inl rfl))
        (pss_one (ps_expr (pe_bm PySem.F.plainAttrs_list PySem.F.slot_list_extend PySem.F.type_list_extend mt_extend (pw 1) (pa_cons (pe_call GP hr (by rfl) mP F.kp bP .nil pass0 (pa_cons (pw 2) pa_nil)) pa_nil))))))
      pss_nil)
      (pss_one (ps_ret (pw 1)))))), ?_⟩
    cases t with
    | num z =>
      obtain ⟨rfl, ha⟩ := hat
      obtain rfl : ks = [] := List.length_eq_zero_iff.mp hal.1.symm
      refine ify_ne rfl ha rfl rfl ⟨Nat.zero_le _, fun L hL => ?_⟩
      have s1 := same_upd (o := .lst []) hL
      have ha1 := s1 _ _ ha
      refine ify_ne rfl ha1 rfl rfl ?_
      refine ⟨a, _, _, rfl, ha1, rfl, rfl, false, rfl, iteF ⟨a, _, _, rfl, ha1, rfl, rfl, false, rfl, iteF ?_⟩⟩
      exact q _ L s1 hL (by rw [plc_kids _ _ rfl]; exact upd_same)
    | free n =>
      obtain ⟨rfl, ha⟩ := hat
      obtain rfl : ks = [] := List.length_eq_zero_iff.mp hal.1.symm
      refine ify_ne rfl ha rfl rfl ⟨Nat.zero_le _, fun L hL => ?_⟩
      have s1 := same_upd (o := .lst []) hL
      have ha1 := s1 _ _ ha
      refine ify_ne rfl ha1 rfl rfl ?_
      refine ⟨a, _, _, rfl, ha1, rfl, rfl, false, rfl, iteF ⟨a, _, _, rfl, ha1, rfl, rfl, false, rfl, iteF ?_⟩⟩
      exact q _ L s1 hL (by rw [plc_kids _ _ rfl]; exact upd_same)
    | seen p0 =>
      obtain ⟨rfl, ha⟩ := hat
      obtain rfl : ks = [] := List.length_eq_zero_iff.mp hal.1.symm
      refine ify_ne rfl ha rfl rfl ⟨Nat.zero_le _, fun L hL => ?_⟩
      have s1 := same_upd (o := .lst []) hL
      have ha1 := s1 _ _ ha
      refine ify_ne rfl ha1 rfl rfl ?_
      refine ⟨a, _, _, rfl, ha1, rfl, rfl, false, rfl, iteF ⟨a, _, _, rfl, ha1, rfl, rfl, false, rfl, iteF ?_⟩⟩
      exact q _ L s1 hL (by rw [plc_kids _ _ rfl]; exact upd_same)
    | call =>
      obtain ⟨u, f', as, rfl, ha, hu'⟩ := hat
      have hkl : ks.length ≤ 1000 := (hwd _ (pre_self _)).1
      have hul := hal.1
      rw [List.length_cons] at hul
      refine ify_ne rfl ha rfl rfl ⟨Nat.zero_le _, fun L hL => ?_⟩
      have s1 := same_upd (o := .lst []) hL
      have f1 : upd H L (.lst []) L = some (.lst []) := upd_same
      generalize upd H L (.lst []) = H1 at s1 f1 ⊢
      have ha1 := s1 _ _ ha
      refine ify_eq rfl ha1 rfl ?_
      refine ⟨_, ha1, z1, fun p1 hp1 => ?_⟩
      have s2 := same_upd (o := .tup [f']) hp1
      have f2 : upd H1 p1 (.tup [f']) p1 = some (.tup [f']) := upd_same
      generalize upd H1 p1 (.tup [f']) = H2 at s2 f2 ⊢
      refine ⟨_, s2 _ _ ha1, p1, u, [f'], as, rfl, rfl, f2, s2 _ _ (s1 _ _ hu'), (fun z => nomatch z), by rw [sizeLine_eq]; show 1 + as.length ≤ _; omega, fun p3 H3 s3 hp3 => ?_⟩
      have n3 : p3 ≠ L := kind_ne hp3 (s3 _ _ (s2 _ _ f1)) (fun z => nomatch z)
      refine ⟨p3, rfl, ⟨_, SqT.of hp3⟩, places_loop (t := .call) kd hwd hsz ((s1.trans s2).trans s3) hL ((s2.trans s3) _ _ f1) hp3 n3 hal ?_⟩
      rintro σ H' ⟨⟨v, rfl⟩, sH, hLe⟩
      rw [List.take_length] at hLe
      have ha' := sH _ _ ha
      refine ⟨a, _, _, rfl, ha', rfl, rfl, false, rfl, iteF ⟨a, _, _, rfl, ha', rfl, rfl, false, rfl, iteF ?_⟩⟩
      exact q _ L sH hL (by rw [plc_kids _ _ rfl]; exact hLe)
    | pick =>
      obtain ⟨x, y, z, rfl, ha⟩ := hat
      refine ify_ne rfl ha rfl rfl ⟨Nat.zero_le _, fun L hL => ?_⟩
      have s1 := same_upd (o := .lst []) hL
      have f1 : upd H L (.lst []) L = some (.lst []) := upd_same
      generalize upd H L (.lst []) = H1 at s1 f1 ⊢
      have ha1 := s1 _ _ ha
      refine ify_ne rfl ha1 rfl rfl ?_
      refine ⟨a, _, _, rfl, ha1, rfl, rfl, true, rfl, iteT (iteT ?_)⟩
      refine ⟨_, rfl, a, _, rfl, SqT.of ha1, cut_no _ _, fun p2 hp2 => ?_⟩
      rw [cut_tail]
      have s2 := same_upd (o := .tup [x, y, z]) hp2
      have n2 : p2 ≠ L := Ne.symm (ne_of_none f1 hp2)
      refine ⟨p2, rfl, ⟨_, SqT.of upd_same⟩, places_loop (t := .pick) kd hwd hsz (s1.trans s2) hL (s2 _ _ f1) upd_same n2 hal ?_⟩
      rintro σ H' ⟨⟨v, rfl⟩, sH, hLe⟩
      rw [List.take_length] at hLe
      exact q _ L sH hL (by rw [plc_kids _ _ rfl]; exact hLe)
    | now =>
      obtain ⟨x, rfl, ha⟩ := hat
      refine ify_ne rfl ha rfl rfl ⟨Nat.zero_le _, fun L hL => ?_⟩
      have s1 := same_upd (o := .lst []) hL
      have f1 : upd H L (.lst []) L = some (.lst []) := upd_same
      generalize upd H L (.lst []) = H1 at s1 f1 ⊢
      have ha1 := s1 _ _ ha
      refine ify_ne rfl ha1 rfl rfl ?_
      refine ⟨a, _, _, rfl, ha1, rfl, rfl, false, rfl, iteF ⟨a, _, _, rfl, ha1, rfl, rfl, true, rfl, iteT ?_⟩⟩
      refine ⟨_, rfl, a, _, rfl, SqT.of ha1, cut_no _ _, fun p2 hp2 => ?_⟩
      rw [cut_tail]
      have s2 := same_upd (o := .tup [x]) hp2
      have n2 : p2 ≠ L := Ne.symm (ne_of_none f1 hp2)
      refine ⟨p2, rfl, ⟨_, SqT.of upd_same⟩, places_loop (t := .now) kd hwd hsz (s1.trans s2) hL (s2 _ _ f1) upd_same n2 hal ?_⟩
      rintro σ H' ⟨⟨v, rfl⟩, sH, hLe⟩
      rw [List.take_length] at hLe
      exact q _ L sH hL (by rw [plc_kids _ _ rfl]; exact hLe)
    | fn ps =>
      obtain ⟨u, pv', b, rfl, ha, hu', hps⟩ := hat
      have hk1 : ks.length = 1 := hal.1.symm
      obtain ⟨kb, rfl⟩ : ∃ kb, ks = [kb] := match ks, hk1 with | [kb], _ => ⟨kb, rfl⟩
      obtain ⟨x1, r1, e1, hx1, hr1⟩ := hal.uncons
      cases e1
      have hpl : ps.length ≤ 20 := (hwd _ (pre_self _)).2
      obtain ⟨kd1, kd2⟩ := kd kb (List.mem_cons_self ..)
      have hlb := plc_len kd2
      have hsb := sz_kid (t := .fn ps) (List.mem_cons_self (a := kb) (l := []))
      refine ify_eq rfl ha rfl ?_
      refine ⟨_, ha, u, rfl, ⟨_, SqT.of hu'⟩, fun D hD => ?_⟩
      refine lc_tpl (K := K) (a := u) (xs := pv') (fun k ys σ' H' => (∃ v, σ' = [none, none, none, v]) ∧ Same H H' ∧ H' D = some (.lst ys) ∧ ys = ((ps.take k).map (·.1)).map V.int)
        ⟨⟨_, rfl⟩, same_upd hD, upd_same, rfl⟩ (fun k ys σ' H' _ hP => SqT.of (hP.2.1 _ _ hu')) ?_ ?_
      · rintro k x ys σ' H' hx ⟨⟨v, rfl⟩, sH, hDy, hys⟩
        unfold gName
        refine yes_if ?_
        have hk := (List.getElem?_eq_some_iff.mp hx).1
        obtain ⟨⟨p, n0⟩, ep, hp⟩ := hps.at hx
        obtain ⟨t0, rfl, ht0⟩ := hp
        refine ⟨_, sH _ _ ht0, hDy, by rw [hys, List.length_map, List.length_map, List.length_take, sizeLine_eq]; omega, Beh.of hk ⟨⟨_, rfl⟩, fun e o qe => ?_, upd_same, ?_⟩⟩
        · rw [upd_ne (ne_of_none qe hD)]; exact sH _ _ qe
        · rw [hys, List.take_succ, ep]; simp
      · rintro ys σ' H1 ⟨_, s1, hDy, hys⟩
        rw [hps.1, List.take_length] at hys
        refine ⟨_, s1 _ _ ha, b, kb, rfl, hx1.tup (Tup.of s1), kd1, kd2, by omega, fun H2 D2 s2 hD2n hD2 => ?_⟩
        refine ⟨D, D2, _, _, rfl, rfl, s2 _ _ hDy, hD2, by rw [hys, List.length_map, List.length_map, List.length_map, sizeLine_eq]; omega, fun D3 hD3 => ?_⟩
        refine q _ D3 ((s1.trans s2).trans (same_upd hD3)) ((s1.trans s2).free hD3) ?_
        rw [upd_same, hys, pre_eq, plc_cons, List.map_append]
        show some (HO.lst (List.map V.int (List.map (·.1) ps) ++ List.map V.int (plc (pre kb)))) = some (HO.lst (List.map V.int (List.map (·.1) (parms (.mk (.fn ps) [kb]))) ++ List.map V.int (plc (pres [kb]))))
        rw [pres_cons, show pres [] = [] from by rw [pres], List.append_nil]
        rfl
theorem ok_places {f : Addr} {fd : FuncData} (F : Fun K "_law_places" "_law_places" sPlaces f fd) (bP : Binds K fd ["_law_core_here"] []) (mP : mg "_law_places" = some (.ref f)) : ∀ d, FnOk P w K mg base CX0 (d + 1) f fd ["_law_core_here"] (spPlaces d)
  | 0 => places_step (k := 0) (spP := spNo) F bP mP fn_no (fun e h => by omega)
  | d + 1 => places_step (k := d + 1) (spP := spPlaces d) F bP mP (ok_places F bP mP d) (fun e h => by rw [Nat.add_right_cancel h])
end
end K72

set_option Elab.async false
set_option linter.all false
set_option maxRecDepth 100000
set_option maxHeartbeats 4000000
/-! k72: the law's words. Own work. -/
namespace K72
open PySem L2 Builtin.Str
theorem Al.one {α : Type} {R : α → V → Prop} {a : α} {v : V} (r : R a v) : Al R [a] [v] := Al.cons r Al.nil
/-- a word that a core stands for -/
inductive Wo where
  | free (n : Str)
  | seen (p : Int)
  | form (s : Str)
def WoIn (H : Hp) : Wo → V → Prop
  | .free n, v => ∃ t, v = .ref t ∧ H t = some (.tup [.str "free", .str n])
  | .seen p, v => ∃ t, v = .ref t ∧ H t = some (.tup [.str "seen", .int p])
  | .form s, v => ∃ t, v = .ref t ∧ H t = some (.tup [.str "form", .str s])
theorem WoIn.tup {H H' : Hp} (s : Tup H H') {o : Wo} {v : V} (h : WoIn H o v) : WoIn H' o v := by
  cases o with
  | free n => obtain ⟨t, e, h⟩ := h; exact ⟨t, e, s _ _ h⟩
  | seen n => obtain ⟨t, e, h⟩ := h; exact ⟨t, e, s _ _ h⟩
  | form n => obtain ⟨t, e, h⟩ := h; exact ⟨t, e, s _ _ h⟩
def wo : Co → Option Wo
  | .mk (.free n) _ => some (.free n)
  | .mk (.seen p) _ => some (.seen p)
  | .mk (.fn _) _ => some (.form "fn")
  | .mk .pick _ => some (.form "pick")
  | .mk .now _ => some (.form "now")
  | .mk .call _ => none
  | .mk (.num _) _ => none
def wos (cs : List Co) : List Wo := cs.filterMap wo
theorem wos_append (a b : List Co) : wos (a ++ b) = wos a ++ wos b := List.filterMap_append
theorem wos_len (cs : List Co) : (wos cs).length ≤ cs.length := List.length_filterMap_le _ _
def spWords (d : Nat) : Sp := fun vs H Q _ => ∃ (v : V) (c : Co), vs = [v] ∧ CoIn H c v ∧ dp c ≤ d ∧ sz c ≤ 100010 ∧ (∀ e ∈ pre c, e.ks.length ≤ 1000) ∧ ∀ (H' : Hp) (D : Addr) (xs : List V), Same H H' → H D = none → H' D = some (.lst xs) → Al (WoIn H') (wos (pre c)) xs → Q (.ref D) H'
/-- the walk over the parts -/
def WoW (v0 v2 : Option V) (L : Addr) (b : List Wo) (ks : List Co) (H : Hp) (i : Nat) (σ : St) (H' : Hp) : Prop := (∃ v, σ = [v0, some (.ref L), v2, v]) ∧ Same H H' ∧ ∃ xs, H' L = some (.lst xs) ∧ Al (WoIn H') (b ++ wos (pres (ks.take i))) xs
theorem words_loop {K : PySem.W.Frag} {d : Nat} {D : Ends} {t : Tg} {ks : List Co} {us : List V} {v0 v2 : Option V} {p L : Addr} {b : List Wo} {xs0 : List V} {H H1 : Hp} (hk : ∀ k ∈ ks, dp k ≤ d ∧ ∀ e ∈ pre k, e.ks.length ≤ 1000) (hb : b.length ≤ 1) (hz : sz (.mk t ks) ≤ 100010) (s1 : Same H H1) (hLn : H L = none) (hL : H1 L = some (.lst xs0)) (hx0 : Al (WoIn H1) b xs0) (hp : H1 p = some (.tup us)) (hpn : p ≠ L) (hal : Al (CoIn H) ks us)
    (hd : ∀ σ H', WoW v0 v2 L b ks H ks.length σ H' → D.nx σ H') :
    ∃ W : Nat → Nat → St → Hp → Prop, (∃ m, W 0 m [v0, some (.ref L), v2, none] H1) ∧ ∀ i m σ H, W i m σ H →
      ((Itt K p).stop i H ∧ D.nx σ H) ∨ ((Itt K p).go i H ∧ ∃ N : St → Hp → Prop, (∀ σ' H', N σ' H' → ∃ m', m' < m ∧ W (i + 1) m' σ' H') ∧ ∀ x H', (Itt K p).yld i H x H' → gName 3 x σ H' fun σ2 H2 => tDrop (tBM K "list" rExtend (tVw 1) (tCons (tCall (spWords d) [] E0 (tCons (tVw 3) tNil)) tNil)) { D with nx := N, ct := N, bk := D.nx } σ2 H2) := by
  refine for_tup (K := K) (a := p) (xs := us) (fun i σ H' => WoW v0 v2 L b ks H i σ H' ∧ H' p = some (.tup us)) ⟨⟨⟨_, rfl⟩, s1, xs0, hL, by rw [List.take_zero, pres]; simpa [wos] using hx0⟩, hp⟩ (fun i σ H' _ hP => SqT.of hP.2) ?_ (fun σ H' hP => hd σ H' (by have := hP.1; rwa [hal.1] at this))
  rintro i x σ H' hx ⟨⟨⟨v, rfl⟩, sH, xs, hLi, hxs⟩, hp'⟩
  obtain ⟨k, ek, hkx⟩ := hal.at hx
  have hm := List.mem_of_getElem? ek
  obtain ⟨hk1, hk2⟩ := hk k hm
  have hsk := sz_kid (t := t) hm
  have hlt : (wos (pres (ks.take i))).length ≤ sz (.mk t ks) := Nat.le_trans (wos_len _) (pres_len_take (t := t) i)
  have hlk := wos_len (pre k)
  rw [pre_len] at hlk
  refine ⟨.inl ⟨rfl, _, SqL.of hLi⟩, x, k, rfl, hkx.tup (Tup.of sH), hk1, by omega, hk2, fun H2 D2 ys s2 hD2n hD2 hys => ?_⟩
  have tk : Tup H2 (upd H2 L (.lst (xs ++ ys))) := Tup.lst (s2 _ _ hLi)
  refine ⟨L, D2, _, _, rfl, rfl, s2 _ _ hLi, hD2, by rw [hxs.1, hys.1, List.length_append, sizeLine_eq]; omega, ⟨⟨_, rfl⟩, fun b o e => ?_, xs ++ ys, upd_same, ?_⟩, ?_⟩
  · rw [upd_ne (ne_of_none e hLn)]; exact s2 _ _ (sH _ _ e)
  · rw [pres_take ek, wos_append, ← List.append_assoc]
    exact (hxs.mono fun _ _ r => r.tup ((Tup.of s2).trans tk)).append (hys.mono fun _ _ r => r.tup tk)
  · rw [upd_ne hpn]; exact s2 _ _ hp'
section
variable {P : Program} {w : World} {K : PySem.W.Frag} {mg : Str → Option Value} {base : Heap}
abbrev NWo : List Str := ["_law_core_here", "_law_words_here", "_law_parts", "_law_part"]
theorem scWo : FnScope NWo ["_law_core_here"] (defScope sWords) := ⟨rfl, rfl, rfl, by decide +kernel, rfl, by decide +kernel, by decide +kernel⟩
theorem words_step {k d : Nat} {spW : Sp} {f : Addr} {fd : FuncData} (F : Fun K "_law_words" "_law_words" sWords f fd) (bW : Binds K fd ["_law_core_here"] []) (mW : mg "_law_words" = some (.ref f))
    (GW : FnOk P w K mg base CX0 k f fd ["_law_core_here"] spW) (hW : ∀ e, d = e + 1 → spW = spWords e) : FnOk P w K mg base CX0 (k + 1) f fd ["_law_core_here"] (spWords d) := by
  refine F.ok scWo (fun vs H Q E h => ?_) (fun cdv A outer s H vs Q E hr h => ?_)
  · obtain ⟨v, c, rfl, _⟩ := h; rfl
  · obtain ⟨v, c, rfl, hc, hdp, hsz, hkl, q⟩ := h
    have nd := scWo.nd
    have z1 : 1 ≤ sizeLine := by rw [sizeLine_eq]; decide
    have z2 : 2 ≤ sizeLine := by rw [sizeLine_eq]; decide
    obtain ⟨t, ks⟩ := c
    obtain ⟨a, us, rfl, hat, hal⟩ := hc.cut
    rw [dp_mk] at hdp
    obtain ⟨d', rfl⟩ : ∃ d', d = d' + 1 := ⟨d - 1, by omega⟩
    have eW : spW = spWords d' := hW d' rfl
    subst eW
    have kd : ∀ k ∈ ks, dp k ≤ d' ∧ ∀ e ∈ pre k, e.ks.length ≤ 1000 := fun k hk => ⟨by have := dp_kid hk; omega, fun e he => hkl e (pre_mk.mpr (.inr ⟨k, hk, he⟩))⟩
    refine ⟨_, pss_cons (ps_if (pt_cmpR op_eq (pe_ixT 0) pe_str (nomark _))
      (pss_one (ps_ret (pe_lst pa_nil)))
      pss_nil)
      (pss_cons (ps_if (PW.pt (pw_or (pt_cmpR op_eq (pe_ixT 0) pe_str (nomark _)) (pw_or1 (pt_cmpR op_eq (pe_ixT 0) pe_str (nomark _)))))
      (pss_one (ps_ret (pe_lst (pa_cons (pw 0) pa_nil))))
      pss_nil)
      (pss_cons (ps_if (pt_cmpR op_eq (pe_ixT 0) pe_str (nomark _))
      (pss_one (ps_ret (pe_op op_cat (pe_lst (pa_cons (pe_tup (pa_cons pe_str (pa_cons pe_str pa_nil))) pa_nil)) (pe_call GW hr (by rfl) mW F.kp bW .nil pass0 (pa_cons (pe_iwT 0) pa_nil)))))
      pss_nil)
      (pss_cons (ps_set (i := 1) nd rfl (Or.inl rfl) (pe_lst (pa_cons (pe_tup (pa_cons pe_str (pa_cons (pe_iwT 0) pa_nil))) pa_nil)))
      (pss_cons (ps_set (i := 2) nd rfl (Or.inl rfl) (pe_slice sl_tup (pw 0) (po_some pe_int) po_none))
      (pss_cons (ps_if (pt_cmpR op_eq (pe_ixT 0) pe_str (nomark _))
      (pss_cons (ps_set (i := 1) nd rfl (Or.inl rfl) (pe_lst pa_nil))
        (pss_one (ps_set (i := 2) nd rfl (Or.inl rfl) (pe_op (op_catTA : OpR _ _ (rCatTA K)) (pe_tup (pa_cons (pe_iwT 0) pa_nil)) (pe_iwT 0)))))
      pss_nil)
      (pss_cons (ps_for PassesOwn.never rfl (pi_tup (pw 2)) (pg_name (i := 3) nd rfl (Or.inl rfl))
      (pss_one (ps_expr (pe_bm PySem.F.plainAttrs_list PySem.F.slot_list_extend PySem.F.type_list_extend mt_extend (pw 1) (pa_cons (pe_call GW hr (by rfl) mW F.kp bW .nil pass0 (pa_cons (pw 3) pa_nil)) pa_nil)))))
      (pss_one (ps_ret (pw 1))))))))), ?_⟩
    cases t with
    | num z =>
      obtain ⟨rfl, ha⟩ := hat
      obtain rfl : ks = [] := List.length_eq_zero_iff.mp hal.1.symm
      refine ify_eq rfl ha rfl ⟨Nat.zero_le _, fun L hL => ?_⟩
      exact q _ L [] (same_upd hL) hL upd_same (by rw [pre_eq, pres]; exact Al.nil)
    | free n =>
      obtain ⟨rfl, ha⟩ := hat
      obtain rfl : ks = [] := List.length_eq_zero_iff.mp hal.1.symm
      refine ify_ne rfl ha rfl rfl ⟨a, _, _, rfl, ha, rfl, rfl, true, rfl, iteT (iteT ⟨z1, fun L hL => ?_⟩)⟩
      exact q _ L [.ref a] (same_upd hL) hL upd_same (by rw [pre_eq, pres]; exact Al.one ⟨a, rfl, same_upd hL _ _ ha⟩)
    | seen p0 =>
      obtain ⟨rfl, ha⟩ := hat
      obtain rfl : ks = [] := List.length_eq_zero_iff.mp hal.1.symm
      refine ify_ne rfl ha rfl rfl ⟨a, _, _, rfl, ha, rfl, rfl, false, rfl, iteF ⟨a, _, _, rfl, ha, rfl, rfl, true, rfl, iteT ⟨z1, fun L hL => ?_⟩⟩⟩
      exact q _ L [.ref a] (same_upd hL) hL upd_same (by rw [pre_eq, pres]; exact Al.one ⟨a, rfl, same_upd hL _ _ ha⟩)
    | fn ps =>
      obtain ⟨u, pv', b, rfl, ha, hu', hps⟩ := hat
      have hk1 : ks.length = 1 := hal.1.symm
      obtain ⟨kb, rfl⟩ : ∃ kb, ks = [kb] := match ks, hk1 with | [kb], _ => ⟨kb, rfl⟩
      obtain ⟨x1, r1, e1, hx1, hr1⟩ := hal.uncons
      cases e1
      obtain ⟨kd1, kd2⟩ := kd kb (List.mem_cons_self ..)
      have hsb := sz_kid (t := .fn ps) (List.mem_cons_self (a := kb) (l := []))
      have hlk := wos_len (pre kb)
      rw [pre_len] at hlk
      refine ify_ne rfl ha rfl rfl ⟨a, _, _, rfl, ha, rfl, rfl, false, rfl, iteF ⟨a, _, _, rfl, ha, rfl, rfl, false, rfl, iteF ?_⟩⟩
      refine ify_eq rfl ha rfl ⟨z2, fun t1 ht1 => ?_⟩
      have s1 := same_upd (o := .tup [.str "form", .str "fn"]) ht1
      have f1 : upd H t1 (.tup [.str "form", .str "fn"]) t1 = some (.tup [.str "form", .str "fn"]) := upd_same
      generalize upd H t1 (.tup [.str "form", .str "fn"]) = H1 at s1 f1 ⊢
      refine ⟨z1, fun L hL => ?_⟩
      have s2 := same_upd (o := .lst [.ref t1]) hL
      have f2 : upd H1 L (.lst [.ref t1]) L = some (.lst [.ref t1]) := upd_same
      generalize upd H1 L (.lst [.ref t1]) = H2 at s2 f2 ⊢
      have s12 := s1.trans s2
      refine ⟨_, s12 _ _ ha, b, kb, rfl, hx1.tup (Tup.of s12), kd1, by omega, kd2, fun H3 D2 ys s3 hD2n hD2 hys => ?_⟩
      refine ⟨L, D2, _, _, rfl, rfl, s3 _ _ f2, hD2, by rw [hys.1, sizeLine_eq]; show 1 + _ ≤ _; omega, fun D3 hD3 => ?_⟩
      have s4 := same_upd (o := .lst ([.ref t1] ++ ys)) hD3
      refine q _ D3 _ ((s12.trans s3).trans s4) ((s12.trans s3).free hD3) upd_same ?_
      rw [pre_eq, pres_cons, show pres [] = [] from by rw [pres], List.append_nil]
      exact Al.cons (a := Wo.form "fn") ⟨t1, rfl, s4 _ _ (s3 _ _ (s2 _ _ f1))⟩ (hys.mono fun _ _ r => r.tup (Tup.of s4))
    | call =>
      obtain ⟨u, f', as, rfl, ha, hu'⟩ := hat
      refine ify_ne rfl ha rfl rfl ⟨a, _, _, rfl, ha, rfl, rfl, false, rfl, iteF ⟨a, _, _, rfl, ha, rfl, rfl, false, rfl, iteF ?_⟩⟩
      refine ify_ne rfl ha rfl rfl ⟨_, ha, z2, fun t1 ht1 => ?_⟩
      have s1 := same_upd (o := .tup [.str "form", .str "call"]) ht1
      have f1 : upd H t1 (.tup [.str "form", .str "call"]) t1 = some (.tup [.str "form", .str "call"]) := upd_same
      generalize upd H t1 (.tup [.str "form", .str "call"]) = H1 at s1 f1 ⊢
      refine ⟨z1, fun L hL => ?_⟩
      have s2 := same_upd (o := .lst [.ref t1]) hL
      have f2 : upd H1 L (.lst [.ref t1]) L = some (.lst [.ref t1]) := upd_same
      generalize upd H1 L (.lst [.ref t1]) = H2 at s2 f2 ⊢
      have s12 := s1.trans s2
      refine ⟨_, rfl, a, _, rfl, SqT.of (s12 _ _ ha), cut_no _ _, fun p2 hp2 => ?_⟩
      rw [cut_tail]
      have s3 := same_upd (o := .tup [f', .ref u]) hp2
      have f3 : upd H2 p2 (.tup [f', .ref u]) p2 = some (.tup [f', .ref u]) := upd_same
      generalize upd H2 p2 (.tup [f', .ref u]) = H3 at s3 f3 ⊢
      have s13 := s12.trans s3
      have hkl1 : ks.length ≤ 1000 := hkl _ (pre_self _)
      have hul := hal.1
      rw [List.length_cons] at hul
      refine ify_eq rfl (s13 _ _ ha) rfl ⟨Nat.zero_le _, fun L2 hL2 => ?_⟩
      have s4 := same_upd (o := .lst []) hL2
      have f4 : upd H3 L2 (.lst []) L2 = some (.lst []) := upd_same
      generalize upd H3 L2 (.lst []) = H4 at s4 f4 ⊢
      have s14 := s13.trans s4
      refine ⟨_, s14 _ _ ha, z1, fun p5 hp5 => ?_⟩
      have s5 := same_upd (o := .tup [f']) hp5
      have f5 : upd H4 p5 (.tup [f']) p5 = some (.tup [f']) := upd_same
      generalize upd H4 p5 (.tup [f']) = H5 at s5 f5 ⊢
      have s15 := s14.trans s5
      refine ⟨_, s15 _ _ ha, p5, u, [f'], as, rfl, rfl, f5, s15 _ _ hu', (fun z => nomatch z), by rw [sizeLine_eq]; show 1 + as.length ≤ _; omega, fun p6 H6 s6 hp6 => ?_⟩
      have n6 : p6 ≠ L2 := kind_ne hp6 (s6 _ _ (s5 _ _ f4)) (fun z => nomatch z)
      refine ⟨p6, rfl, ⟨_, SqT.of hp6⟩, words_loop (t := .call) (b := []) kd (Nat.zero_le _) hsz (s15.trans s6) (s13.free hL2) (s6 _ _ (s5 _ _ f4)) Al.nil hp6 n6 hal ?_⟩
      rintro σ H' ⟨⟨v, rfl⟩, sH, xs, hLe, hxs⟩
      rw [List.take_length] at hxs
      exact q _ L2 xs sH (s13.free hL2) hLe (by rw [pre_eq]; exact hxs)
    | pick =>
      obtain ⟨x, y, z, rfl, ha⟩ := hat
      refine ify_ne rfl ha rfl rfl ⟨a, _, _, rfl, ha, rfl, rfl, false, rfl, iteF ⟨a, _, _, rfl, ha, rfl, rfl, false, rfl, iteF ?_⟩⟩
      refine ify_ne rfl ha rfl rfl ⟨_, ha, z2, fun t1 ht1 => ?_⟩
      have s1 := same_upd (o := .tup [.str "form", .str "pick"]) ht1
      have f1 : upd H t1 (.tup [.str "form", .str "pick"]) t1 = some (.tup [.str "form", .str "pick"]) := upd_same
      generalize upd H t1 (.tup [.str "form", .str "pick"]) = H1 at s1 f1 ⊢
      refine ⟨z1, fun L hL => ?_⟩
      have s2 := same_upd (o := .lst [.ref t1]) hL
      have f2 : upd H1 L (.lst [.ref t1]) L = some (.lst [.ref t1]) := upd_same
      generalize upd H1 L (.lst [.ref t1]) = H2 at s2 f2 ⊢
      have s12 := s1.trans s2
      refine ⟨_, rfl, a, _, rfl, SqT.of (s12 _ _ ha), cut_no _ _, fun p2 hp2 => ?_⟩
      rw [cut_tail]
      have s3 := same_upd (o := .tup [x, y, z]) hp2
      have f3 : upd H2 p2 (.tup [x, y, z]) p2 = some (.tup [x, y, z]) := upd_same
      generalize upd H2 p2 (.tup [x, y, z]) = H3 at s3 f3 ⊢
      have s13 := s12.trans s3
      refine ify_ne rfl (s13 _ _ ha) rfl rfl ?_
      have n2 : p2 ≠ L := kind_ne f3 (s3 _ _ f2) (fun z => nomatch z)
      refine ⟨p2, rfl, ⟨_, SqT.of f3⟩, words_loop (t := .pick) (b := [.form "pick"]) kd (Nat.le_refl _) hsz s13 (s1.free hL) (s3 _ _ f2) (Al.one ⟨t1, rfl, (s2.trans s3) _ _ f1⟩) f3 n2 hal ?_⟩
      rintro σ H' ⟨⟨v, rfl⟩, sH, xs, hLe, hxs⟩
      rw [List.take_length] at hxs
      exact q _ L xs sH (s1.free hL) hLe (by rw [pre_eq]; exact hxs)
    | now =>
      obtain ⟨x, rfl, ha⟩ := hat
      refine ify_ne rfl ha rfl rfl ⟨a, _, _, rfl, ha, rfl, rfl, false, rfl, iteF ⟨a, _, _, rfl, ha, rfl, rfl, false, rfl, iteF ?_⟩⟩
      refine ify_ne rfl ha rfl rfl ⟨_, ha, z2, fun t1 ht1 => ?_⟩
      have s1 := same_upd (o := .tup [.str "form", .str "now"]) ht1
      have f1 : upd H t1 (.tup [.str "form", .str "now"]) t1 = some (.tup [.str "form", .str "now"]) := upd_same
      generalize upd H t1 (.tup [.str "form", .str "now"]) = H1 at s1 f1 ⊢
      refine ⟨z1, fun L hL => ?_⟩
      have s2 := same_upd (o := .lst [.ref t1]) hL
      have f2 : upd H1 L (.lst [.ref t1]) L = some (.lst [.ref t1]) := upd_same
      generalize upd H1 L (.lst [.ref t1]) = H2 at s2 f2 ⊢
      have s12 := s1.trans s2
      refine ⟨_, rfl, a, _, rfl, SqT.of (s12 _ _ ha), cut_no _ _, fun p2 hp2 => ?_⟩
      rw [cut_tail]
      have s3 := same_upd (o := .tup [x]) hp2
      have f3 : upd H2 p2 (.tup [x]) p2 = some (.tup [x]) := upd_same
      generalize upd H2 p2 (.tup [x]) = H3 at s3 f3 ⊢
      have s13 := s12.trans s3
      refine ify_ne rfl (s13 _ _ ha) rfl rfl ?_
      have n2 : p2 ≠ L := kind_ne f3 (s3 _ _ f2) (fun z => nomatch z)
      refine ⟨p2, rfl, ⟨_, SqT.of f3⟩, words_loop (t := .now) (b := [.form "now"]) kd (Nat.le_refl _) hsz s13 (s1.free hL) (s3 _ _ f2) (Al.one ⟨t1, rfl, (s2.trans s3) _ _ f1⟩) f3 n2 hal ?_⟩
      rintro σ H' ⟨⟨v, rfl⟩, sH, xs, hLe, hxs⟩
      rw [List.take_length] at hxs
      exact q _ L xs sH (s1.free hL) hLe (by rw [pre_eq]; exact hxs)
theorem ok_words {f : Addr} {fd : FuncData} (F : Fun K "_law_words" "_law_words" sWords f fd) (bW : Binds K fd ["_law_core_here"] []) (mW : mg "_law_words" = some (.ref f)) : ∀ d, FnOk P w K mg base CX0 (d + 1) f fd ["_law_core_here"] (spWords d)
  | 0 => words_step (k := 0) (spW := spNo) F bW mW fn_no (fun e h => by omega)
  | d + 1 => words_step (k := d + 1) (spW := spWords d) F bW mW (ok_words F bW mW d) (fun e h => by rw [Nat.add_right_cancel h])
end
end K72

set_option Elab.async false
set_option linter.all false
set_option maxRecDepth 100000
set_option maxHeartbeats 4000000
/-! k72: the first name that may; what fits. Own work. -/
namespace K72
open PySem L2 Builtin.Str
def spFirst : Sp := fun vs H Q _ => ∃ (nm : Str) (tk : Addr) (kk : List (Key × V)) (U : Str → Prop) (m : Int), vs = [.str nm, .ref tk, .str (nbn nm m)] ∧ H tk = some (.dK kk) ∧ Ks kk U ∧ Lst U nm m ∧ m ≤ 300000 ∧ nm.length ≤ 100 ∧ Q (.bl true) H
/-- the numbers tried -/
def FiW (v1 v2 : Option V) (nm : Str) (m : Int) (H : Hp) (k : Nat) (σ : St) (H' : Hp) : Prop := H' = H ∧ ∃ j : Int, 1 ≤ j ∧ j + (k : Int) = m ∧ σ = [some (.str nm), v1, v2, some (.int j), some (.str (nbn nm j))]
def FiN (v1 v2 : Option V) (nm : Str) (m : Int) (H : Hp) (n : Nat) (σ : St) (H' : Hp) : Prop := ∃ k, k < n ∧ FiW v1 v2 nm m H k σ H'
theorem nbn_next {nm : Str} {j : Int} (h : 1 ≤ j) : nbn nm (j + 1) = nm ++ Str.ofString (toString (j + 1)) := by
  unfold nbn
  rw [if_neg (by omega)]
section
variable {P : Program} {w : World} {K : PySem.W.Frag} {mg : Str → Option Value} {base : Heap}
abbrev NFi : List Str := ["_law_name", "_law_taken", "_law_found", "_law_number", "_law_other"]
theorem scFi : FnScope NFi ["_law_name", "_law_taken", "_law_found"] (defScope sFirst) := ⟨rfl, rfl, rfl, by decide +kernel, rfl, by decide +kernel, by decide +kernel⟩
theorem ok_first {f : Addr} {fd : FuncData} (F : Fun K "_law_first" "_law_first" sFirst f fd) (T : Txt mg) : FnOk P w K mg base CX0 1 f fd ["_law_name", "_law_taken", "_law_found"] spFirst := by
  refine F.ok scFi (fun vs H Q E h => ?_) (fun cdv A outer s H vs Q E hr h => ?_)
  · obtain ⟨nm, tk, kk, U, m, rfl, _⟩ := h; rfl
  · obtain ⟨nm, tk, kk, U, m, rfl, htk, hK, hL, hm, hnm, q⟩ := h
    have nd := scFi.nd
    have hu := hu_of hr
    have no : ∀ x : Str, ¬ U x → valV kk (.inr x) = none := fun x hx => by
      cases e : valV kk (.inr x) with
      | none => rfl
      | some v => exact absurd ((hK x).mp (by rw [e]; rfl)) hx
    have yes : ∀ x : Str, U x → ∃ v, valV kk (.inr x) = some v := fun x hx => Option.isSome_iff_exists.mp ((hK x).mpr hx)
    obtain ⟨h1, h2, h3⟩ := id hL
    refine ⟨_, pss_cons (ps_if (PW.pt (pw_or (pt_not (pt_val (pe_callB call_isI (by rfl) T.isi bt_isinstance (pa_cons (pw 2) (pa_cons (pe_bltn (v := .ty "str") (by rfl) T.str bt_str rfl) pa_nil))))) (pw_or1 (pt_cmp (pc_din hu (pw 2) (pw 1))))))
      (pss_one (ps_ret pe_bl))
      pss_nil)
      (pss_cons (ps_set (i := 3) nd rfl (Or.inl rfl) pe_int)
      (pss_cons (ps_set (i := 4) nd rfl (Or.inl rfl) (pw 0))
      (pss_cons (ps_while PassesOwn.never (pt_cmpR op_ne (pv 4) (pw 2) (nomark _))
      (pss_cons (ps_if (pt_cmp (pc_dnotin hu (pw 4) (pw 1)))
        (pss_one (ps_ret pe_bl))
        pss_nil)
        (pss_cons (ps_set (i := 3) nd rfl (Or.inl rfl) (pe_op op_addW (pw 3) pe_int))
        (pss_one (ps_set (i := 4) nd rfl (Or.inl rfl) (pe_op op_add_str (pw 0) (pe_callTy call_str_int (by rfl) T.str bt_str (pa_cons (pw 3) pa_nil))))))))
      (pss_one (ps_ret pe_bl))))), ?_⟩
    have g0 := DGet.k (k := (.inr (nbn nm m) : Key)) htk
    rw [no _ h2] at g0
    refine ⟨.str (nbn nm m), .ty "str", _, _, true, rfl, rfl, TyOf.str _, rfl, ⟨_, rfl, iteF ?_⟩⟩
    refine ⟨tk, _, rfl, g0, false, rfl, iteF ?_⟩
    refine ⟨FiW (some (.ref tk)) (some (.str (nbn nm m))) nm m H, ⟨(m - 1).toNat, rfl, 1, by omega, by omega, rfl⟩, ?_⟩
    rintro k σ H' ⟨rfl, j, hj1, hjk, rfl⟩
    refine ⟨_, rfl, rfl, !decide (nbn nm j = nbn nm m), congrArg V.bl (by rw [decide_eq_decide.mpr (show V.str (nbn nm j) = V.str (nbn nm m) ↔ nbn nm j = nbn nm m from ⟨fun e => by injection e, fun e => by rw [e]⟩)]), ite2 (fun c1 => ?_) (fun c1 => ?_)⟩
    · have hne : nbn nm j ≠ nbn nm m := fun e => by rw [decide_eq_true e] at c1; exact nomatch c1
      have hlt : j < m := by
        rcases Int.lt_or_eq_of_le (show j ≤ m by omega) with g | g
        · exact g
        · exact absurd (by rw [g]) hne
      obtain ⟨v, ev⟩ := yes _ (h3 j hj1 hlt)
      have g1 := DGet.k (k := (.inr (nbn nm j) : Key)) htk
      rw [ev] at g1
      refine ⟨FiN (some (.ref tk)) (some (.str (nbn nm m))) nm m H' k, (fun σ' H3 h => h), ?_⟩
      refine ⟨tk, _, rfl, g1, false, rfl, iteF ?_⟩
      have hlen : (Str.ofString (toString (j + 1))).length ≤ 400000 := by
        have := nbn_len nm (m := j + 1) (by omega)
        rw [nbn_next hj1, Str.length_append] at this
        omega
      refine ⟨_, rfl, log_small (by omega) (by omega), _, _, rfl, rfl, by rw [sizeLine_eq]; show nm.length + (Str.ofString (toString (j + 1))).length ≤ _; omega, ?_⟩
      exact ⟨(m - (j + 1)).toNat, by omega, rfl, j + 1, by omega, by omega, by rw [nbn_next hj1]; rfl⟩
    · exact q
end
end K72

set_option Elab.async false
set_option linter.all false
set_option maxRecDepth 100000
set_option maxHeartbeats 4000000
/-! k72: what fits. Own work. -/
namespace K72
open PySem L2 Builtin.Str
/-- what a word takes -/
def tk (kF : List (Key × V)) (told : Int → Prop) : Wo → Str → Prop
  | .free n, x => x = n
  | .form s, x => x = s
  | .seen p, x => ¬ told p ∧ vN kF p = some (.str x)
def tks (kF : List (Key × V)) (told : Int → Prop) (os : List Wo) (x : Str) : Prop := ∃ o ∈ os, tk kF told o x
theorem tks_step {kF : List (Key × V)} {told : Int → Prop} {os : List Wo} {i : Nat} {o : Wo} (h : os[i]? = some o) (x : Str) : tks kF told (os.take (i + 1)) x ↔ tk kF told o x ∨ tks kF told (os.take i) x := by
  unfold tks
  rw [List.take_succ, h]
  constructor
  · rintro ⟨o', ho, hx⟩
    rcases List.mem_append.mp ho with ho | ho
    · exact .inr ⟨o', ho, hx⟩
    · have : o' = o := by simpa using ho
      subst this; exact .inl hx
  · rintro (hx | ⟨o', ho, hx⟩)
    · exact ⟨o, by simp, hx⟩
    · exact ⟨o', List.mem_append_left _ ho, hx⟩
/-- a name for each, the ones ahead taken -/
def TU (U0 : Str → Prop) (r : List (Int × Str)) (x : Str) : Prop := U0 x ∨ ∃ y ∈ r, x = y.2
theorem NT.tu {U0 : Str → Prop} {ps r : List (Int × Str)} {U : Str → Prop} (h : NT U0 ps r U) : ∀ x, U x ↔ TU U0 r x := by
  induction h with
  | nil => exact fun x => ⟨.inl, fun z => z.elim id fun ⟨y, hy, _⟩ => nomatch hy⟩
  | snoc h hm ih =>
    intro x
    constructor
    · rintro (e | h)
      · exact .inr ⟨_, List.mem_append_right _ (List.mem_singleton.mpr rfl), e⟩
      · rcases (ih x).mp h with h | ⟨y, hy, e⟩
        · exact .inl h
        · exact .inr ⟨y, List.mem_append_left _ hy, e⟩
    · rintro (h | ⟨y, hy, e⟩)
      · exact .inr ((ih x).mpr (.inl h))
      · rcases List.mem_append.mp hy with hy | hy
        · exact .inr ((ih x).mpr (.inr ⟨y, hy, e⟩))
        · rw [List.mem_singleton.mp hy] at e
          exact .inl e
theorem Lst.iff {U U' : Str → Prop} (e : ∀ x, U x ↔ U' x) {n : Str} {m : Int} (h : Lst U n m) : Lst U' n m := ⟨h.1, fun z => h.2.1 ((e _).mpr z), fun j a b => (e _).mp (h.2.2 j a b)⟩
theorem NT.len2 {U0 : Str → Prop} {ps r : List (Int × Str)} {U : Str → Prop} (h : NT U0 ps r U) : r.length = ps.length := by
  have := congrArg List.length h.fst
  rwa [List.length_map, List.length_map] at this
theorem NT.nth {U0 : Str → Prop} {ps r : List (Int × Str)} {U : Str → Prop} (h : NT U0 ps r U) : ∀ (i : Nat) (p : Int) (n : Str), ps[i]? = some (p, n) → ∃ m, Lst (TU U0 (r.take i)) n m ∧ r[i]? = some (p, nbn n m) := by
  induction h with
  | nil => exact fun i p n e => by simp at e
  | @snoc ps r U p0 n0 m0 h hm ih =>
    intro i p n e
    have hl := h.len2
    by_cases hi : i < ps.length
    · rw [List.getElem?_append_left hi] at e
      obtain ⟨m, h1, h2⟩ := ih i p n e
      refine ⟨m, ?_, by rw [List.getElem?_append_left (by omega)]; exact h2⟩
      rw [List.take_append_of_le_length (by omega)]
      exact h1
    · have hi2 : i = ps.length := by
        have := (List.getElem?_eq_some_iff.mp e).1
        rw [List.length_append, List.length_singleton] at this
        omega
      subst hi2
      rw [List.getElem?_append_right (Nat.le_refl _), Nat.sub_self] at e
      cases e
      refine ⟨m0, ?_, by rw [← hl, List.getElem?_append_right (Nat.le_refl _), Nat.sub_self]; rfl⟩
      rw [← hl, List.take_left]
      exact hm.iff h.tu
def spFits (d : Nat) : Sp := fun vs H Q _ => ∃ (pl dn dt : Addr) (v : V) (c : Co) (pvs : List V) (ps r : List (Int × Str)) (U : Str → Prop) (kF kt : List (Key × V)) (told : Int → Prop), vs = [.ref pl, v, .ref dn, .ref dt] ∧
  H pl = some (.tup pvs) ∧ Al (PaIn H) ps pvs ∧ CoIn H c v ∧ dp c ≤ d ∧ sz c ≤ 100010 ∧ (∀ e ∈ pre c, e.ks.length ≤ 1000) ∧ H dn = some (.dK kF) ∧ H dt = some (.dK kt) ∧ (∀ p, (valV kt (.inl (some p))).isSome = true ↔ told p) ∧
  (∀ p, Wo.seen p ∈ wos (pre c) → ¬ told p → ∃ n : Str, vN kF p = some (.str n)) ∧ NT (tks kF told (wos (pre c))) ps r U ∧ (∀ x ∈ r, vN kF x.1 = some (.str x.2)) ∧ ps.length ≤ 1000 ∧ (∀ x ∈ ps, x.2.length ≤ 100) ∧ ∀ H', Same H H' → Q (.bl true) H'
/-- the words read: their state -/
def FtW (pl dn dt D : Addr) (v : V) (kF : List (Key × V)) (told : Int → Prop) (os : List Wo) (H : Hp) (i : Nat) (σ : St) (H' : Hp) : Prop := (∃ v5, σ = [some (.ref pl), some v, some (.ref dn), some (.ref dt), some (.ref D), v5, none, none]) ∧ (∀ a o, a ≠ D → H a = some o → H' a = some o) ∧ ∃ kk, H' D = some (.dK kk) ∧ Ks kk (tks kF told (os.take i)) ∧ kk.length ≤ i
/-- the names held against it: their state -/
def FtP (pl dn dt D : Addr) (v : V) (U0 : Str → Prop) (n0 : Nat) (r : List (Int × Str)) (H : Hp) (i : Nat) (σ : St) (H' : Hp) : Prop := (∃ v5 v6 v7, σ = [some (.ref pl), some v, some (.ref dn), some (.ref dt), some (.ref D), v5, v6, v7]) ∧ (∀ a o, a ≠ D → H a = some o → H' a = some o) ∧ ∃ kk, H' D = some (.dK kk) ∧ Ks kk (TU U0 (r.take i)) ∧ kk.length ≤ n0 + i
section
variable {P : Program} {w : World} {K : PySem.W.Frag} {mg : Str → Option Value} {base : Heap}
abbrev NFt : List Str := ["_law_params_here", "_law_body", "_law_names", "_law_told_in", "_law_taken", "_law_word", "_law_place", "_law_name"]
abbrev pFt : List Str := ["_law_params_here", "_law_body", "_law_names", "_law_told_in"]
theorem scFt : FnScope NFt pFt (defScope sFits) := ⟨rfl, rfl, rfl, by decide +kernel, rfl, by decide +kernel, by decide +kernel⟩
theorem ok_fits {f fW fF : Addr} {fd fdW fdF : FuncData} (F : Fun K "_law_fits" "_law_fits" sFits f fd) (T : Txt mg)
    (FW : Fun K "_law_words" "_law_words" sWords fW fdW) (bW : Binds K fdW ["_law_core_here"] []) (mW : mg "_law_words" = some (.ref fW))
    (FF : Fun K "_law_first" "_law_first" sFirst fF fdF) (bF : Binds K fdF ["_law_name", "_law_taken", "_law_found"] []) (mF : mg "_law_first" = some (.ref fF)) (d : Nat) : FnOk P w K mg base CX0 (d + 2) f fd pFt (spFits d) := by
  have GW : FnOk P w K mg base CX0 (d + 1) fW fdW ["_law_core_here"] (spWords d) := ok_words FW bW mW d
  have GF : FnOk P w K mg base CX0 (d + 1) fF fdF ["_law_name", "_law_taken", "_law_found"] spFirst := (ok_first FF T).mono (by omega)
  refine F.ok scFt (fun vs H Q E h => ?_) (fun cdv A outer s H vs Q E hr h => ?_)
  · obtain ⟨pl, dn, dt, v, c, pvs, ps, r, U, kF, kt, told, rfl, _⟩ := h; rfl
  · obtain ⟨pl, dn, dt, v, c, pvs, ps, r, U, kF, kt, told, rfl, hpl, hps, hc, hdp, hsz, hkl, hdn, hdt, htold, hseen, hNT, hr2, hpsl, hpsn, q⟩ := h
    have nd := scFt.nd
    have hu := hu_of hr
    refine ⟨_, pss_cons (ps_set (i := 4) nd rfl (Or.inl rfl) pe_dnewK)
      (pss_cons (ps_for PassesOwn.never rfl (pi_list (pe_call GW hr (by rfl) mW FW.kp bW .nil pass0 (pa_cons (pw 1) pa_nil))) (pg_name (i := 5) nd rfl (Or.inl rfl))
      (pss_one (ps_if (pt_cmpR op_ne (pe_ixT 5) pe_str (nomark _))
        (pss_one (ps_dput hu (pw 4) (pe_iwT 5) pe_bl rfl))
        (pss_one (ps_if (pt_cmp (pc_dnotin hu (pe_iwT 5) (pw 3)))
          (pss_one (ps_dput hu (pw 4) (pe_dget hu (pw 2) (pe_iwT 5) (fun _ _ => rfl)) pe_bl rfl))
          pss_nil)))))
      (pss_cons (ps_for PassesOwn.never rfl (pi_tup (pw 0)) (pg_tup rfl (pgs_cons (pg_name (i := 6) nd rfl (Or.inl rfl)) (pgs_cons (pg_name (i := 7) nd rfl (Or.inl rfl)) pgs_nil)))
      (pss_cons (ps_if (pt_not (pt_val (pe_call GF hr (by rfl) mF FF.kp bF .nil pass0 (pa_cons (pw 7) (pa_cons (pw 4) (pa_cons (pe_dget hu (pw 2) (pw 6) (fun _ _ => rfl)) pa_nil))))))
        (pss_one (ps_ret pe_bl))
        pss_nil)
        (pss_one (ps_dput hu (pw 4) (pe_dget hu (pw 2) (pw 6) (fun _ _ => rfl)) pe_bl rfl))))
      (pss_one (ps_ret pe_bl)))), ?_⟩
    intro D hD
    have s1 := same_upd (o := .dK []) hD
    have f1 : upd H D (.dK []) D = some (.dK []) := upd_same
    generalize upd H D (.dK []) = H1 at s1 f1 ⊢
    refine ⟨v, c, rfl, hc.tup (Tup.of s1), hdp, hsz, hkl, fun H2 L xs s2 hLn hL hxs => ?_⟩
    have s12 := s1.trans s2
    have hD2 := s2 _ _ f1
    have nLD : L ≠ D := Ne.symm (ne_of_none f1 hLn)
    have ndn : dn ≠ D := ne_of_none hdn hD
    have ndt : dt ≠ D := ne_of_none hdt hD
    have npl : pl ≠ D := ne_of_none hpl hD
    have hwl := wos_len (pre c)
    rw [pre_len] at hwl
    refine ⟨L, rfl, ⟨_, SqL.of hL⟩, for_list (xs := xs) (FtW pl dn dt D v kF told (wos (pre c)) H2) ⟨⟨_, rfl⟩, fun a o _ e => e, [], hD2, Ks.nil.iff (fun x => ⟨False.elim, fun ⟨o, ho, _⟩ => nomatch ho⟩), Nat.le_refl _⟩ (fun i σ H' _ hP => SqL.of (hP.2.1 _ _ nLD hL)) ?_ ?_⟩
    · rintro i x σ H' hx ⟨⟨v5, rfl⟩, kH, kk, hDk, hKs, hkk⟩
      obtain ⟨o, eo, ho⟩ := hxs.at hx
      have hil : i < (wos (pre c)).length := (List.getElem?_eq_some_iff.mp eo).1
      have tH : Tup H2 H' := fun a zs e => kH a _ (kind_ne e hD2 (fun z => nomatch z)) e
      have ho' := ho.tup tH
      -- a name put
      have fin : ∀ (y : Str), (∀ x, tk kF told o x ↔ x = y) → FtW pl dn dt D v kF told (wos (pre c)) H2 (i + 1) [some (.ref pl), some v, some (.ref dn), some (.ref dt), some (.ref D), some x, none, none] (upd H' D (.dK (putK kk (.inr y) (.bl true)))) := fun y hy => by
        refine ⟨⟨_, rfl⟩, fun a o' n e => ?_, _, upd_same, (hKs.put y (.bl true)).iff (fun x => ?_), ?_⟩
        · rw [upd_ne n]; exact kH _ _ n e
        · rw [tks_step eo, hy]
        · have := length_putK kk (.inr y) (.bl true); omega
      have hz : kk.length < sizeLine := by rw [sizeLine_eq]; omega
      cases o with
      | free n =>
        obtain ⟨t, rfl, ht⟩ := ho'
        refine ⟨t, _, _, rfl, ht, rfl, rfl, true, rfl, iteT ?_⟩
        exact ⟨_, ht, D, _, rfl, DPut.k (k := .inr n) hDk hz, fin n fun x => Iff.rfl⟩
      | form n =>
        obtain ⟨t, rfl, ht⟩ := ho'
        refine ⟨t, _, _, rfl, ht, rfl, rfl, true, rfl, iteT ?_⟩
        exact ⟨_, ht, D, _, rfl, DPut.k (k := .inr n) hDk hz, fin n fun x => Iff.rfl⟩
      | seen p =>
        obtain ⟨t, rfl, ht⟩ := ho'
        have hdt' := kH _ _ ndt (s12 _ _ hdt)
        have hdn' := kH _ _ ndn (s12 _ _ hdn)
        refine ⟨t, _, _, rfl, ht, rfl, rfl, false, rfl, iteF ?_⟩
        by_cases hp : told p
        · obtain ⟨u, eu⟩ := Option.isSome_iff_exists.mp ((htold p).mpr hp)
          have g := DGet.k (k := (.inl (some p) : Key)) hdt'
          rw [eu] at g
          refine ⟨_, ht, dt, _, rfl, g, false, rfl, iteF ?_⟩
          refine ⟨⟨_, rfl⟩, kH, kk, hDk, hKs.iff (fun x => ?_), by omega⟩
          rw [tks_step eo]
          exact ⟨.inr, fun z => z.elim (fun z => absurd hp z.1) id⟩
        · have en : valV kt (.inl (some p)) = none := by
            cases e : valV kt (.inl (some p)) with
            | none => rfl
            | some u => exact absurd ((htold p).mp (by rw [e]; rfl)) hp
          have g := DGet.k (k := (.inl (some p) : Key)) hdt'
          rw [en] at g
          obtain ⟨n, hn⟩ := hseen p (List.mem_of_getElem? eo) hp
          have g2 := DGet.k (k := (.inl (some p) : Key)) hdn'
          rw [show valV kF (.inl (some p)) = some (.str n) from hn] at g2
          refine ⟨_, ht, dt, _, rfl, g, true, rfl, iteT ?_⟩
          refine ⟨_, ht, dn, _, rfl, g2, D, _, rfl, DPut.k (k := .inr n) hDk hz, fin n fun x => ⟨fun z => ?_, fun z => ⟨hp, by rw [z]; exact hn⟩⟩⟩
          have := z.2.symm.trans hn
          injection this with this
          injection this
    · rintro σ H' ⟨⟨v5, rfl⟩, kH, kk, hDk, hKs, hkk⟩
      rw [hxs.1, List.take_length] at hKs
      rw [hxs.1] at hkk
      have hpl' := kH _ _ npl (s12 _ _ hpl)
      have tH : Tup H H' := fun a zs e => kH a _ (ne_of_none e hD) (s12 _ _ e)
      refine ⟨pl, rfl, ⟨_, SqT.of hpl'⟩, for_tup (K := K) (a := pl) (xs := pvs) (FtP pl dn dt D v (tks kF told (wos (pre c))) (wos (pre c)).length r H') ⟨⟨_, _, _, rfl⟩, fun a o _ e => e, kk, hDk, hKs.iff (fun x => ⟨.inl, fun z => z.elim id fun ⟨y, hy, _⟩ => nomatch hy⟩), by omega⟩ (fun i σ H3 _ hP => SqT.of (hP.2.1 _ _ npl hpl')) ?_ ?_⟩
      · rintro i x σ H3 hx ⟨⟨w5, w6, w7, rfl⟩, kH3, k3, hDk3, hKs3, hkk3⟩
        obtain ⟨⟨p, n⟩, ep, t, rfl, ht⟩ := hps.at hx
        have hip : i < ps.length := (List.getElem?_eq_some_iff.mp ep).1
        have ht3 := kH3 _ _ (kind_ne (tH _ _ ht) hDk (fun z => nomatch z)) (tH _ _ ht)
        obtain ⟨m, hL1, er⟩ := hNT.nth i p n ep
        have hv := hr2 _ (List.mem_of_getElem? er)
        have hdn3 := kH3 _ _ ndn (kH _ _ ndn (s12 _ _ hdn))
        have g := DGet.k (k := (.inl (some p) : Key)) hdn3
        rw [show valV kF (.inl (some p)) = some (.str (nbn n m)) from hv] at g
        have hmb := bound_of hKs3 hL1.2.2
        refine ⟨t, _, rfl, SqT.of ht3, rfl, _, _, rfl, _, _, rfl, rfl, ?_⟩
        refine ⟨dn, _, rfl, g, n, D, k3, _, m, rfl, hDk3, hKs3, hL1, by omega, hpsn _ (List.mem_of_getElem? ep), ⟨_, rfl, iteF ?_⟩⟩
        refine ⟨dn, _, rfl, g, D, _, rfl, DPut.k (k := .inr (nbn n m)) hDk3 (by rw [sizeLine_eq]; omega), ?_⟩
        refine ⟨⟨_, _, _, rfl⟩, fun a o n e => ?_, _, upd_same, (hKs3.put (nbn n m) (.bl true)).iff (fun x => ?_), ?_⟩
        · rw [upd_ne n]; exact kH3 _ _ n e
        · unfold TU
          rw [List.take_succ, er]
          constructor
          · rintro (e | e | ⟨y, hy, e⟩)
            · exact .inr ⟨(p, nbn n m), by simp, e⟩
            · exact .inl e
            · exact .inr ⟨y, List.mem_append_left _ hy, e⟩
          · rintro (e | ⟨y, hy, e⟩)
            · exact .inr (.inl e)
            · rcases List.mem_append.mp hy with hy | hy
              · exact .inr (.inr ⟨y, hy, e⟩)
              · have : y = (p, nbn n m) := by simpa using hy
                subst this; exact .inl e
        · have := length_putK k3 (.inr (nbn n m)) (.bl true); omega
      · rintro σ H3 ⟨⟨w5, w6, w7, rfl⟩, kH3, _⟩
        exact q _ fun a o e => kH3 _ _ (ne_of_none e hD) (kH _ _ (ne_of_none e hD) (s12 _ _ e))
end
end K72

set_option Elab.async false
set_option linter.all false
set_option maxRecDepth 100000
set_option maxHeartbeats 4000000
/-! k72: what is good. Own work. -/
namespace K72
open PySem L2 Builtin.Str
/-- the places that are told -/
def Tl (kt : List (Key × V)) (ps : List Int) : Prop := ∀ p : Int, (valV kt (.inl (some p))).isSome = true ↔ p ∈ ps
theorem Tl.nil : Tl [] [] := fun p => by rw [valV_nil]; simp
theorem Tl.put {kt : List (Key × V)} {ps : List Int} (h : Tl kt ps) (x : Int) (v : V) : Tl (putK kt (.inl (some x)) v) (ps ++ [x]) := fun p => by
  rw [valV_put]
  by_cases e : p = x
  · subst e; simp
  · rw [if_neg (fun z => e (Option.some.inj (Sum.inl.inj z))), h p]
    simp [e]
/-- a fn's names are the first that may -/
def FitsOk (kF : List (Key × V)) (ps : List (Int × Str)) (b : Co) (told : Int → Prop) : Prop := ∃ (r : List (Int × Str)) (U : Str → Prop), NT (tks kF told (wos (pre b))) ps r U ∧ (∀ x ∈ r, vN kF x.1 = some (.str x.2)) ∧ ∀ p, Wo.seen p ∈ wos (pre b) → ¬ told p → ∃ n : Str, vN kF p = some (.str n)
def FnFit (kF : List (Key × V)) (c : Co) : Prop := ∀ ps b, Co.mk (.fn ps) [b] ∈ pre c → FitsOk kF ps b (fun p => p ∈ plc (pre (.mk (.fn ps) [b]))) ∧ ∀ x ∈ ps, x.2.length ≤ 100
theorem FnFit.kid {kF : List (Key × V)} {t : Tg} {ks : List Co} {k : Co} (h : FnFit kF (.mk t ks)) (hk : k ∈ ks) : FnFit kF k := fun ps b hb => h ps b (pre_mk.mpr (.inr ⟨k, hk, hb⟩))
def spGood (d : Nat) : Sp := fun vs H Q _ => ∃ (v : V) (c : Co) (dn : Addr) (kF : List (Key × V)), vs = [v, .ref dn] ∧ CoIn H c v ∧ dp c ≤ d ∧ Wd c ∧ sz c ≤ 100000 ∧ H dn = some (.dK kF) ∧ FnFit kF c ∧ ∀ H', Same H H' → Q (.bl true) H'
/-- all the parts are good: the gathering -/
def GdW (dn D : Addr) (p : Addr) (us : List V) (H : Hp) (k : Nat) (ys : List V) (σ : St) (H' : Hp) : Prop := (∃ v, σ = [none, some (.ref dn), none, none, v]) ∧ Same H H' ∧ H' p = some (.tup us) ∧ H' D = some (.lst ys) ∧ ys = (List.replicate k true).map V.bl
theorem good_all {K : PySem.W.Frag} {d : Nat} {ks : List Co} {us : List V} {dn p D : Addr} {H H1 : Hp} {kF : List (Key × V)} {Q : Hp → Prop} (hk : ∀ k ∈ ks, dp k ≤ d ∧ Wd k ∧ sz k ≤ 100000 ∧ FnFit kF k) (hl : ks.length ≤ 1000) (s1 : Same H H1) (hp : H1 p = some (.tup us)) (hal : Al (CoIn H) ks us) (hdn : H dn = some (.dK kF)) (hD : H1 D = none)
    (q : ∀ H', Same H H' → H' D = some (.lst ((List.replicate us.length true).map V.bl)) → Q H') :
    ∃ W : Nat → Nat → List V → St → Hp → Prop, (∃ m, W 0 m [] [none, some (.ref dn), none, none, none] (upd H1 D (.lst []))) ∧ lcTurn (Itt K p) D (gName 4) tYes (tCall (spGood d) [] E0 (tCons (tVw 4) (tCons (tVw 1) tNil))) Q W := by
  have hDn : H D = none := s1.free hD
  have pD : p ≠ D := ne_of_none hp hD
  refine lc_tpl (K := K) (a := p) (xs := us) (GdW dn D p us H) ⟨⟨_, rfl⟩, s1.trans (same_upd hD), same_upd hD _ _ hp, upd_same, rfl⟩ (fun k ys σ' H' _ hP => SqT.of hP.2.2.1) ?_ ?_
  · rintro k x ys σ' H' hx ⟨⟨v, rfl⟩, sH, hp', hDy, hys⟩
    unfold gName
    refine yes_if ?_
    have hkl := (List.getElem?_eq_some_iff.mp hx).1
    obtain ⟨kc, ekc, hkc⟩ := hal.at hx
    obtain ⟨k1, k2, k3, k4⟩ := hk kc (List.mem_of_getElem? ekc)
    have hkk : k < ks.length := (List.getElem?_eq_some_iff.mp ekc).1
    refine ⟨x, kc, dn, kF, rfl, hkc.tup (Tup.of sH), k1, k2, k3, sH _ _ hdn, k4, fun H2 s2 => ?_⟩
    refine ⟨s2 _ _ hDy, by rw [hys, List.length_map, List.length_replicate, sizeLine_eq]; omega, Beh.of hkl ⟨⟨_, rfl⟩, fun e o qe => ?_, ?_, upd_same, by rw [hys, List.replicate_succ', List.map_append]; rfl⟩⟩
    · rw [upd_ne (ne_of_none qe hDn)]; exact s2 _ _ (sH _ _ qe)
    · rw [upd_ne pD]; exact s2 _ _ hp'
  · rintro ys σ' H' ⟨_, sH, _, hDy, hys⟩
    exact q _ sH (by rw [hDy, hys])
/-- the places told: their state -/
def GtW (v0 v1 : Option V) (D : Addr) (ps : List Int) (H : Hp) (i : Nat) (σ : St) (H' : Hp) : Prop := (∃ v, σ = [v0, v1, some (.ref D), v]) ∧ (∀ a o, a ≠ D → H a = some o → H' a = some o) ∧ ∃ kt, H' D = some (.dK kt) ∧ Tl kt (ps.take i) ∧ kt.length ≤ i
section
variable {P : Program} {w : World} {K : PySem.W.Frag} {mg : Str → Option Value} {base : Heap}
abbrev NGo : List Str := ["_law_core_here", "_law_names", "_law_inner", "_law_place"]
abbrev pGo : List Str := ["_law_core_here", "_law_names"]
theorem scGo : FnScope NGo pGo (defScope sGood) := ⟨rfl, rfl, rfl, by decide +kernel, rfl, by decide +kernel, by decide +kernel⟩
theorem lcGo1 : LcS (defScope sGood).names [(".0", .local), ("_law_part", .local), ("_law_good", .globalImplicit), ("_law_names", .free)] NGo [false, true, false, false] := ⟨by decide +kernel, by decide +kernel, by decide +kernel, by decide +kernel, by decide +kernel, rfl⟩
theorem ndGo1 : (["_law_core_here", "_law_names", "_law_inner", "_law_place", "_law_part"] : List Str).Nodup := by decide +kernel
theorem good_step {k d : Nat} {spG : Sp} {f fP fT : Addr} {fd fdP fdT : FuncData} (F : Fun K "_law_good" "_law_good" sGood f fd) (T : Txt mg) (bG : Binds K fd pGo []) (mG : mg "_law_good" = some (.ref f))
    (kP : PySem.W.keepIn K (.ref fP) = true) (bP : Binds K fdP ["_law_core_here"] []) (mP : mg "_law_places" = some (.ref fP)) (GP : FnOk P w K mg base CX0 k fP fdP ["_law_core_here"] (spPlaces d))
    (kT : PySem.W.keepIn K (.ref fT) = true) (bT : Binds K fdT pFt []) (mT : mg "_law_fits" = some (.ref fT)) (GT : FnOk P w K mg base CX0 k fT fdT pFt (spFits d))
    (GG : FnOk P w K mg base CX0 k f fd pGo spG) (hG : ∀ e, d = e + 1 → spG = spGood e) : FnOk P w K mg base CX0 (k + 1) f fd pGo (spGood d) := by
  refine F.ok scGo (fun vs H Q E h => ?_) (fun cdv A outer s H vs Q E hr h => ?_)
  · obtain ⟨v, c, dn, kF, rfl, _⟩ := h; rfl
  · obtain ⟨v, c, dn, kF, rfl, hc, hdp, hwd, hsz, hdn, hfit, q⟩ := h
    have nd := scGo.nd
    have hu := hu_of hr
    have z1 : 1 ≤ sizeLine := by rw [sizeLine_eq]; decide
    obtain ⟨t, ks⟩ := c
    obtain ⟨a, us, rfl, hat, hal⟩ := id hc.cut
    have hdp' := hdp
    rw [dp_mk] at hdp'
    obtain ⟨d', rfl⟩ : ∃ d', d = d' + 1 := ⟨d - 1, by omega⟩
    have eG : spG = spGood d' := hG d' rfl
    subst eG
    have kd : ∀ k ∈ ks, dp k ≤ d' ∧ Wd k ∧ sz k ≤ 100000 ∧ FnFit kF k := fun k hk => ⟨by have := dp_kid hk; omega, hwd.kid hk, by have := sz_kid (t := t) hk; omega, hfit.kid hk⟩
    have hkl : ks.length ≤ 1000 := (hwd _ (pre_self _)).1
    refine ⟨_, pss_cons (ps_if (pt_cmpR op_eq (pe_ixT 0) pe_str (nomark _))
      (pss_cons (ps_set (i := 2) nd rfl (Or.inl rfl) pe_dnewK)
        (pss_cons (ps_for PassesOwn.never rfl (pi_list (pe_call GP hr (by rfl) mP kP bP .nil pass0 (pa_cons (pw 0) pa_nil))) (pg_name (i := 3) nd rfl (Or.inl rfl))
        (pss_one (ps_dput hu (pw 2) (pw 3) pe_bl rfl)))
        (pss_one (ps_ret (pe_and (pe_call GT hr (by rfl) mT kT bT .nil pass0 (pa_cons (pe_iwT 0) (pa_cons (pe_iwT 0) (pa_cons (pw 1) (pa_cons (pw 2) pa_nil))))) (pe_one (pe_call GG hr (by rfl) mG F.kp bG .nil pass0 (pa_cons (pe_iwT 0) (pa_cons (pw 1) pa_nil)))))))))
      pss_nil)
      (pss_cons (ps_if (pt_cmpR op_eq (pe_ixT 0) pe_str (nomark _))
      (pss_one (ps_ret (pe_callB (call_allB rfl) (by rfl) T.all bt_all (pa_cons (pe_lc (ext := ["_law_part"]) lcGo1 rfl (pi_tup (pe_op (op_catTA : OpR _ _ (rCatTA K)) (pe_tup (pa_cons (pe_iwT 0) pa_nil)) (pe_iwT 0)))
          ⟨fun _ _ _ _ _ => (pg_name (i := 4) ndGo1 rfl (Or.inl rfl) (.inr rfl)), fun _ _ _ _ _ => pts_nil, fun _ _ _ _ _ => (pe_call GG hr (by rfl) mG F.kp bG .nil pass0 (pa_cons (pw 4) (pa_cons (pw 1) pa_nil)))⟩) pa_nil))))
      pss_nil)
      (pss_cons (ps_if (PW.pt (pw_or (pt_cmpR op_eq (pe_ixT 0) pe_str (nomark _)) (pw_or1 (pt_cmpR op_eq (pe_ixT 0) pe_str (nomark _)))))
      (pss_one (ps_ret (pe_callB (call_allB rfl) (by rfl) T.all bt_all (pa_cons (pe_lc (ext := ["_law_part"]) lcGo1 rfl (pi_tup (pe_slice sl_tup (pw 0) (po_some pe_int) po_none))
          ⟨fun _ _ _ _ _ => (pg_name (i := 4) ndGo1 rfl (Or.inl rfl) (.inr rfl)), fun _ _ _ _ _ => pts_nil, fun _ _ _ _ _ => (pe_call GG hr (by rfl) mG F.kp bG .nil pass0 (pa_cons (pw 4) (pa_cons (pw 1) pa_nil)))⟩) pa_nil))))
      pss_nil)
      (pss_one (ps_ret pe_bl)))), ?_⟩
    have last : ∀ {D : Addr} {H' : Hp}, Same H H' → H' D = some (.lst ((List.replicate us.length true).map V.bl)) → ∃ (p : Addr) (bs : List Bool), [V.ref D] = [V.ref p] ∧ SqL K H' p (bs.map V.bl) ∧ Q (.bl (bs.all id)) H' := fun {D H'} sH hD => ⟨D, List.replicate _ true, rfl, SqL.of hD, by rw [List.all_replicate]; simpa using q _ sH⟩
    cases t with
    | num z =>
      obtain ⟨rfl, ha⟩ := hat
      refine ify_ne rfl ha rfl rfl (ify_ne rfl ha rfl rfl ?_)
      exact ⟨a, _, _, rfl, ha, rfl, rfl, false, rfl, iteF ⟨a, _, _, rfl, ha, rfl, rfl, false, rfl, iteF (q _ (Same.refl _))⟩⟩
    | free n =>
      obtain ⟨rfl, ha⟩ := hat
      refine ify_ne rfl ha rfl rfl (ify_ne rfl ha rfl rfl ?_)
      exact ⟨a, _, _, rfl, ha, rfl, rfl, false, rfl, iteF ⟨a, _, _, rfl, ha, rfl, rfl, false, rfl, iteF (q _ (Same.refl _))⟩⟩
    | seen p0 =>
      obtain ⟨rfl, ha⟩ := hat
      refine ify_ne rfl ha rfl rfl (ify_ne rfl ha rfl rfl ?_)
      exact ⟨a, _, _, rfl, ha, rfl, rfl, false, rfl, iteF ⟨a, _, _, rfl, ha, rfl, rfl, false, rfl, iteF (q _ (Same.refl _))⟩⟩
    | call =>
      obtain ⟨u, f', as, rfl, ha, hu'⟩ := hat
      have hul := hal.1
      rw [List.length_cons] at hul
      refine ify_ne rfl ha rfl rfl (ify_eq rfl ha rfl ?_)
      refine ⟨_, ha, z1, fun p1 hp1 => ?_⟩
      have s1 := same_upd (o := .tup [f']) hp1
      have f1 : upd H p1 (.tup [f']) p1 = some (.tup [f']) := upd_same
      generalize upd H p1 (.tup [f']) = H1 at s1 f1 ⊢
      refine ⟨_, s1 _ _ ha, p1, u, [f'], as, rfl, rfl, f1, s1 _ _ hu', (fun z => nomatch z), by rw [sizeLine_eq]; show 1 + as.length ≤ _; omega, fun p2 H2 s2 hp2 => ?_⟩
      exact ⟨p2, rfl, ⟨_, SqT.of hp2⟩, fun D hD => good_all kd hkl (s1.trans s2) hp2 hal hdn hD fun H' sH hDe => last sH hDe⟩
    | pick =>
      obtain ⟨x, y, z, rfl, ha⟩ := hat
      refine ify_ne rfl ha rfl rfl (ify_ne rfl ha rfl rfl ?_)
      refine ⟨a, _, _, rfl, ha, rfl, rfl, true, rfl, iteT (iteT ?_)⟩
      refine ⟨_, rfl, a, _, rfl, SqT.of ha, cut_no _ _, fun p2 hp2 => ?_⟩
      rw [cut_tail]
      exact ⟨p2, rfl, ⟨_, SqT.of upd_same⟩, fun D hD => good_all kd hkl (same_upd hp2) upd_same hal hdn hD fun H' sH hDe => last sH hDe⟩
    | now =>
      obtain ⟨x, rfl, ha⟩ := hat
      refine ify_ne rfl ha rfl rfl (ify_ne rfl ha rfl rfl ?_)
      refine ⟨a, _, _, rfl, ha, rfl, rfl, false, rfl, iteF ⟨a, _, _, rfl, ha, rfl, rfl, true, rfl, iteT ?_⟩⟩
      refine ⟨_, rfl, a, _, rfl, SqT.of ha, cut_no _ _, fun p2 hp2 => ?_⟩
      rw [cut_tail]
      exact ⟨p2, rfl, ⟨_, SqT.of upd_same⟩, fun D hD => good_all kd hkl (same_upd hp2) upd_same hal hdn hD fun H' sH hDe => last sH hDe⟩
    | fn ps =>
      obtain ⟨u, pv', b, rfl, ha, hu', hps⟩ := hat
      have hk1 : ks.length = 1 := hal.1.symm
      obtain ⟨kb, rfl⟩ : ∃ kb, ks = [kb] := match ks, hk1 with | [kb], _ => ⟨kb, rfl⟩
      obtain ⟨x1, r1, e1, hx1, hr1⟩ := hal.uncons
      cases e1
      have hpl : ps.length ≤ 20 := (hwd _ (pre_self _)).2
      obtain ⟨kd1, kd2, kd3, kd4⟩ := kd kb (List.mem_cons_self ..)
      obtain ⟨⟨r, U, hNT, hr2, hsn⟩, hnm⟩ := hfit ps kb (pre_self _)
      have hlc := plc_len hwd
      refine ify_eq rfl ha rfl ?_
      intro D hD
      have s1 := same_upd (o := .dK []) hD
      have f1 : upd H D (.dK []) D = some (.dK []) := upd_same
      generalize upd H D (.dK []) = H1 at s1 f1 ⊢
      refine ⟨_, _, rfl, hc.tup (Tup.of s1), hdp, hwd, hsz, fun H2 L s2 hLn hL => ?_⟩
      have s12 := s1.trans s2
      have nLD : L ≠ D := Ne.symm (ne_of_none f1 hLn)
      generalize eP : plc (pre (.mk (.fn ps) [kb])) = pls at hL hlc hNT hsn
      refine ⟨L, rfl, ⟨_, SqL.of hL⟩, for_list (xs := pls.map V.int) (GtW (some (.ref a)) (some (.ref dn)) D pls H2) ⟨⟨_, rfl⟩, fun a o _ e => e, [], s2 _ _ f1, Tl.nil, Nat.le_refl _⟩ (fun i σ H' _ hP => SqL.of (hP.2.1 _ _ nLD hL)) ?_ ?_⟩
      · rintro i x σ H' hx ⟨⟨v, rfl⟩, kH, kt, hDk, hT, hkt⟩
        rw [List.getElem?_map] at hx
        obtain ⟨p, ep, rfl⟩ := Option.map_eq_some_iff.mp hx
        have hil : i < pls.length := (List.getElem?_eq_some_iff.mp ep).1
        refine ⟨D, _, rfl, DPut.k (k := .inl (some p)) hDk (by rw [sizeLine_eq]; omega), ⟨_, rfl⟩, fun b o n e => ?_, _, upd_same, ?_, ?_⟩
        · rw [upd_ne n]; exact kH _ _ n e
        · rw [List.take_succ, ep]; exact hT.put p _
        · have := length_putK kt (.inl (some p)) (.bl true); omega
      · rintro σ H' ⟨⟨v, rfl⟩, kH, kt, hDk, hT, hkt⟩
        rw [List.length_map, List.take_length] at hT
        have sH : Same H H' := fun b o e => kH _ _ (ne_of_none e hD) (s12 _ _ e)
        refine ⟨_, sH _ _ ha, _, sH _ _ ha, ?_⟩
        refine ⟨u, dn, D, b, kb, pv', ps, r, U, kF, kt, fun p => p ∈ pls, rfl, sH _ _ hu', hps.mono (fun _ _ r => r.tup (Tup.of sH)), hx1.tup (Tup.of sH), by omega, by omega, fun e he => (kd2 e he).1, sH _ _ hdn, hDk, hT, hsn, hNT, hr2, by omega, hnm, fun H3 s3 => ⟨true, rfl, ?_⟩⟩
        have s03 := sH.trans s3
        exact ⟨_, s03 _ _ ha, b, kb, dn, kF, rfl, hx1.tup (Tup.of s03), kd1, kd2, kd3, s03 _ _ hdn, kd4, fun H4 s4 => q _ (s03.trans s4)⟩
theorem ok_good {f fP fT fW fF : Addr} {fd fdP fdT fdW fdF : FuncData} (F : Fun K "_law_good" "_law_good" sGood f fd) (T : Txt mg) (bG : Binds K fd pGo []) (mG : mg "_law_good" = some (.ref f))
    (FP : Fun K "_law_places" "_law_places" sPlaces fP fdP) (bP : Binds K fdP ["_law_core_here"] []) (mP : mg "_law_places" = some (.ref fP))
    (FT : Fun K "_law_fits" "_law_fits" sFits fT fdT) (bT : Binds K fdT pFt []) (mT : mg "_law_fits" = some (.ref fT))
    (FW : Fun K "_law_words" "_law_words" sWords fW fdW) (bW : Binds K fdW ["_law_core_here"] []) (mW : mg "_law_words" = some (.ref fW))
    (FF : Fun K "_law_first" "_law_first" sFirst fF fdF) (bF : Binds K fdF ["_law_name", "_law_taken", "_law_found"] []) (mF : mg "_law_first" = some (.ref fF)) : ∀ d, FnOk P w K mg base CX0 (d + 3) f fd pGo (spGood d)
  | 0 => good_step (k := 2) (d := 0) (spG := spNo) F T bG mG FP.kp bP mP ((ok_places FP bP mP 0).mono (by omega)) FT.kp bT mT ((ok_fits FT T FW bW mW FF bF mF 0).mono (by omega)) fn_no (fun e h => by omega)
  | d + 1 => good_step (k := d + 3) (d := d + 1) (spG := spGood d) F T bG mG FP.kp bP mP ((ok_places FP bP mP (d + 1)).mono (by omega)) FT.kp bT mT ((ok_fits FT T FW bW mW FF bF mF (d + 1)).mono (by omega)) (ok_good F T bG mG FP bP mP FT bT mT FW bW mW FF bF mF d) (fun e h => by rw [Nat.add_right_cancel h])
end
end K72

set_option Elab.async false
set_option linter.all false
set_option maxRecDepth 100000
set_option maxHeartbeats 4000000
/-! k72: the first that may: the mathematics. Own work. -/
namespace K72
open PySem L2 Builtin.Str
abbrev kI (p : Int) : Key := .inl (some p)
theorem puts_keys : ∀ {r : List (Int × Str)} {kvs : List (Key × V)}, (r.map (·.1)).Nodup → (∀ x ∈ r, vN kvs x.1 = none) → (puts kvs r).map (·.1) = kvs.map (·.1) ++ (r.map (·.1)).map kI
  | [], kvs, _, _ => by simp [puts]
  | y :: r, kvs, hn, h => by
    rw [List.map_cons, List.nodup_cons] at hn
    show (puts (putK kvs (kI y.1) (.str y.2)) r).map (·.1) = _
    have h0 : valV kvs (kI y.1) = none := h y (List.mem_cons_self ..)
    rw [puts_keys (r := r) hn.2 (fun x hx => ?_), putK_new _ h0]
    · simp
    · show valV _ _ = _
      rw [valV_put, if_neg]
      · exact h x (List.mem_cons_of_mem _ hx)
      · intro z
        exact hn.1 (List.mem_map.mpr ⟨x, hx, Option.some.inj (Sum.inl.inj z)⟩)
theorem FN.keys {k k' : List (Key × V)} {cs : List Co} (h : FN k cs k') : (plc cs).Nodup → (∀ p ∈ plc cs, vN k p = none) → k'.map (·.1) = k.map (·.1) ++ (plc cs).map kI := by
  induction h with
  | nil => exact fun _ _ => by simp [plc]
  | @skip k k' d cs hd h ih =>
    intro hn hv
    have e : plc (d :: cs) = plc cs := by
      rw [plc_cons]
      have : parms d = [] := by
        obtain ⟨t, ks⟩ := d
        cases t with
        | fn ps => exact absurd rfl (hd ps ks)
        | _ => rfl
      rw [this]; rfl
    rw [e] at hn hv ⊢
    exact ih hn hv
  | @fn k k' ps r b U cs hN h ih =>
    intro hn hv
    have e : plc (.mk (.fn ps) [b] :: cs) = ps.map (·.1) ++ plc cs := plc_cons _ _
    rw [e] at hn hv ⊢
    rw [List.nodup_append] at hn
    obtain ⟨n1, n2, n3⟩ := hn
    have er := hN.fst
    rw [ih n2 fun p hp => ?_, puts_keys (by rw [er]; exact n1) (fun x hx => hv _ (List.mem_append_left _ (by rw [← er]; exact List.mem_map.mpr ⟨x, hx, rfl⟩))), er, List.map_append, List.append_assoc]
    rw [puts_other fun x hx z => n3 x.1 (by rw [← er]; exact List.mem_map.mpr ⟨x, hx, rfl⟩) p hp z]
    exact hv p (List.mem_append_right _ hp)
/-- the keys of the names: the places in their order -/
theorem names_keys {its : List It} {r : List (Int × Str)} {U : Str → Prop} {kF : List (Key × V)} (hNT : NT (UI its) (tops its) r U) (hF : FN (puts [] r) (cores its) kF) (hG : Good its) : kF.map (·.1) = ((tops its).map (·.1) ++ plc (cores its)).map kI := by
  have er := hNT.fst
  rw [hF.keys hG.nd fun p hp => ?_, puts_keys (by rw [er]; exact hG.tn) (fun x hx => rfl), er, List.map_append]
  · rfl
  · rw [puts_other fun x hx z => hG.dj x.1 (by rw [← er]; exact List.mem_map.mpr ⟨x, hx, rfl⟩) (by rw [z]; exact hp)]
    rfl
def Hs (k : List (Key × V)) (p : Int) : Prop := ∃ n : Str, vN k p = some (.str n)
theorem Hs.put {k : List (Key × V)} {p q : Int} {n : Str} (h : p = q ∨ Hs k p) : Hs (putK k (kI q) (.str n)) p := by
  by_cases e : p = q
  · exact ⟨n, by show valV _ _ = _; rw [valV_put, if_pos (by rw [e])]⟩
  · rcases h with h | ⟨m, h⟩
    · exact absurd h e
    · exact ⟨m, by show valV _ _ = _; rw [valV_put, if_neg (fun z => e (Option.some.inj (Sum.inl.inj z)))]; exact h⟩
theorem Hs.puts : ∀ {r : List (Int × Str)} {k : List (Key × V)} {p : Int}, (p ∈ r.map (·.1) ∨ Hs k p) → Hs (puts k r) p
  | [], k, p, h => h.elim (fun z => nomatch z) id
  | y :: r, k, p, h => by
    show Hs (K72.puts (putK k (kI y.1) (.str y.2)) r) p
    refine Hs.puts ?_
    rcases h with h | h
    · rcases List.mem_cons.mp h with h | h
      · exact .inr (Hs.put (.inl h))
      · exact .inl h
    · exact .inr (Hs.put (.inr h))
theorem FN.has {k k' : List (Key × V)} {cs : List Co} (h : FN k cs k') {p : Int} : (p ∈ plc cs ∨ Hs k p) → Hs k' p := by
  induction h with
  | nil => exact fun z => z.elim (fun z => nomatch z) id
  | @skip k k' d cs hd h ih =>
    intro hp
    refine ih ?_
    rcases hp with hp | hp
    · rw [plc_cons, List.mem_append] at hp
      rcases hp with hp | hp
      · have : parms d = [] := by
          obtain ⟨t, ks⟩ := d
          cases t with
          | fn ps => exact absurd rfl (hd ps ks)
          | _ => rfl
        rw [this] at hp
        exact nomatch hp
      · exact .inl hp
    · exact .inr hp
  | @fn k k' ps r b U cs hN h ih =>
    intro hp
    refine ih ?_
    rcases hp with hp | hp
    · rw [plc_cons, List.mem_append] at hp
      rcases hp with hp | hp
      · exact .inr (Hs.puts (.inl (by rw [hN.fst]; exact hp)))
      · exact .inl hp
    · exact .inr (Hs.puts (.inr hp))
theorem NT.iff {U0 U0' : Str → Prop} (e : ∀ x, U0 x ↔ U0' x) {ps r : List (Int × Str)} {U : Str → Prop} (h : NT U0 ps r U) : ∃ U', NT U0' ps r U' ∧ ∀ x, U x ↔ U' x := by
  induction h with
  | nil => exact ⟨_, .nil, e⟩
  | snoc h hm ih =>
    obtain ⟨U', h', eU⟩ := ih
    exact ⟨_, .snoc h' (hm.iff eU), fun x => or_congr Iff.rfl (eU x)⟩
/-! ### what is seen is told -/
mutual
theorem seen_in : ∀ (c : Co) (Γ : List Int), Sc Γ c → ∀ p ks, Co.mk (.seen p) ks ∈ pre c → p ∈ Γ ∨ p ∈ plc (pre c)
  | .mk t ks0, Γ, hS, p, ks, h => by
    unfold Sc at hS
    rw [pre_eq] at h ⊢
    rw [plc_cons]
    rcases List.mem_cons.mp h with h | h
    · injection h with h1 h2
      subst h1
      exact .inl hS.1
    · rcases seens_in ks0 _ hS.2 p ks h with z | z
      · cases t with
        | fn ps =>
          rcases List.mem_append.mp z with z | z
          · exact .inr (List.mem_append_left _ z)
          · exact .inl z
        | num _ => exact .inl z
        | free _ => exact .inl z
        | seen _ => exact .inl z
        | call => exact .inl z
        | pick => exact .inl z
        | now => exact .inl z
      · exact .inr (List.mem_append_right _ z)
theorem seens_in : ∀ (cs : List Co) (Γ : List Int), Scs Γ cs → ∀ p ks, Co.mk (.seen p) ks ∈ pres cs → p ∈ Γ ∨ p ∈ plc (pres cs)
  | [], Γ, hS, p, ks, h => by rw [pres] at h; exact nomatch h
  | c :: cs, Γ, hS, p, ks, h => by
    unfold Scs at hS
    rw [pres_cons] at h ⊢
    rw [plc_append]
    rcases List.mem_append.mp h with h | h
    · exact (seen_in c Γ hS.1 p ks h).imp id (List.mem_append_left _)
    · exact (seens_in cs Γ hS.2 p ks h).imp id (List.mem_append_right _)
end
theorem wo_seen {cs : List Co} {p : Int} (h : Wo.seen p ∈ wos cs) : ∃ ks, Co.mk (.seen p) ks ∈ cs := by
  obtain ⟨⟨t, ks⟩, he, e⟩ := List.mem_filterMap.mp h
  cases t with
  | seen q =>
    injection e with e; injection e with e; subst e
    exact ⟨ks, he⟩
  | free _ => injection e with e; exact nomatch e
  | fn _ => injection e with e; exact nomatch e
  | pick => injection e with e; exact nomatch e
  | now => injection e with e; exact nomatch e
  | call => exact nomatch e
  | num _ => exact nomatch e
/-- what the words take is what the cores take, where they agree on what is seen -/
theorem tks_iff {kF : List (Key × V)} {told : Int → Prop} {cs : List Co} {S : Int → Str → Prop} (hS : ∀ p ks, Co.mk (.seen p) ks ∈ cs → ∀ x, (¬ told p ∧ vN kF p = some (.str x)) ↔ S p x) (x : Str) : tks kF told (wos cs) x ↔ ∃ e ∈ cs, nm e = some x ∨ ∃ p ks, e = .mk (.seen p) ks ∧ S p x := by
  constructor
  · rintro ⟨o, ho, hx⟩
    obtain ⟨⟨t, ks⟩, he, e⟩ := List.mem_filterMap.mp ho
    refine ⟨_, he, ?_⟩
    cases t with
    | seen q =>
      injection e with e; subst e
      exact .inr ⟨q, ks, rfl, (hS q ks he x).mp hx⟩
    | free n => injection e with e; subst e; exact .inl (congrArg some (Eq.symm hx))
    | fn _ => injection e with e; subst e; exact .inl (congrArg some (Eq.symm hx))
    | pick => injection e with e; subst e; exact .inl (congrArg some (Eq.symm hx))
    | now => injection e with e; subst e; exact .inl (congrArg some (Eq.symm hx))
    | call => exact nomatch e
    | num _ => exact nomatch e
  · rintro ⟨⟨t, ks⟩, he, h⟩
    have inn : ∀ o, wo (.mk t ks) = some o → tk kF told o x → tks kF told (wos cs) x := fun o eo ho => ⟨o, List.mem_filterMap.mpr ⟨_, he, eo⟩, ho⟩
    rcases h with h | ⟨p, ks', e, h⟩
    · cases t with
      | free n => injection h with h; subst h; exact inn _ rfl rfl
      | fn _ => injection h with h; subst h; exact inn _ rfl rfl
      | pick => injection h with h; subst h; exact inn _ rfl rfl
      | now => injection h with h; subst h; exact inn _ rfl rfl
      | seen q => exact nomatch h
      | call => exact nomatch h
      | num _ => exact nomatch h
    · injection e with e1 e2
      subst e1
      exact inn _ rfl ((hS p ks he x).mpr h)
section
variable {k0 kF : List (Key × V)} {C : List Co} {T : List Int}
/-- a fn's names are the first that may -/
theorem fn_fits (hF : FN k0 C kF) (hnd : (plc C).Nodup) (hT : ∀ p ∈ T, p ∉ plc C) (h0 : ∀ p, p ∉ T → vN k0 p = none) (h1 : ∀ p ∈ T, Hs k0 p) {A B : List Co} {ps : List (Int × Str)} {b : Co} {Γ : List Int} (eC : C = A ++ .mk (.fn ps) [b] :: (pre b ++ B)) (hΓ : ∀ p ∈ Γ, p ∈ T ∨ p ∈ plc A) (hS : Sc Γ (.mk (.fn ps) [b])) : FitsOk kF ps b (fun p => p ∈ plc (pre (.mk (.fn ps) [b]))) := by
  rw [eC] at hF
  obtain ⟨k, r, U, hA, hNT, hB⟩ := hF.at
  have e1 := hNT.fst
  have epc : pre (.mk (.fn ps) [b]) = .mk (.fn ps) [b] :: pre b := by rw [pre_eq, pres_cons, show pres [] = [] from by rw [pres], List.append_nil]
  have epl : plc (pre (.mk (.fn ps) [b])) = ps.map (·.1) ++ plc (pre b) := by rw [epc]; exact plc_cons _ _
  have eplC : plc C = plc A ++ (ps.map (·.1) ++ plc (pre b ++ B)) := by rw [eC, plc_append]; congr 1; exact plc_cons _ _
  rw [eplC, List.nodup_append] at hnd
  obtain ⟨ndA, nd2, dAB⟩ := hnd
  rw [List.nodup_append] at nd2
  obtain ⟨ndp, ndB, dpB⟩ := nd2
  have hN : ∀ x ∈ r, vN kF x.1 = some (.str x.2) := fun x hx => by
    have hx1 : x.1 ∈ ps.map (·.1) := by rw [← e1]; exact List.mem_map.mpr ⟨x, hx, rfl⟩
    rw [hB.keep fun z => dpB _ hx1 _ z rfl]
    exact puts_mem (by rw [e1]; exact ndp) hx
  -- what is told outside has its name before
  have out : ∀ p, p ∈ Γ → vN kF p = vN k p ∧ Hs kF p ∧ p ∉ plc (pre (.mk (.fn ps) [b])) := fun p hp => by
    have hn2 : p ∉ ps.map (·.1) ++ plc (pre b ++ B) := by
      rcases hΓ p hp with z | z
      · intro y
        apply hT p z
        rw [eplC]
        exact List.mem_append_right _ y
      · exact fun y => dAB _ z _ y rfl
    have hk : vN kF p = vN k p := by
      rw [hB.keep fun z => hn2 (List.mem_append_right _ z)]
      exact puts_other fun x hx e => hn2 (List.mem_append_left _ (by rw [← e1]; exact List.mem_map.mpr ⟨x, hx, e⟩))
    refine ⟨hk, ?_, ?_⟩
    · have : Hs k p := hA.has ((hΓ p hp).elim (fun z => .inr (h1 p z)) .inl)
      obtain ⟨n, hn⟩ := this
      exact ⟨n, by rw [hk]; exact hn⟩
    · rw [epl]
      intro z
      apply hn2
      rcases List.mem_append.mp z with z | z
      · exact List.mem_append_left _ z
      · exact List.mem_append_right _ (by rw [plc_append]; exact List.mem_append_left _ z)
  -- what is told inside has none
  have inn : ∀ p, p ∈ plc (pre (.mk (.fn ps) [b])) → vN k p = none := fun p hp => by
    rw [epl] at hp
    have hp2 : p ∈ ps.map (·.1) ++ plc (pre b ++ B) := by
      rcases List.mem_append.mp hp with z | z
      · exact List.mem_append_left _ z
      · exact List.mem_append_right _ (by rw [plc_append]; exact List.mem_append_left _ z)
    rw [hA.keep fun z => dAB _ z _ hp2 rfl]
    refine h0 p fun z => hT p z ?_
    rw [eplC]
    exact List.mem_append_right _ hp2
  have see : ∀ p ks, Co.mk (.seen p) ks ∈ pre b → p ∈ Γ ∨ p ∈ plc (pre (.mk (.fn ps) [b])) := fun p ks h => seen_in _ Γ hS p ks (by rw [epc]; exact List.mem_cons_of_mem _ h)
  have eU : ∀ x, (∃ e ∈ pre b, nmS k e x) ↔ tks kF (fun p => p ∈ plc (pre (.mk (.fn ps) [b]))) (wos (pre b)) x := fun x => by
    rw [tks_iff (S := fun p x => vN k p = some (.str x))]
    · exact Iff.rfl
    · intro p ks h x
      rcases see p ks h with z | z
      · obtain ⟨a1, _, a3⟩ := out p z
        exact ⟨fun y => by rw [← a1]; exact y.2, fun y => ⟨a3, by rw [a1]; exact y⟩⟩
      · exact ⟨fun y => absurd z y.1, fun y => by rw [inn p z] at y; exact nomatch y⟩
  obtain ⟨U', hNT', _⟩ := hNT.iff eU
  refine ⟨r, U', hNT', hN, fun p hp hnt => ?_⟩
  obtain ⟨ks, hks⟩ := wo_seen hp
  rcases see p ks hks with z | z
  · exact (out p z).2.1
  · exact absurd z hnt
mutual
theorem all_fit (hF : FN k0 C kF) (hnd : (plc C).Nodup) (hT : ∀ p ∈ T, p ∉ plc C) (h0 : ∀ p, p ∉ T → vN k0 p = none) (h1 : ∀ p ∈ T, Hs k0 p) : ∀ (c : Co) (A B : List Co) (Γ : List Int), C = A ++ (pre c ++ B) → Sc Γ c → (∀ p ∈ Γ, p ∈ T ∨ p ∈ plc A) → ∀ ps b, Co.mk (.fn ps) [b] ∈ pre c → FitsOk kF ps b (fun p => p ∈ plc (pre (.mk (.fn ps) [b])))
  | .mk t ks, A, B, Γ, eC, hS, hΓ, ps, b, hb => by
    have hS' := hS
    unfold Sc at hS
    rw [pre_eq] at eC hb
    have eC' : C = (A ++ [Co.mk t ks]) ++ (pres ks ++ B) := by rw [eC]; simp
    have hΓ' : ∀ p ∈ scG Γ t, p ∈ T ∨ p ∈ plc (A ++ [Co.mk t ks]) := fun p hp => by
      have base : p ∈ Γ → p ∈ T ∨ p ∈ plc (A ++ [Co.mk t ks]) := fun z => by
        rcases hΓ p z with z | z
        · exact .inl z
        · rw [plc_append]; exact .inr (List.mem_append_left _ z)
      cases t with
      | fn qs =>
        rcases List.mem_append.mp hp with z | z
        · rw [plc_append, plc_cons]
          exact .inr (List.mem_append_right _ (List.mem_append_left _ z))
        · exact base z
      | num _ => exact base hp
      | free _ => exact base hp
      | seen _ => exact base hp
      | call => exact base hp
      | pick => exact base hp
      | now => exact base hp
    rcases List.mem_cons.mp hb with e | hb
    · injection e with e1 e2
      subst e1 e2
      have epb : pres [b] = pre b := by rw [pres_cons]; simp [pres]
      rw [epb] at eC
      exact fn_fits hF hnd hT h0 h1 eC hΓ hS'
    · exact alls_fit hF hnd hT h0 h1 ks _ B _ eC' hS.2 hΓ' ps b hb
theorem alls_fit (hF : FN k0 C kF) (hnd : (plc C).Nodup) (hT : ∀ p ∈ T, p ∉ plc C) (h0 : ∀ p, p ∉ T → vN k0 p = none) (h1 : ∀ p ∈ T, Hs k0 p) : ∀ (ks A B : List Co) (Γ : List Int), C = A ++ (pres ks ++ B) → Scs Γ ks → (∀ p ∈ Γ, p ∈ T ∨ p ∈ plc A) → ∀ ps b, Co.mk (.fn ps) [b] ∈ pres ks → FitsOk kF ps b (fun p => p ∈ plc (pre (.mk (.fn ps) [b])))
  | [], A, B, Γ, _, _, _, ps, b, hb => by rw [pres] at hb; exact nomatch hb
  | k :: ks, A, B, Γ, eC, hS, hΓ, ps, b, hb => by
    unfold Scs at hS
    rw [pres_cons] at eC hb
    rcases List.mem_append.mp hb with hb | hb
    · exact all_fit hF hnd hT h0 h1 k A (pres ks ++ B) Γ (by rw [eC, List.append_assoc]) hS.1 hΓ ps b hb
    · refine alls_fit hF hnd hT h0 h1 ks (A ++ pre k) B Γ (by rw [eC]; simp) hS.2 (fun p hp => ?_) ps b hb
      rcases hΓ p hp with z | z
      · exact .inl z
      · rw [plc_append]; exact .inr (List.mem_append_left _ z)
end
end
/-- all the items' fns are named by the first that may -/
theorem items_fit {its : List It} {r : List (Int × Str)} {U : Str → Prop} {kF : List (Key × V)} (hNT : NT (UI its) (tops its) r U) (hF : FN (puts [] r) (cores its) kF) (hG : Good its) : ∀ it ∈ its, FnFit kF it.core := fun it hit ps b hb => by
  have e1 := hNT.fst
  have hb' : Co.mk (.fn ps) [b] ∈ cores its := mem_cores.mpr ⟨it, hit, hb⟩
  refine ⟨?_, fun x hx => hG.sm.pnm _ hb' x hx⟩
  have hS := hG.sc it hit
  obtain ⟨X, Y, e⟩ := List.append_of_mem hit
  have eC : cores its = cores X ++ (pre it.core ++ cores Y) := by rw [e]; unfold cores; rw [List.flatMap_append, List.flatMap_cons]
  refine all_fit (T := (tops its).map (·.1)) hF hG.nd hG.dj (fun p hp => ?_) (fun p hp => Hs.puts (.inl (by rw [e1]; exact hp))) it.core (cores X) (cores Y) _ eC hS (fun p hp => .inl hp) ps b hb
  rw [puts_other fun x hx z => hp (by rw [← e1, ← z]; exact List.mem_map.mpr ⟨x, hx, rfl⟩)]
  rfl
/-- and so are the tops -/
theorem tops_fit {its : List It} {r : List (Int × Str)} {U : Str → Prop} {kF : List (Key × V)} (hNT : NT (UI its) (tops its) r U) (hF : FN (puts [] r) (cores its) kF) (hG : Good its) {z : Int} : FitsOk kF (tops its) (.mk .call (.mk (.num z) [] :: its.map It.core)) (fun p => p ∈ (tops its).map (·.1) ++ plc (cores its)) := by
  have e1 := hNT.fst
  have ew : wos (pre (.mk .call (.mk (.num z) [] :: its.map It.core))) = wos (cores its) := by
    rw [pre_eq, pres_cons, pre_eq, show pres [] = [] from by rw [pres], ← cores_pres]
    rfl
  have see : ∀ p ks, Co.mk (.seen p) ks ∈ cores its → p ∈ (tops its).map (·.1) ++ plc (cores its) := fun p ks h => by
    obtain ⟨it, hit, hb⟩ := mem_cores.mp h
    rcases seen_in _ _ (hG.sc it hit) p ks hb with y | y
    · exact List.mem_append_left _ y
    · refine List.mem_append_right _ ?_
      obtain ⟨X, Y, e⟩ := List.append_of_mem hit
      have eC : cores its = cores X ++ (pre it.core ++ cores Y) := by rw [e]; unfold cores; rw [List.flatMap_append, List.flatMap_cons]
      rw [eC, plc_append, plc_append]
      exact List.mem_append_right _ (List.mem_append_left _ y)
  have eU : ∀ x, UI its x ↔ tks kF (fun p => p ∈ (tops its).map (·.1) ++ plc (cores its)) (wos (cores its)) x := fun x => by
    rw [tks_iff (S := fun p x => False)]
    · constructor
      · rintro ⟨d, hd, e⟩; exact ⟨d, hd, .inl e⟩
      · rintro ⟨d, hd, e | ⟨p, ks, _, h⟩⟩
        · exact ⟨d, hd, e⟩
        · exact h.elim
    · exact fun p ks h x => ⟨fun y => y.1 (see p ks h), False.elim⟩
  obtain ⟨U', hNT', _⟩ := hNT.iff eU
  refine ⟨r, U', by rw [ew]; exact hNT', fun x hx => ?_, fun p hp hnt => ?_⟩
  · have hx1 : x.1 ∈ (tops its).map (·.1) := by rw [← e1]; exact List.mem_map.mpr ⟨x, hx, rfl⟩
    rw [hF.keep (hG.dj _ hx1)]
    exact puts_mem (by rw [e1]; exact hG.tn) hx
  · rw [ew] at hp
    obtain ⟨ks, hks⟩ := wo_seen hp
    exact absurd (see p ks hks) hnt
end K72

set_option Elab.async false
set_option linter.all false
set_option maxRecDepth 100000
set_option maxHeartbeats 4000000
set_option exponentiation.threshold 3000
/-! k72: the law. Own work. -/
namespace K72
open PySem L2 Builtin.Str
theorem bt_sorted' : bootBuiltins "sorted" = some (.builtin "sorted") := by decide +kernel
theorem eqVs_ints : ∀ (ns : List Int), eqVs (ns.map V.int) (ns.map V.int) = true
  | [] => rfl
  | n :: ns => by
    show ((n == n) && eqVs (ns.map V.int) (ns.map V.int)) = true
    rw [eqVs_ints ns]; simp
theorem flat_intsW : ∀ (ns : List Int), (ns.map V.int).all flatV = true
  | [] => rfl
  | n :: ns => by
    show (true && (ns.map V.int).all flatV) = true
    rw [flat_intsW ns]; rfl
theorem cores_step {its : List It} {i : Nat} {it : It} (h : its[i]? = some it) : cores (its.take (i + 1)) = cores (its.take i) ++ pre it.core := by
  rw [List.take_succ, h]
  unfold cores
  rw [List.flatMap_append]
  simp
theorem plc_cores_len {its : List It} (h : Its its) (i : Nat) : (plc (cores (its.take i))).length ≤ 2000000 := by
  have e : cores its = cores (its.take i) ++ cores (its.drop i) := by
    conv => lhs; rw [← List.take_append_drop i its]
    unfold cores
    rw [List.flatMap_append]
  have h1 : (cores (its.take i)).length ≤ 100000 := by have := h.csz; rw [e, List.length_append] at this; omega
  have h2 : ((cores (its.take i)).flatMap parms).length ≤ 20 * (cores (its.take i)).length := flat_len fun d hd => h.pln d (by rw [e]; exact List.mem_append_left _ hd)
  unfold plc
  rw [List.length_map]; omega
theorem top_step {its : List It} {k : Nat} {it : It} (h : its[k]? = some it) : tops (its.take (k + 1)) = tops (its.take k) ++ it.top.toList := by
  rw [List.take_succ, h]
  unfold tops
  rw [List.filterMap_append]
  cases hh : it.top <;> simp [hh]
def spLaw (K : PySem.W.Frag) : Sp := fun vs H Q _ => ∃ (a : Addr) (ns : List Int), vs = [.ref a] ∧ SqL K H a (ns.map V.int) ∧ ns.length ≤ 63 ∧ ∀ H', Q (.bl true) H'
section
variable {P : Program} {w : World} {K : PySem.W.Frag} {mg : Str → Option Value} {base : Heap}
abbrev NL : List Str := ["_law_script", "_law_count", "_law_items_here", "_law_names", "_law_places_here", "_law_params_here", "_law_item", "_law_cores", "_law_inner", "_law_place"]
theorem scLaw : FnScope NL ["_law_script"] (defScope sLaw) := ⟨rfl, rfl, rfl, by decide +kernel, rfl, by decide +kernel, by decide +kernel⟩
theorem lcLaw1 : LcS (defScope sLaw).names [(".0", .local), ("_law_item", .local)] NL [false, false, false, false, false, false, false, false, false, false] := ⟨by decide +kernel, by decide +kernel, by decide +kernel, by decide +kernel, by decide +kernel, rfl⟩
theorem ndLaw1 : (["_law_script", "_law_count", "_law_items_here", "_law_names", "_law_places_here", "_law_params_here", "_law_item", "_law_cores", "_law_inner", "_law_place"] : List Str).Nodup := by decide +kernel
theorem lcLaw2 : LcS (defScope sLaw).names [(".0", .local), ("_law_core_here", .local), ("_law_good", .globalImplicit), ("_law_names", .free)] NL [false, false, false, true, false, false, false, false, false, false] := ⟨by decide +kernel, by decide +kernel, by decide +kernel, by decide +kernel, by decide +kernel, rfl⟩
theorem ndLaw2 : (["_law_script", "_law_count", "_law_items_here", "_law_names", "_law_places_here", "_law_params_here", "_law_item", "_law_cores", "_law_inner", "_law_place", "_law_core_here"] : List Str).Nodup := by decide +kernel
theorem ok_law {f fC fO fI fN fP fT fG : Addr} {fd fdC fdO fdI fdN fdP fdT fdG : FuncData} (F : Fun K "law" "law" sLaw f fd) (T : Txt mg)
    (kC : PySem.W.keepIn K (.ref fC) = true) (bC : Binds K fdC ["_law_script", "_law_k"] []) (mC : mg "_law_cell_at" = some (.ref fC)) (GC : FnOk P w K mg base CX0 73 fC fdC ["_law_script", "_law_k"] (spCell K))
    (kO : PySem.W.keepIn K (.ref fO) = true) (bO : Binds K fdO ["_law_cell"] []) (mO : mg "_law_pool" = some (.ref fO)) (GO : FnOk P w K mg base CX0 73 fO fdO ["_law_cell"] spPool)
    (kI : PySem.W.keepIn K (.ref fI) = true) (bI : Binds K fdI ["_law_script", "_law_pool_here", "_law_count"] []) (mI : mg "_law_items" = some (.ref fI)) (GI : FnOk P w K mg base CX0 73 fI fdI ["_law_script", "_law_pool_here", "_law_count"] (spItems K))
    (kN : PySem.W.keepIn K (.ref fN) = true) (bN : Binds K fdN ["items"] []) (mN : mg "names_of" = some (.ref fN)) (GN : FnOk P w K mg base CX0 73 fN fdN ["items"] spNames)
    (kP : PySem.W.keepIn K (.ref fP) = true) (bP : Binds K fdP ["_law_core_here"] []) (mP : mg "_law_places" = some (.ref fP)) (GP : FnOk P w K mg base CX0 73 fP fdP ["_law_core_here"] (spPlaces 70))
    (kT : PySem.W.keepIn K (.ref fT) = true) (bT : Binds K fdT pFt []) (mT : mg "_law_fits" = some (.ref fT)) (GT : FnOk P w K mg base CX0 73 fT fdT pFt (spFits 71))
    (kG : PySem.W.keepIn K (.ref fG) = true) (bG : Binds K fdG pGo []) (mG : mg "_law_good" = some (.ref fG)) (GG : FnOk P w K mg base CX0 73 fG fdG pGo (spGood 70)) :
    FnOk P w K mg base CX0 74 f fd ["_law_script"] (spLaw K) := by
  refine F.ok scLaw (fun vs H Q E h => ?_) (fun cdv A outer s H vs Q E hr h => ?_)
  · obtain ⟨a, ns, rfl, _⟩ := h; rfl
  · obtain ⟨a, ns, rfl, hS, hl, q⟩ := h
    have nd := scLaw.nd
    have hu := hu_of hr
    have z2 : 2 ≤ sizeLine := by rw [sizeLine_eq]; decide
    have z3 : 3 ≤ sizeLine := by rw [sizeLine_eq]; decide
    refine ⟨_, pss_cons (ps_set (i := 1) nd rfl (Or.inl rfl) (pe_lst (pa_cons (pe_op op_mod (pe_op op_fdiv (pe_call GC hr (by rfl) mC kC bC .nil pass0 (pa_cons (pw 0) (pa_cons pe_int pa_nil))) pe_int) (pe_op op_pow pe_int pe_int)) pa_nil)))
      (pss_cons (ps_set (i := 2) nd rfl (Or.inl rfl) (pe_call GI hr (by rfl) mI kI bI .nil pass0 (pa_cons (pw 0) (pa_cons (pe_call GO hr (by rfl) mO kO bO .nil pass0 (pa_cons (pe_call GC hr (by rfl) mC kC bC .nil pass0 (pa_cons (pw 0) (pa_cons pe_int pa_nil))) pa_nil)) (pa_cons (pw 1) pa_nil)))))
      (pss_cons (ps_set (i := 3) nd rfl (Or.inr rfl) (pe_call GN hr (by rfl) mN kN bN .nil pass0 (pa_cons (pe_callTy call_list_of (by rfl) T.list bt_list (pa_cons (pw 2) pa_nil)) pa_nil)))
      (pss_cons (ps_lc (i := 4) (ext := []) nd rfl rfl lcLaw1 rfl (pi_list (pw 2))
          ⟨fun _ _ _ _ _ => (pg_name (i := 6) ndLaw1 rfl (Or.inl rfl) (.inr rfl)), fun _ _ _ _ _ => (pts_one (pt_cmpR op_eq (pe_ixT 6) pe_str (nomark _))), fun _ _ _ _ _ => (pe_iwT 6)⟩)
      (pss_cons (ps_set (i := 5) nd rfl (Or.inl rfl) (pe_callTy call_tuple_of (by rfl) T.tuple bt_tuple' (pa_cons (pe_lc (ext := []) lcLaw1 rfl (pi_list (pw 2))
          ⟨fun _ _ _ _ _ => (pg_name (i := 6) ndLaw1 rfl (Or.inl rfl) (.inr rfl)), fun _ _ _ _ _ => (pts_one (pt_cmpR op_eq (pe_ixT 6) pe_str (nomark _))), fun _ _ _ _ _ => (pe_tup (pa_cons (pe_iwT 6) (pa_cons (pe_iwT 6) pa_nil)))⟩) pa_nil)))
      (pss_cons (ps_for PassesOwn.never rfl (pi_list (pw 2)) (pg_name (i := 6) nd rfl (Or.inl rfl))
      (pss_one (ps_expr (pe_bm PySem.F.plainAttrs_list PySem.F.slot_list_extend PySem.F.type_list_extend mt_extend (pw 4) (pa_cons (pe_call GP hr (by rfl) mP kP bP .nil pass0 (pa_cons (pe_ix (ix_tup : IxR _ (rIxT K)) (pw 6) (pe_un un_neg pe_int) (fun _ _ => rfl)) pa_nil)) pa_nil)))))
      (pss_cons (ps_if (PW.pt (pw_or (pt_not (pt_val (pe_callB call_isI (by rfl) T.isi bt_isinstance (pa_cons (pw 3) (pa_cons (pe_bltn (v := .ty "dict") (by rfl) T.dict bt_dict' rfl) pa_nil))))) (pw_or1 (pt_cmpR (op_neL hu) (pe_callB (call_sortedK rfl) (by rfl) T.sorted bt_sorted' (pa_cons (pw 3) pa_nil)) (pe_callB call_sortedD (by rfl) T.sorted bt_sorted' (pa_cons (pw 4) pa_nil)) (nomark _)))))
      (pss_one (ps_ret pe_bl))
      pss_nil)
      (pss_cons (ps_set (i := 7) nd rfl (Or.inl rfl) (pe_callTy call_tuple_of (by rfl) T.tuple bt_tuple' (pa_cons (pe_lc (ext := []) lcLaw1 rfl (pi_list (pw 2))
          ⟨fun _ _ _ _ _ => (pg_name (i := 6) ndLaw1 rfl (Or.inl rfl) (.inr rfl)), fun _ _ _ _ _ => pts_nil, fun _ _ _ _ _ => (pe_ix (ix_tup : IxR _ (rIxT K)) (pw 6) (pe_un un_neg pe_int) (fun _ _ => rfl))⟩) pa_nil)))
      (pss_cons (ps_set (i := 8) nd rfl (Or.inl rfl) pe_dnewK)
      (pss_cons (ps_for PassesOwn.never rfl (pi_list (pw 4)) (pg_name (i := 9) nd rfl (Or.inl rfl))
      (pss_one (ps_dput hu (pw 8) (pw 9) pe_bl rfl)))
      (pss_cons (ps_if (pt_not (pt_val (pe_call GT hr (by rfl) mT kT bT .nil pass0 (pa_cons (pw 5) (pa_cons (pe_tup (pa_cons pe_str (pa_cons (pe_tup (pa_cons pe_str (pa_cons pe_int pa_nil))) (pa_cons (pw 7) pa_nil)))) (pa_cons (pw 3) (pa_cons (pw 8) pa_nil)))))))
      (pss_one (ps_ret pe_bl))
      pss_nil)
      (pss_one (ps_ret (pe_callB (call_allB rfl) (by rfl) T.all bt_all (pa_cons (pe_lc (ext := ["_law_core_here"]) lcLaw2 rfl (pi_tup (pw 7))
          ⟨fun _ _ _ _ _ => (pg_name (i := 10) ndLaw2 rfl (Or.inl rfl) (.inr rfl)), fun _ _ _ _ _ => pts_nil, fun _ _ _ _ _ => (pe_call GG hr (by rfl) mG kG bG .nil pass0 (pa_cons (pw 10) (pa_cons (pw 3) pa_nil)))⟩) pa_nil)))))))))))))), ?_⟩
    refine ⟨a, 1, ns, rfl, hS, hl, fun z => ⟨_, _, rfl, rfl, ⟨by decide, by decide⟩, _, _, rfl, rfl, ⟨by decide, by decide, by decide⟩, _, _, rfl, rfl, (by show (0 : Int) < _; decide), by rw [sizeLine_eq]; show 1 ≤ _; decide, fun cn hcn => ?_⟩⟩
    have c0 : 0 ≤ z / 5 % 10 ^ (18 : Int).toNat := Int.emod_nonneg _ (by decide)
    have c1 : z / 5 % 10 ^ (18 : Int).toNat < 10 ^ (18 : Int).toNat := Int.emod_lt_of_pos _ (by decide)
    have s1 := same_upd (o := .lst [.int (z / 5 % 10 ^ (18 : Int).toNat)]) hcn
    have hcn1 : upd H cn (.lst [.int (z / 5 % 10 ^ (18 : Int).toNat)]) cn = some (.lst [.int (z / 5 % 10 ^ (18 : Int).toNat)]) := upd_same
    have c1' : z / 5 % 10 ^ (18 : Int).toNat ≤ 10 ^ 18 := Int.le_of_lt c1
    generalize upd H cn (.lst [.int (z / 5 % 10 ^ (18 : Int).toNat)]) = H1 at s1 hcn1 ⊢
    have hS1 := s1.seq hS
    refine ⟨a, 0, ns, rfl, hS1, hl, fun z0 => ⟨_, rfl, fun H2 D s2 hD => ?_⟩⟩
    have hcn2 := s2 _ _ hcn1
    have s12 := s1.trans s2
    have nDc : D ≠ cn := fun e => by
      obtain ⟨nn, e1, e2, _⟩ := hD
      rw [e, hcn2] at e1
      have := congrArg (fun o : Option HO => match o with | some (.lst xs) => xs.length | _ => 0) e1
      simp [e2] at this
    refine ⟨a, D, cn, ns, _, rfl, fun H' hk => ?_, hl, hD, ⟨hcn2, c0⟩, c1', nDc, fun H3 I its iv hI hal hG => ?_⟩
    · rcases hS with (e | ⟨o, e⟩) | e
      · exact .inl (.inl (hk _ (s12 _ _ e) (ne_of_none e hcn)))
      · exact .inl (.inr ⟨o, hk _ (s12 _ _ e) (ne_of_none e hcn)⟩)
      · exact .inr e
    -- list(items), names_of
    refine ⟨I, _, rfl, .inl (SqL.of hI), fun L hL => ?_⟩
    have s4 := same_upd (o := .lst iv) hL
    have hL4 : upd H3 L (.lst iv) L = some (.lst iv) := upd_same
    have hI4 := s4 _ _ hI
    have hal4 := hal.mono fun _ _ r => ItIn.tup (Tup.of s4) r
    generalize upd H3 L (.lst iv) = H4 at hL4 hI4 hal4 ⊢
    refine ⟨L, its, iv, rfl, hL4, hal4, hG.sm, fun H5 dn r U kF hNT hFN hdn s5 hdnn => ?_⟩
    have hkeys := names_keys hNT hFN hG
    have hfit := items_fit hNT hFN hG
    obtain ⟨r', U', hNT', hr', hsn'⟩ := tops_fit hNT hFN hG (z := 0)
    have hI5 := s5 _ _ hI4
    have hal5 := hal4.mono fun _ _ r => ItIn.tup (Tup.of s5) r
    have htl := tops_len its
    have hil := hG.sm.len
    clear hNT hFN hL4 hI4 hal4 s5 hdnn hL hI hal s4
    have hiv : iv.length = its.length := hal5.1
    -- the places of the tops
    refine ⟨I, rfl, ⟨_, SqL.of hI5⟩, fun R hR => ?_⟩
    refine lc_lst (K := K) (a := I) (xs := iv) (fun k ys σ' H' => (∃ v, σ' = [none, none, none, none, none, none, v, none, none, none]) ∧ Same H5 H' ∧ H' R = some (.lst ys) ∧ ys = ((tops (its.take k)).map (·.1)).map V.int)
      ⟨⟨_, rfl⟩, same_upd hR, upd_same, rfl⟩ (fun k ys σ' H' _ hP => SqL.of (hP.2.1 _ _ hI5)) ?_ ?_
    · rintro k x ys σ' H' hx ⟨⟨v, rfl⟩, sH, hRy, hys⟩
      unfold gName
      have hk := (List.getElem?_eq_some_iff.mp hx).1
      obtain ⟨it, eit, hit⟩ := hal5.at hx
      have hit' := hit.tup (Tup.of sH)
      have htk := top_step eit
      cases it with
      | defi p n co =>
        obtain ⟨t, cv, rfl, ht, hc⟩ := hit'
        refine ⟨t, _, _, rfl, ht, rfl, rfl, true, rfl, iteT ⟨_, ht, hRy, ?_, Beh.of hk ⟨⟨_, rfl⟩, fun e o qe => ?_, upd_same, ?_⟩⟩⟩
        · have h1 := tops_len (its.take k)
          rw [List.length_take] at h1
          rw [hys, List.length_map, List.length_map, sizeLine_eq]; omega
        · rw [upd_ne (ne_of_none qe hR)]; exact sH _ _ qe
        · rw [htk, List.map_append, List.map_append, hys]; rfl
      | shw co =>
        obtain ⟨t, cv, rfl, ht, hc⟩ := hit'
        refine ⟨t, _, _, rfl, ht, rfl, rfl, false, rfl, iteF (Beh.of hk ⟨⟨_, rfl⟩, sH, hRy, ?_⟩)⟩
        rw [htk, hys]
        simp [It.top]
    · rintro ys σ' H6 ⟨_, s6, hR6, hys⟩
      rw [hiv, List.take_length] at hys
      subst hys
      have hI6 := s6 _ _ hI5
      have hal6 := hal5.mono fun _ _ r => ItIn.tup (Tup.of s6) r
      have nIR : I ≠ R := ne_of_none hI5 hR
      have ndR : dn ≠ R := ne_of_none hdn hR
      have hdn6 := s6 _ _ hdn
      -- the params of the tops
      refine ⟨I, rfl, ⟨_, SqL.of hI6⟩, fun R2 hR2 => ?_⟩
      refine lc_lst (K := K) (a := I) (xs := iv) (fun k ys σ' H' => (∃ v, σ' = [none, none, none, none, none, none, v, none, none, none]) ∧ Same H6 H' ∧ H' R2 = some (.lst ys) ∧ Al (PaIn H') (tops (its.take k)) ys)
        ⟨⟨_, rfl⟩, same_upd hR2, upd_same, Al.nil⟩ (fun k ys σ' H' _ hP => SqL.of (hP.2.1 _ _ hI6)) ?_ ?_
      · rintro k x ys σ' H' hx ⟨⟨v, rfl⟩, sH, hRy, hpa⟩
        unfold gName
        have hk := (List.getElem?_eq_some_iff.mp hx).1
        obtain ⟨it, eit, hit⟩ := hal6.at hx
        have hit' := hit.tup (Tup.of sH)
        have htk := top_step eit
        cases it with
        | defi p n co =>
          obtain ⟨t, cv, rfl, ht, hc⟩ := hit'
          refine ⟨t, _, _, rfl, ht, rfl, rfl, true, rfl, iteT ⟨_, ht, _, ht, z2, fun t2 ht2 => ?_⟩⟩
          have s7 := same_upd (o := .tup [.int p, .str n]) ht2
          have hR7 := s7 _ _ hRy
          have tk := Tup.lst (ys := ys ++ [.ref t2]) hR7
          refine ⟨hR7, ?_, Beh.of hk ⟨⟨_, rfl⟩, fun e o qe => ?_, upd_same, ?_⟩⟩
          · have h1 := tops_len (its.take k)
            rw [List.length_take] at h1
            rw [hpa.1, sizeLine_eq]; omega
          · rw [upd_ne (ne_of_none qe hR2)]; exact s7 _ _ (sH _ _ qe)
          · rw [htk]
            exact (hpa.mono fun _ _ z => (z.tup (Tup.of s7)).tup tk).snoc (a := (p, n)) ⟨t2, rfl, tk _ _ upd_same⟩
        | shw co =>
          obtain ⟨t, cv, rfl, ht, hc⟩ := hit'
          refine ⟨t, _, _, rfl, ht, rfl, rfl, false, rfl, iteF (Beh.of hk ⟨⟨_, rfl⟩, sH, hRy, ?_⟩)⟩
          rw [htk]
          simpa [It.top] using hpa
      · rintro pvs σ' H7 ⟨_, s7, hR27, hpa⟩
        rw [hiv, List.take_length] at hpa
        refine ⟨R2, _, rfl, .inl ⟨SqL.of hR27, fun pl hpl => ?_⟩⟩
        have s8 := same_upd (o := .tup pvs) hpl
        have hpl8 : upd H7 pl (.tup pvs) pl = some (.tup pvs) := upd_same
        have hpa8 := hpa.mono fun _ _ z => z.tup (Tup.of s8)
        have s78 := s7.trans s8
        generalize upd H7 pl (.tup pvs) = H8 at s8 hpl8 hpa8 s78 ⊢
        have hI8 := s78 _ _ hI6
        have hR8 := s78 _ _ hR6
        have hdn8 := s78 _ _ hdn6
        have hal8 := hal6.mono fun _ _ r => ItIn.tup (Tup.of s78) r
        have nplR : pl ≠ R := kind_ne hpl8 hR8 (fun z => nomatch z)
        clear s7 s8 s78 hR27 hpa hI6 hal6 hal5 hI5 s6 hR6 hdn6 hpl
        -- the places of the cores
        refine ⟨I, rfl, ⟨_, SqL.of hI8⟩, for_list (xs := iv) (fun i σ H' => (∃ v, σ = [some (.ref a), some (.ref cn), some (.ref I), some (.ref dn), some (.ref R), some (.ref pl), v, none, none, none]) ∧ (∀ b o, b ≠ R → H8 b = some o → H' b = some o) ∧ H' R = some (.lst (((tops its).map (·.1) ++ plc (cores (its.take i))).map V.int)))
          ⟨⟨_, rfl⟩, fun _ _ _ e => e, by rw [hR8, List.take_zero]; simp [cores, plc]⟩ (fun i σ H' _ hP => SqL.of (hP.2.1 _ _ nIR hI8)) ?_ ?_⟩
        · rintro i x σ H' hx ⟨⟨v, rfl⟩, kH, hRi⟩
          obtain ⟨it, eit, hit⟩ := hal8.at hx
          have hm := List.mem_of_getElem? eit
          have tH : Tup H8 H' := fun e zs qe => kH _ _ (kind_ne qe hR8 (fun z => nomatch z)) qe
          obtain ⟨t, xs, cv, rfl, hsq, hat, hc⟩ := (hit.tup tH).last (K := K)
          have hwd := hG.wd it hm
          have hsz : sz it.core ≤ 100000 := by
            have h1 := hG.sm.csz
            obtain ⟨X, Y, e⟩ := List.append_of_mem hm
            have eC : cores its = cores X ++ (pre it.core ++ cores Y) := by rw [e]; unfold cores; rw [List.flatMap_append, List.flatMap_cons]
            rw [eC, List.length_append, List.length_append, pre_len] at h1
            omega
          refine ⟨.inl ⟨rfl, _, SqL.of hRi⟩, _, rfl, t, xs, _, cv, rfl, rfl, hsq, hat, cv, it.core, rfl, hc, hG.dp it hm, hwd, hsz, fun H9 D2 s9 hD2n hD2 => ?_⟩
          have hlk := plc_len hwd
          have hl2 := plc_cores_len hG.sm i
          refine ⟨R, D2, _, _, rfl, rfl, s9 _ _ hRi, hD2, by rw [List.length_map, List.length_map, List.length_append, List.length_map, sizeLine_eq]; omega, ⟨_, rfl⟩, fun b o n e => ?_, ?_⟩
          · rw [upd_ne n]; exact s9 _ _ (kH _ _ n e)
          · rw [upd_same, cores_step eit, plc_append, ← List.map_append, List.append_assoc]
        · rintro σ H9 ⟨⟨v6, rfl⟩, kH, hR9⟩
          rw [hiv, List.take_length] at hR9
          have hpl2 := plc_cores_len hG.sm its.length
          rw [List.take_length] at hpl2
          have hI9 := kH _ _ nIR hI8
          have hdn9 := kH _ _ ndR hdn8
          have hpl9 := kH _ _ nplR hpl8
          have tH : Tup H8 H9 := fun e zs qe => kH _ _ (kind_ne qe hR8 (fun z => nomatch z)) qe
          have hal9 := hal8.mono fun _ _ r => ItIn.tup tH r
          have hpa9 := hpa8.mono fun _ _ z => z.tup tH
          clear hal8 hpa8 hI8 hdn8 hpl8 hR8 kH tH
          generalize ePL : (tops its).map (·.1) ++ plc (cores its) = pls at hR9 hkeys hNT' hsn'
          have hplsl : pls.length ≤ 3000000 := by rw [← ePL, List.length_append, List.length_map]; omega
          refine ⟨.ref dn, .ty "dict", _, _, true, rfl, rfl, TyOf.dK hdn9, rfl, ⟨_, rfl, iteF ?_⟩⟩
          refine ⟨dn, kF, pls, rfl, hdn9, hkeys, by omega, fun l1 hl1 => ?_⟩
          have s10 := same_upd (o := .lst ((SD.srt pls).map V.int)) hl1
          have f10 : upd H9 l1 (.lst ((SD.srt pls).map V.int)) l1 = some (.lst ((SD.srt pls).map V.int)) := upd_same
          generalize upd H9 l1 (.lst ((SD.srt pls).map V.int)) = H10 at s10 f10 ⊢
          refine ⟨R, pls, rfl, SqL.of (s10 _ _ hR9), by omega, fun l2 hl2 => ?_⟩
          have s11 := same_upd (o := .lst ((SD.srt pls).map V.int)) hl2
          have f11 : upd H10 l2 (.lst ((SD.srt pls).map V.int)) l2 = some (.lst ((SD.srt pls).map V.int)) := upd_same
          generalize upd H10 l2 (.lst ((SD.srt pls).map V.int)) = H11 at s11 f11 ⊢
          refine ⟨l1, l2, _, _, rfl, rfl, SqL.of (s11 _ _ f10), SqL.of f11, flat_intsW _, flat_intsW _, false, by rw [if_pos rfl, eqVs_ints]; rfl, iteF ?_⟩
          have sA := s10.trans s11
          have hI11 := sA _ _ hI9
          have hal11 := hal9.mono fun _ _ r => ItIn.tup (Tup.of sA) r
          -- the cores
          refine ⟨I, rfl, ⟨_, SqL.of hI11⟩, fun R3 hR3 => ?_⟩
          refine lc_lst (K := K) (a := I) (xs := iv) (fun k ys σ' H' => (∃ v, σ' = [none, none, none, none, none, none, v, none, none, none]) ∧ Same H11 H' ∧ H' R3 = some (.lst ys) ∧ Al (CoIn H') ((its.take k).map It.core) ys)
            ⟨⟨_, rfl⟩, same_upd hR3, upd_same, Al.nil⟩ (fun k ys σ' H' _ hP => SqL.of (hP.2.1 _ _ hI11)) ?_ ?_
          · rintro k x ys σ' H' hx ⟨⟨v, rfl⟩, sH, hRy, hcs⟩
            unfold gName
            refine yes_if ?_
            have hk := (List.getElem?_eq_some_iff.mp hx).1
            obtain ⟨it, eit, hit⟩ := hal11.at hx
            obtain ⟨t, xs, cv, rfl, hsq, hat, hc⟩ := (hit.tup (Tup.of sH)).last (K := K)
            have tk := Tup.lst (ys := ys ++ [cv]) hRy
            refine ⟨_, rfl, t, xs, _, cv, rfl, rfl, hsq, hat, hRy, ?_, Beh.of hk ⟨⟨_, rfl⟩, fun e o qe => ?_, upd_same, ?_⟩⟩
            · rw [hcs.1, List.length_map, List.length_take, sizeLine_eq]; omega
            · rw [upd_ne (ne_of_none qe hR3)]; exact sH _ _ qe
            · rw [List.take_succ, eit, List.map_append]
              exact (hcs.mono fun _ _ z => z.tup tk).snoc (a := it.core) (hc.tup tk)
          · rintro cvs σ' H12 ⟨_, s12', hR312, hcs⟩
            rw [hiv, List.take_length] at hcs
            refine ⟨R3, _, rfl, .inl ⟨SqL.of hR312, fun ct hct => ?_⟩⟩
            have s13 := same_upd (o := .tup cvs) hct
            have hct13 : upd H12 ct (.tup cvs) ct = some (.tup cvs) := upd_same
            generalize upd H12 ct (.tup cvs) = H13 at s13 hct13 ⊢
            intro ti hti
            have s14 := same_upd (o := .dK []) hti
            have f14 : upd H13 ti (.dK []) ti = some (.dK []) := upd_same
            generalize upd H13 ti (.dK []) = H14 at s14 f14 ⊢
            have sB := ((sA.trans s12').trans s13).trans s14
            have hR14 := sB _ _ hR9
            have nRt : R ≠ ti := kind_ne hR14 f14 (fun z => nomatch z)
            have hcs14 := hcs.mono fun _ _ z => (z.tup (Tup.of s13)).tup (Tup.of s14)
            have hct14 := s14 _ _ hct13
            have hdn14 := sB _ _ hdn9
            have hpl14 := sB _ _ hpl9
            have hpa14 := hpa9.mono fun _ _ z => z.tup (Tup.of sB)
            have ndt : dn ≠ ti := ne_of_none ((sA.trans s12').trans s13 _ _ hdn9) hti
            have npt : pl ≠ ti := ne_of_none ((sA.trans s12').trans s13 _ _ hpl9) hti
            have nct : ct ≠ ti := ne_of_none hct13 hti
            clear hcs hpa9 hal9 hal11 s13 s12' sA s10 s11 f10 f11 hI11 hR312 hR3
            -- what is told
            refine ⟨R, rfl, ⟨_, SqL.of hR14⟩, for_list (xs := pls.map V.int) (fun i σ H' => (∃ v, σ = [some (.ref a), some (.ref cn), some (.ref I), some (.ref dn), some (.ref R), some (.ref pl), v6, some (.ref ct), some (.ref ti), v]) ∧ (∀ b o, b ≠ ti → H14 b = some o → H' b = some o) ∧ ∃ kt, H' ti = some (.dK kt) ∧ Tl kt (pls.take i) ∧ kt.length ≤ i)
              ⟨⟨_, rfl⟩, fun _ _ _ e => e, [], f14, Tl.nil, Nat.le_refl _⟩ (fun i σ H' _ hP => SqL.of (hP.2.1 _ _ nRt hR14)) ?_ ?_⟩
            · rintro i x σ H' hx ⟨⟨v, rfl⟩, kH, kt, hDk, hT, hkt⟩
              rw [List.getElem?_map] at hx
              obtain ⟨p, ep, rfl⟩ := Option.map_eq_some_iff.mp hx
              have hil : i < pls.length := (List.getElem?_eq_some_iff.mp ep).1
              refine ⟨ti, _, rfl, DPut.k (k := .inl (some p)) hDk (by rw [sizeLine_eq]; omega), ⟨_, rfl⟩, fun b o n e => ?_, _, upd_same, ?_, ?_⟩
              · rw [upd_ne n]; exact kH _ _ n e
              · rw [List.take_succ, ep]; exact hT.put p _
              · have := length_putK kt (.inl (some p)) (.bl true); omega
            · rintro σ H15 ⟨⟨v9, rfl⟩, kH, kt, hDk, hT, hkt⟩
              rw [List.length_map, List.take_length] at hT
              have t15 : Tup H14 H15 := fun e zs qe => kH _ _ (kind_ne qe f14 (fun z => nomatch z)) qe
              have hct15 := kH _ _ nct hct14
              have hdn15 := kH _ _ ndt hdn14
              have hpl15 := kH _ _ npt hpl14
              have hpa15 := hpa14.mono fun _ _ z => z.tup t15
              have hcs15 := hcs14.mono fun _ _ z => z.tup t15
              clear hcs14 hpa14 hct14 hdn14 hpl14 t15 kH
              refine ⟨z2, fun n0 hn0 => ?_⟩
              have s16 := same_upd (o := .tup [.str "num", .int 0]) hn0
              have f16 : upd H15 n0 (.tup [.str "num", .int 0]) n0 = some (.tup [.str "num", .int 0]) := upd_same
              generalize upd H15 n0 (.tup [.str "num", .int 0]) = H16 at s16 f16 ⊢
              refine ⟨z3, fun b0 hb0 => ?_⟩
              have s17 := same_upd (o := .tup [.str "call", .ref n0, .ref ct]) hb0
              have f17 : upd H16 b0 (.tup [.str "call", .ref n0, .ref ct]) b0 = some (.tup [.str "call", .ref n0, .ref ct]) := upd_same
              generalize upd H16 b0 (.tup [.str "call", .ref n0, .ref ct]) = H17 at s17 f17 ⊢
              have sC := s16.trans s17
              have hcs17 := hcs15.mono fun _ _ z => z.tup (Tup.of sC)
              have hcall : CoIn H17 (.mk .call (.mk (.num 0) [] :: its.map It.core)) (.ref b0) :=
                CoIn.mk' (vs := .ref n0 :: cvs) ⟨ct, .ref n0, cvs, rfl, f17, sC _ _ hct15⟩ (Al.cons (CoIn.mk' (vs := []) ⟨rfl, s17 _ _ f16⟩ Al.nil) hcs17)
              have hdp : dp (.mk .call (.mk (.num 0) [] :: its.map It.core)) ≤ 71 := by
                rw [dp_mk, dps, dp_mk, dps]
                have : ∀ (l : List It), (∀ it ∈ l, dp it.core ≤ 70) → dps (l.map It.core) ≤ 70 := fun l => by
                  induction l with
                  | nil => intro _; rw [List.map_nil, dps]; omega
                  | cons y l ih => intro h; rw [List.map_cons, dps]; have h1 := h y (List.mem_cons_self ..); have h2 := ih fun z hz => h z (List.mem_cons_of_mem _ hz); omega
                have := this its hG.dp
                omega
              have hsz : sz (.mk .call (.mk (.num 0) [] :: its.map It.core)) ≤ 100010 := by
                have h1 := hG.sm.csz
                rw [cores_pres, pres_len] at h1
                rw [sz_mk, szs_cons, sz_mk, show szs [] = 0 from by rw [szs]]
                omega
              have hkl : ∀ e ∈ pre (.mk .call (.mk (.num 0) [] :: its.map It.core)), e.ks.length ≤ 1000 := fun e he => by
                rcases pre_mk.mp he with rfl | ⟨k, hk, he⟩
                · show (_ :: _ : List Co).length ≤ 1000
                  rw [List.length_cons, List.length_map]; omega
                · rcases List.mem_cons.mp hk with rfl | hk
                  · rcases pre_mk.mp he with rfl | ⟨k', hk', _⟩
                    · exact Nat.zero_le _
                    · exact nomatch hk'
                  · obtain ⟨it, hit, rfl⟩ := List.mem_map.mp hk
                    exact (hG.wd it hit e he).1
              refine ⟨pl, dn, ti, .ref b0, _, pvs, tops its, r', U', kF, kt, fun p => p ∈ pls, rfl, sC _ _ hpl15, hpa15.mono (fun _ _ z => z.tup (Tup.of sC)), hcall, hdp, hsz, hkl, sC _ _ hdn15, sC _ _ hDk, hT, hsn', hNT', hr', by omega, fun x hx => hG.sm.tnm x.1 x.2 hx, fun H18 s18 => ⟨_, rfl, iteF ?_⟩⟩
              have sD := sC.trans s18
              have hct18 := sD _ _ hct15
              have hdn18 := sD _ _ hdn15
              have hcs18 := hcs17.mono fun _ _ z => z.tup (Tup.of s18)
              -- all of them are good
              refine ⟨ct, rfl, ⟨_, SqT.of hct18⟩, fun R4 hR4 => ?_⟩
              refine lc_tpl (K := K) (a := ct) (xs := cvs) (fun k ys σ' H' => (∃ v, σ' = [none, none, none, some (.ref dn), none, none, none, none, none, none, v]) ∧ Same H18 H' ∧ H' R4 = some (.lst ys) ∧ ys = (List.replicate k true).map V.bl)
                ⟨⟨_, rfl⟩, same_upd hR4, upd_same, rfl⟩ (fun k ys σ' H' _ hP => SqT.of (hP.2.1 _ _ hct18)) ?_ ?_
              · rintro k x ys σ' H' hx ⟨⟨v, rfl⟩, sH, hRy, hys⟩
                unfold gName
                refine yes_if ?_
                have hk := (List.getElem?_eq_some_iff.mp hx).1
                obtain ⟨co, eco, hco⟩ := hcs18.at hx
                obtain ⟨it, hm, rfl⟩ := List.mem_map.mp (List.mem_of_getElem? eco)
                have hki := (List.getElem?_eq_some_iff.mp eco).1
                rw [List.length_map] at hki
                have hszi : sz it.core ≤ 100000 := by
                  have h1 := hG.sm.csz
                  obtain ⟨X, Y, e⟩ := List.append_of_mem hm
                  have eC : cores its = cores X ++ (pre it.core ++ cores Y) := by rw [e]; unfold cores; rw [List.flatMap_append, List.flatMap_cons]
                  rw [eC, List.length_append, List.length_append, pre_len] at h1
                  omega
                refine ⟨x, it.core, dn, kF, rfl, hco.tup (Tup.of sH), hG.dp it hm, hG.wd it hm, hszi, sH _ _ hdn18, hfit it hm, fun H19 s19 => ?_⟩
                refine ⟨s19 _ _ hRy, by rw [hys, List.length_map, List.length_replicate, sizeLine_eq]; omega, Beh.of hk ⟨⟨_, rfl⟩, fun e o qe => ?_, upd_same, by rw [hys, List.replicate_succ', List.map_append]; rfl⟩⟩
                rw [upd_ne (ne_of_none qe hR4)]; exact s19 _ _ (sH _ _ qe)
              · rintro ys σ' H19 ⟨_, s19, hRy, hys⟩
                exact ⟨R4, List.replicate _ true, rfl, SqL.of (by rw [hRy, hys]), by rw [List.all_replicate]; simpa using q _⟩
end
end K72

set_option Elab.async false
set_option linter.all false
set_option maxRecDepth 100000
set_option maxHeartbeats 4000000
namespace K72
open PySem L2 
/-! ### what the top has written; the law's head -/
theorem lenS {α : Type} {us : List α} {n : Nat} (h : us.length = n + 1) : ∃ a r, us = a :: r ∧ r.length = n := by
  cases us with
  | nil => exact nomatch h
  | cons a r => exact ⟨a, r, rfl, Nat.succ.inj h⟩
theorem len1 {α : Type} {us : List α} (h : us.length = 1) : ∃ a0, us = [a0] := by
  obtain ⟨a0, r0, rfl, h0⟩ := lenS h
  obtain rfl := List.eq_nil_of_length_eq_zero h0
  exact ⟨a0, rfl⟩
theorem len2 {α : Type} {us : List α} (h : us.length = 2) : ∃ a0 a1, us = [a0, a1] := by
  obtain ⟨a0, r0, rfl, h0⟩ := lenS h
  obtain ⟨a1, r1, rfl, h1⟩ := lenS h0
  obtain rfl := List.eq_nil_of_length_eq_zero h1
  exact ⟨a0, a1, rfl⟩
theorem len3 {α : Type} {us : List α} (h : us.length = 3) : ∃ a0 a1 a2, us = [a0, a1, a2] := by
  obtain ⟨a0, r0, rfl, h0⟩ := lenS h
  obtain ⟨a1, r1, rfl, h1⟩ := lenS h0
  obtain ⟨a2, r2, rfl, h2⟩ := lenS h1
  obtain rfl := List.eq_nil_of_length_eq_zero h2
  exact ⟨a0, a1, a2, rfl⟩
theorem len4 {α : Type} {us : List α} (h : us.length = 4) : ∃ a0 a1 a2 a3, us = [a0, a1, a2, a3] := by
  obtain ⟨a0, r0, rfl, h0⟩ := lenS h
  obtain ⟨a1, r1, rfl, h1⟩ := lenS h0
  obtain ⟨a2, r2, rfl, h2⟩ := lenS h1
  obtain ⟨a3, r3, rfl, h3⟩ := lenS h2
  obtain rfl := List.eq_nil_of_length_eq_zero h3
  exact ⟨a0, a1, a2, a3, rfl⟩
theorem len5 {α : Type} {us : List α} (h : us.length = 5) : ∃ a0 a1 a2 a3 a4, us = [a0, a1, a2, a3, a4] := by
  obtain ⟨a0, r0, rfl, h0⟩ := lenS h
  obtain ⟨a1, r1, rfl, h1⟩ := lenS h0
  obtain ⟨a2, r2, rfl, h2⟩ := lenS h1
  obtain ⟨a3, r3, rfl, h3⟩ := lenS h2
  obtain ⟨a4, r4, rfl, h4⟩ := lenS h3
  obtain rfl := List.eq_nil_of_length_eq_zero h4
  exact ⟨a0, a1, a2, a3, a4, rfl⟩
theorem len6 {α : Type} {us : List α} (h : us.length = 6) : ∃ a0 a1 a2 a3 a4 a5, us = [a0, a1, a2, a3, a4, a5] := by
  obtain ⟨a0, r0, rfl, h0⟩ := lenS h
  obtain ⟨a1, r1, rfl, h1⟩ := lenS h0
  obtain ⟨a2, r2, rfl, h2⟩ := lenS h1
  obtain ⟨a3, r3, rfl, h3⟩ := lenS h2
  obtain ⟨a4, r4, rfl, h4⟩ := lenS h3
  obtain ⟨a5, r5, rfl, h5⟩ := lenS h4
  obtain rfl := List.eq_nil_of_length_eq_zero h5
  exact ⟨a0, a1, a2, a3, a4, a5, rfl⟩
theorem all_mk {l : PySem.W.OpenLaw} {w : World} {K : PySem.W.Frag} {h : Heap} {mg : Str → Option Value} {fa fI fW fN fT fP fB fC fX fO fE fL fA fY fR fS fJ fU fH fK fM fQ fZ : Addr} (X : K.In h) (G : h.Ns mainGlobals mg) (hfa : mg "law" = some (.ref fa))
    {odI anI odW anW odN anN odT anT odP anP odB anB odC anC odX anX odO anO odE anE odL anL odA anA odY anY odR anR odS anS odJ anJ odU anU odH anH odK anK odM anM odQ anQ odZ anZ : Option Addr} {slI slW slN slT slP slB slC slX slO slE slL slA slY slR slS slJ slU slH slK slM slQ slZ : Array (Option Value)} {ocI kVI dcI pmI cdI ctI ocW kVW dcW pmW cdW ctW ocN kVN dcN pmN cdN ctN ocT kVT dcT pmT cdT ctT ocP kVP dcP pmP cdP ctP ocB kVB dcB pmB cdB ctB ocC kVC dcC pmC cdC ctC ocX kVX dcX pmX cdX ctX ocO kVO dcO pmO cdO ctO ocE kVE dcE pmE cdE ctE ocL kVL dcL pmL cdL ctL ocA kVA dcA pmA cdA ctA ocY kVY dcY pmY cdY ctY ocR kVR dcR pmR cdR ctR ocS kVS dcS pmS cdS ctS ocJ kVJ dcJ pmJ cdJ ctJ ocU kVU dcU pmU cdU ctU ocH kVH dcH pmH cdH ctH ocK kVK dcK pmK cdK ctK ocM kVM dcM pmM cdM ctM ocQ kVQ dcQ pmQ cdQ ctQ ocZ kVZ dcZ pmZ cdZ ctZ : Value}
    (aI : PySem.W.nsIn K mainGlobals "inner_cores" = some (some (.ref fI)))
    (lI : K.lookup fI = some ⟨ocI, odI, .func (PySem.W.fnOf "inner_cores" "inner_cores" (defArgs sInner) (defBody sInner) (defScope sInner) .none kVI dcI pmI anI cdI ctI), slI⟩)
    (cI : PySem.W.codeIn K cdI "inner_cores" = true)
    (kI : PySem.W.keepIn K (.ref fI) = true)
    (aW : PySem.W.nsIn K mainGlobals "cores_within" = some (some (.ref fW)))
    (lW : K.lookup fW = some ⟨ocW, odW, .func (PySem.W.fnOf "cores_within" "cores_within" (defArgs sWithin) (defBody sWithin) (defScope sWithin) .none kVW dcW pmW anW cdW ctW), slW⟩)
    (cW : PySem.W.codeIn K cdW "cores_within" = true)
    (kW : PySem.W.keepIn K (.ref fW) = true)
    (aN : PySem.W.nsIn K mainGlobals "names_of" = some (some (.ref fN)))
    (lN : K.lookup fN = some ⟨ocN, odN, .func (PySem.W.fnOf "names_of" "names_of" (defArgs sNames) (defBody sNames) (defScope sNames) .none kVN dcN pmN anN cdN ctN), slN⟩)
    (cN : PySem.W.codeIn K cdN "names_of" = true)
    (kN : PySem.W.keepIn K (.ref fN) = true)
    (aT : PySem.W.nsIn K mainGlobals "taken_in" = some (some (.ref fT)))
    (lT : K.lookup fT = some ⟨ocT, odT, .func (PySem.W.fnOf "taken_in" "taken_in" (defArgs sTaken) (defBody sTaken) (defScope sTaken) .none kVT dcT pmT anT cdT ctT), slT⟩)
    (cT : PySem.W.codeIn K cdT "taken_in" = true)
    (kT : PySem.W.keepIn K (.ref fT) = true)
    (aP : PySem.W.nsIn K mainGlobals "put_names" = some (some (.ref fP)))
    (lP : K.lookup fP = some ⟨ocP, odP, .func (PySem.W.fnOf "put_names" "put_names" (defArgs sPut) (defBody sPut) (defScope sPut) .none kVP dcP pmP anP cdP ctP), slP⟩)
    (cP : PySem.W.codeIn K cdP "put_names" = true)
    (kP : PySem.W.keepIn K (.ref fP) = true)
    (aB : PySem.W.nsIn K mainGlobals "numbered_name" = some (some (.ref fB)))
    (lB : K.lookup fB = some ⟨ocB, odB, .func (PySem.W.fnOf "numbered_name" "numbered_name" (defArgs sNumbered) (defBody sNumbered) (defScope sNumbered) .none kVB dcB pmB anB cdB ctB), slB⟩)
    (cB : PySem.W.codeIn K cdB "numbered_name" = true)
    (kB : PySem.W.keepIn K (.ref fB) = true)
    (aC : PySem.W.nsIn K mainGlobals "_law_cell_at" = some (some (.ref fC)))
    (lC : K.lookup fC = some ⟨ocC, odC, .func (PySem.W.fnOf "_law_cell_at" "_law_cell_at" (defArgs sCell) (defBody sCell) (defScope sCell) .none kVC dcC pmC anC cdC ctC), slC⟩)
    (cC : PySem.W.codeIn K cdC "_law_cell_at" = true)
    (kC : PySem.W.keepIn K (.ref fC) = true)
    (aX : PySem.W.nsIn K mainGlobals "_law_next" = some (some (.ref fX)))
    (lX : K.lookup fX = some ⟨ocX, odX, .func (PySem.W.fnOf "_law_next" "_law_next" (defArgs sNext) (defBody sNext) (defScope sNext) .none kVX dcX pmX anX cdX ctX), slX⟩)
    (cX : PySem.W.codeIn K cdX "_law_next" = true)
    (kX : PySem.W.keepIn K (.ref fX) = true)
    (aO : PySem.W.nsIn K mainGlobals "_law_pool" = some (some (.ref fO)))
    (lO : K.lookup fO = some ⟨ocO, odO, .func (PySem.W.fnOf "_law_pool" "_law_pool" (defArgs sPool) (defBody sPool) (defScope sPool) .none kVO dcO pmO anO cdO ctO), slO⟩)
    (cO : PySem.W.codeIn K cdO "_law_pool" = true)
    (kO : PySem.W.keepIn K (.ref fO) = true)
    (aE : PySem.W.nsIn K mainGlobals "_law_new" = some (some (.ref fE)))
    (lE : K.lookup fE = some ⟨ocE, odE, .func (PySem.W.fnOf "_law_new" "_law_new" (defArgs sNew) (defBody sNew) (defScope sNew) .none kVE dcE pmE anE cdE ctE), slE⟩)
    (cE : PySem.W.codeIn K cdE "_law_new" = true)
    (kE : PySem.W.keepIn K (.ref fE) = true)
    (aL : PySem.W.nsIn K mainGlobals "_law_leaf" = some (some (.ref fL)))
    (lL : K.lookup fL = some ⟨ocL, odL, .func (PySem.W.fnOf "_law_leaf" "_law_leaf" (defArgs sLeaf) (defBody sLeaf) (defScope sLeaf) .none kVL dcL pmL anL cdL ctL), slL⟩)
    (cL : PySem.W.codeIn K cdL "_law_leaf" = true)
    (kL : PySem.W.keepIn K (.ref fL) = true)
    (aA : PySem.W.nsIn K mainGlobals "_law_params" = some (some (.ref fA)))
    (lA : K.lookup fA = some ⟨ocA, odA, .func (PySem.W.fnOf "_law_params" "_law_params" (defArgs sParams) (defBody sParams) (defScope sParams) .none kVA dcA pmA anA cdA ctA), slA⟩)
    (cA : PySem.W.codeIn K cdA "_law_params" = true)
    (kA : PySem.W.keepIn K (.ref fA) = true)
    (aY : PySem.W.nsIn K mainGlobals "_law_many" = some (some (.ref fY)))
    (lY : K.lookup fY = some ⟨ocY, odY, .func (PySem.W.fnOf "_law_many" "_law_many" (defArgs sMany) (defBody sMany) (defScope sMany) .none kVY dcY pmY anY cdY ctY), slY⟩)
    (cY : PySem.W.codeIn K cdY "_law_many" = true)
    (kY : PySem.W.keepIn K (.ref fY) = true)
    (aR : PySem.W.nsIn K mainGlobals "_law_core" = some (some (.ref fR)))
    (lR : K.lookup fR = some ⟨ocR, odR, .func (PySem.W.fnOf "_law_core" "_law_core" (defArgs sCore) (defBody sCore) (defScope sCore) .none kVR dcR pmR anR cdR ctR), slR⟩)
    (cR : PySem.W.codeIn K cdR "_law_core" = true)
    (kR : PySem.W.keepIn K (.ref fR) = true)
    (aS : PySem.W.nsIn K mainGlobals "_law_nest" = some (some (.ref fS)))
    (lS : K.lookup fS = some ⟨ocS, odS, .func (PySem.W.fnOf "_law_nest" "_law_nest" (defArgs sNest) (defBody sNest) (defScope sNest) .none kVS dcS pmS anS cdS ctS), slS⟩)
    (cS : PySem.W.codeIn K cdS "_law_nest" = true)
    (kS : PySem.W.keepIn K (.ref fS) = true)
    (aJ : PySem.W.nsIn K mainGlobals "_law_items" = some (some (.ref fJ)))
    (lJ : K.lookup fJ = some ⟨ocJ, odJ, .func (PySem.W.fnOf "_law_items" "_law_items" (defArgs sItems) (defBody sItems) (defScope sItems) .none kVJ dcJ pmJ anJ cdJ ctJ), slJ⟩)
    (cJ : PySem.W.codeIn K cdJ "_law_items" = true)
    (kJ : PySem.W.keepIn K (.ref fJ) = true)
    (aU : PySem.W.nsIn K mainGlobals "_law_words" = some (some (.ref fU)))
    (lU : K.lookup fU = some ⟨ocU, odU, .func (PySem.W.fnOf "_law_words" "_law_words" (defArgs sWords) (defBody sWords) (defScope sWords) .none kVU dcU pmU anU cdU ctU), slU⟩)
    (cU : PySem.W.codeIn K cdU "_law_words" = true)
    (kU : PySem.W.keepIn K (.ref fU) = true)
    (aH : PySem.W.nsIn K mainGlobals "_law_first" = some (some (.ref fH)))
    (lH : K.lookup fH = some ⟨ocH, odH, .func (PySem.W.fnOf "_law_first" "_law_first" (defArgs sFirst) (defBody sFirst) (defScope sFirst) .none kVH dcH pmH anH cdH ctH), slH⟩)
    (cH : PySem.W.codeIn K cdH "_law_first" = true)
    (kH : PySem.W.keepIn K (.ref fH) = true)
    (aK : PySem.W.nsIn K mainGlobals "_law_fits" = some (some (.ref fK)))
    (lK : K.lookup fK = some ⟨ocK, odK, .func (PySem.W.fnOf "_law_fits" "_law_fits" (defArgs sFits) (defBody sFits) (defScope sFits) .none kVK dcK pmK anK cdK ctK), slK⟩)
    (cK : PySem.W.codeIn K cdK "_law_fits" = true)
    (kK : PySem.W.keepIn K (.ref fK) = true)
    (aM : PySem.W.nsIn K mainGlobals "_law_places" = some (some (.ref fM)))
    (lM : K.lookup fM = some ⟨ocM, odM, .func (PySem.W.fnOf "_law_places" "_law_places" (defArgs sPlaces) (defBody sPlaces) (defScope sPlaces) .none kVM dcM pmM anM cdM ctM), slM⟩)
    (cM : PySem.W.codeIn K cdM "_law_places" = true)
    (kM : PySem.W.keepIn K (.ref fM) = true)
    (aQ : PySem.W.nsIn K mainGlobals "_law_good" = some (some (.ref fQ)))
    (lQ : K.lookup fQ = some ⟨ocQ, odQ, .func (PySem.W.fnOf "_law_good" "_law_good" (defArgs sGood) (defBody sGood) (defScope sGood) .none kVQ dcQ pmQ anQ cdQ ctQ), slQ⟩)
    (cQ : PySem.W.codeIn K cdQ "_law_good" = true)
    (kQ : PySem.W.keepIn K (.ref fQ) = true)
    (aZ : PySem.W.nsIn K mainGlobals "law" = some (some (.ref fZ)))
    (lZ : K.lookup fZ = some ⟨ocZ, odZ, .func (PySem.W.fnOf "law" "law" (defArgs sLaw) (defBody sLaw) (defScope sLaw) .none kVZ dcZ pmZ anZ cdZ ctZ), slZ⟩)
    (cZ : PySem.W.codeIn K cdZ "law" = true)
    (kZ : PySem.W.keepIn K (.ref fZ) = true)
    (z0 : PySem.W.nsIn K mainGlobals "len" = some none)
    (z1 : PySem.W.nsIn K mainGlobals "list" = some none)
    (z2 : PySem.W.nsIn K mainGlobals "reversed" = some none)
    (z3 : PySem.W.nsIn K mainGlobals "range" = some none)
    (z4 : PySem.W.nsIn K mainGlobals "isinstance" = some none)
    (z5 : PySem.W.nsIn K mainGlobals "tuple" = some none)
    (z6 : PySem.W.nsIn K mainGlobals "dict" = some none)
    (z7 : PySem.W.nsIn K mainGlobals "all" = some none)
    (z8 : PySem.W.nsIn K mainGlobals "str" = some none)
    (z9 : PySem.W.nsIn K mainGlobals "sorted" = some none)
    : ∃ fd : FuncData, (∀ (s : Shared) (v : Value), BindsTo s fd ⟨[v], []⟩ [("_law_script", v)]) ∧ ∀ base : Heap, K.In base → base.Ns mainGlobals mg → FnOk l.prog w K mg base CX0 74 fa fd ["_law_script"] (spLaw K) := by
  have e := hfa.symm.trans (PySem.W.mg_of X G aZ)
  cases e
  have FI := fun_mk (st := sInner) lI cI kI
  have bI := FI.binds (ps := ["core"]) fun _ _ _ _ _ _ us hl => by obtain ⟨_, rfl⟩ := len1 hl; rfl
  have FW := fun_mk (st := sWithin) lW cW kW
  have bW := FW.binds (ps := ["core"]) fun _ _ _ _ _ _ us hl => by obtain ⟨_, rfl⟩ := len1 hl; rfl
  have FN := fun_mk (st := sNames) lN cN kN
  have bN := FN.binds (ps := ["items"]) fun _ _ _ _ _ _ us hl => by obtain ⟨_, rfl⟩ := len1 hl; rfl
  have FT := fun_mk (st := sTaken) lT cT kT
  have bT := FT.binds (ps := ["scope", "names"]) fun _ _ _ _ _ _ us hl => by obtain ⟨_, _, rfl⟩ := len2 hl; rfl
  have FP := fun_mk (st := sPut) lP cP kP
  have bP := FP.binds (ps := ["names", "places", "taken"]) fun _ _ _ _ _ _ us hl => by obtain ⟨_, _, _, rfl⟩ := len3 hl; rfl
  have FB := fun_mk (st := sNumbered) lB cB kB
  have bB := FB.binds (ps := ["name", "number"]) fun _ _ _ _ _ _ us hl => by obtain ⟨_, _, rfl⟩ := len2 hl; rfl
  have FC := fun_mk (st := sCell) lC cC kC
  have bC := FC.binds (ps := ["_law_script", "_law_k"]) fun _ _ _ _ _ _ us hl => by obtain ⟨_, _, rfl⟩ := len2 hl; rfl
  have FX := fun_mk (st := sNext) lX cX kX
  have bX := FX.binds (ps := ["_law_draws"]) fun _ _ _ _ _ _ us hl => by obtain ⟨_, rfl⟩ := len1 hl; rfl
  have FO := fun_mk (st := sPool) lO cO kO
  have bO := FO.binds (ps := ["_law_cell"]) fun _ _ _ _ _ _ us hl => by obtain ⟨_, rfl⟩ := len1 hl; rfl
  have FE := fun_mk (st := sNew) lE cE kE
  have bE := FE.binds (ps := ["_law_count", "_law_many_here"]) fun _ _ _ _ _ _ us hl => by obtain ⟨_, _, rfl⟩ := len2 hl; rfl
  have FL := fun_mk (st := sLeaf) lL cL kL
  have bL := FL.binds (ps := ["_law_cell", "_law_known", "_law_pool_here"]) fun _ _ _ _ _ _ us hl => by obtain ⟨_, _, _, rfl⟩ := len3 hl; rfl
  have FA := fun_mk (st := sParams) lA cA kA
  have bA := FA.binds (ps := ["_law_cell", "_law_many_here", "_law_pool_here", "_law_count"]) fun _ _ _ _ _ _ us hl => by obtain ⟨_, _, _, _, rfl⟩ := len4 hl; rfl
  have FY := fun_mk (st := sMany) lY cY kY
  have bY := FY.binds (ps := ["_law_draws", "_law_depth", "_law_known", "_law_pool_here", "_law_count", "_law_many_here"]) fun _ _ _ _ _ _ us hl => by obtain ⟨_, _, _, _, _, _, rfl⟩ := len6 hl; rfl
  have FR := fun_mk (st := sCore) lR cR kR
  have bR := FR.binds (ps := ["_law_draws", "_law_depth", "_law_known", "_law_pool_here", "_law_count"]) fun _ _ _ _ _ _ us hl => by obtain ⟨_, _, _, _, _, rfl⟩ := len5 hl; rfl
  have FS := fun_mk (st := sNest) lS cS kS
  have bS := FS.binds (ps := ["_law_cell", "_law_known", "_law_pool_here", "_law_count"]) fun _ _ _ _ _ _ us hl => by obtain ⟨_, _, _, _, rfl⟩ := len4 hl; rfl
  have FJ := fun_mk (st := sItems) lJ cJ kJ
  have bJ := FJ.binds (ps := ["_law_script", "_law_pool_here", "_law_count"]) fun _ _ _ _ _ _ us hl => by obtain ⟨_, _, _, rfl⟩ := len3 hl; rfl
  have FU := fun_mk (st := sWords) lU cU kU
  have bU := FU.binds (ps := ["_law_core_here"]) fun _ _ _ _ _ _ us hl => by obtain ⟨_, rfl⟩ := len1 hl; rfl
  have FH := fun_mk (st := sFirst) lH cH kH
  have bH := FH.binds (ps := ["_law_name", "_law_taken", "_law_found"]) fun _ _ _ _ _ _ us hl => by obtain ⟨_, _, _, rfl⟩ := len3 hl; rfl
  have FK := fun_mk (st := sFits) lK cK kK
  have bK := FK.binds (ps := ["_law_params_here", "_law_body", "_law_names", "_law_told_in"]) fun _ _ _ _ _ _ us hl => by obtain ⟨_, _, _, _, rfl⟩ := len4 hl; rfl
  have FM := fun_mk (st := sPlaces) lM cM kM
  have bM := FM.binds (ps := ["_law_core_here"]) fun _ _ _ _ _ _ us hl => by obtain ⟨_, rfl⟩ := len1 hl; rfl
  have FQ := fun_mk (st := sGood) lQ cQ kQ
  have bQ := FQ.binds (ps := ["_law_core_here", "_law_names"]) fun _ _ _ _ _ _ us hl => by obtain ⟨_, _, rfl⟩ := len2 hl; rfl
  have FZ := fun_mk (st := sLaw) lZ cZ kZ
  have mI := PySem.W.mg_of X G aI
  have mW := PySem.W.mg_of X G aW
  have mN := PySem.W.mg_of X G aN
  have mT := PySem.W.mg_of X G aT
  have mP := PySem.W.mg_of X G aP
  have mB := PySem.W.mg_of X G aB
  have mC := PySem.W.mg_of X G aC
  have mX := PySem.W.mg_of X G aX
  have mO := PySem.W.mg_of X G aO
  have mE := PySem.W.mg_of X G aE
  have mL := PySem.W.mg_of X G aL
  have mA := PySem.W.mg_of X G aA
  have mY := PySem.W.mg_of X G aY
  have mR := PySem.W.mg_of X G aR
  have mS := PySem.W.mg_of X G aS
  have mJ := PySem.W.mg_of X G aJ
  have mU := PySem.W.mg_of X G aU
  have mH := PySem.W.mg_of X G aH
  have mK := PySem.W.mg_of X G aK
  have mM := PySem.W.mg_of X G aM
  have mQ := PySem.W.mg_of X G aQ
  have T : Txt mg := ⟨PySem.W.mg_none_of X G z0, PySem.W.mg_none_of X G z1, PySem.W.mg_none_of X G z2, PySem.W.mg_none_of X G z3, PySem.W.mg_none_of X G z4, PySem.W.mg_none_of X G z5, PySem.W.mg_none_of X G z6, PySem.W.mg_none_of X G z7, PySem.W.mg_none_of X G z8, PySem.W.mg_none_of X G z9⟩
  refine ⟨PySem.W.fnOf "law" "law" (defArgs sLaw) (defBody sLaw) (defScope sLaw) .none kVZ dcZ pmZ anZ cdZ ctZ, fun s v => .of_eq rfl, fun base _ _ => ?_⟩
  have GN := (ok_names (P := l.prog) (w := w) (base := base) FN T FI bI mI FW bW mW FT bT mT FP bP mP FB bB mB).mono (show 3 ≤ 73 by decide)
  have GC := ok_cell (P := l.prog) (w := w) (base := base) FC T
  have GO := (ok_pool (P := l.prog) (w := w) (base := base) FO T).mono (show 1 ≤ 73 by decide)
  have GW := (ok_new (P := l.prog) (w := w) (base := base) FE T).mono (show 1 ≤ 12 by decide)
  have GR := ok_core (P := l.prog) (w := w) (base := base) FR T bR mR FX bX mX FL bL mL FA bA mA FY bY mY FE bE mE
  have GS := (ok_nest (P := l.prog) (w := w) (base := base) FS T FL bL mL FA bA mA FE bE mE).mono (show 3 ≤ 12 by decide)
  have GJ := (ok_items FJ T FC.kp bC mC (GC.mono (show 1 ≤ 12 by decide)) FE.kp bE mE GW FR.kp bR mR ((GR 4).mono (show 10 ≤ 12 by decide)) (GR 5) FS.kp bS mS GS).mono (show 13 ≤ 73 by decide)
  have GM := (ok_places (P := l.prog) (w := w) (base := base) FM bM mM 70).mono (show 71 ≤ 73 by decide)
  have GK := ok_fits (P := l.prog) (w := w) (base := base) FK T FU bU mU FH bH mH 71
  have GQ := ok_good (P := l.prog) (w := w) (base := base) FQ T bQ mQ FM bM mM FK bK mK FU bU mU FH bH mH 70
  exact ok_law FZ T FC.kp bC mC (GC.mono (show 1 ≤ 73 by decide)) FO.kp bO mO GO FJ.kp bJ mJ GJ FN.kp bN mN GN FM.kp bM mM GM FK.kp bK mK GK FQ.kp bQ mQ GQ
theorem walk {l : PySem.W.OpenLaw} {q : Program} {loose : List Str} {XP : (Str → Option Value) → Heap → Prop} {YP : World → Heap → Prop} {d : DefRec} {K : Params → PySem.W.Frag} (hn : l.most = some 63) (hdf : d.params.defaults = [])
    (hY : ∀ (w : World) (h : Heap), YP w h → (K w.params).In h)
    (F : ∀ (w : World) (mg : Str → Option Value) (fa : Addr) (h : Heap), (K w.params).In h → h.Ns mainGlobals mg → mg d.name = some (.ref fa) →
      ∃ fd : FuncData, (∀ (s : Shared) (u : Value), BindsTo s fd ⟨[u], []⟩ [("_law_script", u)]) ∧ ∀ base : Heap, (K w.params).In base → base.Ns mainGlobals mg → FnOk l.prog w (K w.params) mg base CX0 74 fa fd ["_law_script"] (spLaw (K w.params))) :
    PySem.W.WalkO q loose XP YP l.row.toRowW d [] (fun f vs => PySem.call f vs) :=
  L2.walk_of (n := 63) (k := 74) (x := "_law_script") (CX := fun _ => CX0) (sp := fun w => spLaw (K w.params)) hn (by decide) hdf ⟨rfl, by decide, by decide⟩ hY F (fun _ _ a ns hl _ hS => ⟨a, ns, rfl, hS, hl, fun _ => rfl⟩) fun _ _ _ _ _ z => z
end K72
open PySem PySem.W PyProof.Rows
set_option maxRecDepth 100000 in
set_option maxHeartbeats 0 in
theorem PySem.Challenge.cw_macrohouse_k72_the_first_that_may_holds : PySem.Challenge.rw_macrohouse_k72_the_first_that_may.Holds := by
  w_on; o_law; k_head; (case hw => w_witness2)
  k_fill
  refine K72.walk (l := PySem.Challenge.rw_macrohouse_k72_the_first_that_may) rfl rfl (fun w h Y => PySem.W.kIn_of Y) ?F
  case F =>
    intro w mg fa h KX G hmg
    refine' K72.all_mk KX G hmg ?aI ?lI ?cI ?kI ?aW ?lW ?cW ?kW ?aN ?lN ?cN ?kN ?aT ?lT ?cT ?kT ?aP ?lP ?cP ?kP ?aB ?lB ?cB ?kB ?aC ?lC ?cC ?kC ?aX ?lX ?cX ?kX ?aO ?lO ?cO ?kO ?aE ?lE ?cE ?kE ?aL ?lL ?cL ?kL ?aA ?lA ?cA ?kA ?aY ?lY ?cY ?kY ?aR ?lR ?cR ?kR ?aS ?lS ?cS ?kS ?aJ ?lJ ?cJ ?kJ ?aU ?lU ?cU ?kU ?aH ?lH ?cH ?kH ?aK ?lK ?cK ?kK ?aM ?lM ?cM ?kM ?aQ ?lQ ?cQ ?kQ ?aZ ?lZ ?cZ ?kZ ?z0 ?z1 ?z2 ?z3 ?z4 ?z5 ?z6 ?z7 ?z8 ?z9
    (case aI => k_is); (case lI => k_is); (case cI => k_is); (case kI => k_is); (case aW => k_is); (case lW => k_is)
    (case cW => k_is); (case kW => k_is); (case aN => k_is); (case lN => k_is); (case cN => k_is); (case kN => k_is)
    (case aT => k_is); (case lT => k_is); (case cT => k_is); (case kT => k_is); (case aP => k_is); (case lP => k_is)
    (case cP => k_is); (case kP => k_is); (case aB => k_is); (case lB => k_is); (case cB => k_is); (case kB => k_is)
    (case aC => k_is); (case lC => k_is); (case cC => k_is); (case kC => k_is); (case aX => k_is); (case lX => k_is)
    (case cX => k_is); (case kX => k_is); (case aO => k_is); (case lO => k_is); (case cO => k_is); (case kO => k_is)
    (case aE => k_is); (case lE => k_is); (case cE => k_is); (case kE => k_is); (case aL => k_is); (case lL => k_is)
    (case cL => k_is); (case kL => k_is); (case aA => k_is); (case lA => k_is); (case cA => k_is); (case kA => k_is)
    (case aY => k_is); (case lY => k_is); (case cY => k_is); (case kY => k_is); (case aR => k_is); (case lR => k_is)
    (case cR => k_is); (case kR => k_is); (case aS => k_is); (case lS => k_is); (case cS => k_is); (case kS => k_is)
    (case aJ => k_is); (case lJ => k_is); (case cJ => k_is); (case kJ => k_is); (case aU => k_is); (case lU => k_is)
    (case cU => k_is); (case kU => k_is); (case aH => k_is); (case lH => k_is); (case cH => k_is); (case kH => k_is)
    (case aK => k_is); (case lK => k_is); (case cK => k_is); (case kK => k_is); (case aM => k_is); (case lM => k_is)
    (case cM => k_is); (case kM => k_is); (case aQ => k_is); (case lQ => k_is); (case cQ => k_is); (case kQ => k_is)
    (case aZ => k_is); (case lZ => k_is); (case cZ => k_is); (case kZ => k_is); (case z0 => k_is); (case z1 => k_is)
    (case z2 => k_is); (case z3 => k_is); (case z4 => k_is); (case z5 => k_is); (case z6 => k_is); (case z7 => k_is)
    (case z8 => k_is); (case z9 => k_is)
#print axioms PySem.Challenge.cw_macrohouse_k72_the_first_that_may_holds
