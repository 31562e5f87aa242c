import PyProof.Rows.All
import PyProof.FactsAll.NoneType_1
import Wide.All
import OpenK.AllK
import Wide.FinOn
import Lean
import PyProof.EqAt
import PyProof.EqKinds
import PyProof.TupleCall
import PyProof.SetScanFacts
import PyProof.SetKind
import PyProof.DictStraight
import PyProof.DictIter
import PyProof.Seq
import PyProof.CollectWalk
import PyProof.MakeMany
import PyProof.Rows.SetFrom
import PyProof.Rows.SortShell
import PyProof.ListRange
import PyProof.SetRoads
import PyProof.NeKinds
import PyProof.SumAny
import PyProof.Rows.RuleM_int
import PyProof.ZipIter
import PyProof.EnumFor
import PyProof.EnumMake
import PyProof.EnumStmt
import PyProof.MinMaxWalk
import PyProof.Rows.CallKwBuiltin
import PyProof.DictUpdate
import PyProof.Rows.FStr
import PyProof.AttrMissHeap
import KE.KDictOf
import PyProof.DictItems
import PyProof.StrBlockH
import PyProof.StrWalks
import PyProof.StrLawsReplace
import PyProof.StrLawsTight
import PyProof.StrLawsChain
import PyProof.StrLawsIn
import PyProof.StrOps2
import PyProof.StrCalls6
import PyProof.ToksMono
import PyProof.Rows.StrNews
import PyProof.StrLawsJoin
import PyProof.AutoListH
import PySem.Challenge.RW_macrohouse_k32_variables
set_option Elab.async false
set_option linter.all false
set_option maxRecDepth 100000
/-! THE HAND LAYER, for ints, bools, texts, own classes, LISTS and tuples (index, slices, in, append, pop ..), calls, loops. Paste it whole ahead of your own text; what your proof does not reach may be deleted. -/
namespace L2
open PySem PySem.Spec PyProof.Rows

theorem hash_none {prog : Program} {w : World} {A : Around} {E : Value → Shared → Prop} {s : Shared} {Q : Int → Shared → Prop} (h : Q 0xFCA86420 { s with toks := s.toks + 1 }) : wpAny (model prog w) A (pyHash .none) Q E s := by
  have hT : s.TypeIs .none "NoneType" := rfl
  unfold pyHash
  have hv : [Value.none].any Value.onHeap = false := rfl
  refine wpAny_bind ?_
  rw [cRoomFor, if_neg (by rw [hv]; exact Bool.false_ne_true)]
  refine wpAny_pure ?_
  refine wpAny_bind (wpAny_specialOf hT PySem.F.slot_NoneType_hash.lookup ?_)
  show wpAny _ _ (if (some (Value.builtin "NoneType.__hash__") == some Value.none) = true then _ else _) Q E s
  rw [if_neg (by rw [beq_builtin_none]; exact Bool.false_ne_true)]
  refine wpAny_bind (wpAny_specialOf hT PySem.F.slot_NoneType_hash.lookup ?_)
  show wpAny _ _ (callSpecialIfBoundUnlessNone? .none "__hash__" _ >>= _) Q E s
  refine wpAny_bind (wpAny_callSpecialIfBoundUnlessNone?_slot hT PySem.F.slot_NoneType_hash (wpAny_call_entry PySem.F.slot_NoneType_hash hT PySem.F.entry_NoneType_hash (show wpAny _ _ (retInt 0xFCA86420) _ _ s from wpAny_ret_mkInt ?_) (PySem.F.args_NoneType_hash_1 _)))
  show wpAny _ _ (if (decide (-(2 : Int) ^ 63 ≤ 0xFCA86420) && decide ((0xFCA86420 : Int) < 2 ^ 63)) = true then _ else _) Q E _
  rw [if_pos (by decide)]
  exact wpAny_pure h
theorem eqb_none {prog : Program} {w : World} {A : Around} {E : Value → Shared → Prop} {s : Shared} {Q : Bool → Shared → Prop} (h : Q true s) : wpAny (model prog w) A (eqBool .none .none) Q E s := by
  exact SeqAt.EqAt.same _ _ _ _ _ h
/-- a key: None, an int or a str -/
abbrev Key := Sum (Option Int) Str
def keyIs : Key → Value → Bool
  | .inl none, v => v == Value.none
  | .inl (some k), v => Value.isInt k v
  | .inr x, v => Value.isStrOf x v
def keyH (w : World) : Key → Int
  | .inl none => 0xFCA86420
  | .inl (some k) => hashInt k
  | .inr x => hashStr w x
theorem keyIs_shape : ∀ {k : Key} {v : Value}, keyIs k v = true → (k = Sum.inl none ∧ v = Value.none) ∨ (∃ i t, k = Sum.inl (some i) ∧ v = Value.int i t) ∨ (∃ x t, k = Sum.inr x ∧ v = Value.str x t)
  | .inl none, v, h => .inl ⟨rfl, eq_of_beq h⟩
  | .inl (some i), v, h => by
    obtain ⟨t, e⟩ := Value.isInt_shape (k := i) (v := v) h
    exact .inr (.inl ⟨i, t, rfl, e⟩)
  | .inr x, v, h => by
    obtain ⟨t, e⟩ := Value.isStrOf_shape (x := x) (v := v) h
    exact .inr (.inr ⟨x, t, rfl, e⟩)
theorem keyIs_int (i : Int) (t : Tok) : keyIs (.inl (some i)) (.int i t) = true := by simp [keyIs, Value.isInt]
theorem keyIs_str (x : Str) (t : Tok) : keyIs (.inr x) (.str x t) = true := by simp [keyIs, Value.isStrOf]
theorem keyIs_none : keyIs (.inl none) .none = true := rfl
theorem key_ne {a b : Key} (h : a ≠ b) : decide (a = b) = false := decide_eq_false h
theorem key_ll (a b : Int) : decide ((Sum.inl (some a) : Key) = Sum.inl (some b)) = (a == b) := by
  by_cases e : a = b
  · subst e; simp
  · rw [key_ne fun q => e (Option.some.inj (Sum.inl.inj q))]
    exact (beq_eq_false_iff_ne.mpr e).symm
theorem key_rr (a b : Str) : decide ((Sum.inr a : Key) = Sum.inr b) = decide (a = b) := by
  by_cases e : a = b
  · subst e; simp
  · rw [key_ne fun q => e (Sum.inr.inj q), decide_eq_false e]
def mixKind (prog : Program) (w : World) : PySem.KeyKind prog w Key where
  is := keyIs
  hash := keyH w
  inj := fun v a b ha hb => by
    rcases keyIs_shape ha with ⟨rfl, rfl⟩ | ⟨i, t, rfl, rfl⟩ | ⟨x, t, rfl, rfl⟩ <;> rcases keyIs_shape hb with ⟨rfl, e⟩ | ⟨j, u, rfl, e⟩ | ⟨y, u, rfl, e⟩
    · rfl
    · exact nomatch e
    · exact nomatch e
    · exact nomatch e
    · injection e with e1 _; rw [e1]
    · exact nomatch e
    · exact nomatch e
    · exact nomatch e
    · injection e with e1 _; rw [e1]
  byValue := fun k v h => by
    rcases keyIs_shape h with ⟨rfl, rfl⟩ | ⟨i, t, rfl, rfl⟩ | ⟨x, t, rfl, rfl⟩ <;> rfl
  pyHash := fun hv h => by
    rcases keyIs_shape hv with ⟨rfl, rfl⟩ | ⟨i, t, rfl, rfl⟩ | ⟨x, t, rfl, rfl⟩
    · exact hash_none h
    · exact wpAny_pyHash_int h
    · exact wpAny_pyHash_str h
  eqBool := fun hu hv h => by
    rcases keyIs_shape hu with ⟨rfl, rfl⟩ | ⟨i, t, rfl, rfl⟩ | ⟨x, t, rfl, rfl⟩ <;> rcases keyIs_shape hv with ⟨rfl, rfl⟩ | ⟨j, u, rfl, rfl⟩ | ⟨y, u, rfl, rfl⟩
    · exact eqb_none h
    · rw [key_ne] at h
      · exact SeqAt.EqAt.none_int j u _ _ _ _ h
      · intro q; cases q
    · rw [key_ne] at h
      · exact SeqAt.EqAt.none_str y u _ _ _ _ h
      · intro q; cases q
    · rw [key_ne] at h
      · exact SeqAt.EqAt.int_none i t _ _ _ _ h
      · intro q; cases q
    · rw [key_ll] at h; exact wpAny_eqBool_int h
    · rw [key_ne] at h
      · exact SeqAt.EqAt.int_str i t y u _ _ _ _ h
      · intro q; cases q
    · rw [key_ne] at h
      · exact SeqAt.EqAt.str_none x t _ _ _ _ h
      · intro q; cases q
    · rw [key_ne] at h
      · exact SeqAt.EqAt.str_int x t j u _ _ _ _ h
      · intro q; cases q
    · rw [key_rr] at h; exact wpAny_eqBool_str h
  «strs» := fun k x t v h => by
    rcases keyIs_shape h with ⟨rfl, e⟩ | ⟨i, u, rfl, e⟩ | ⟨y, u, rfl, e⟩
    · exact nomatch e
    · exact nomatch e
    · injection e with e1 _
      subst e1
      cases v <;> rfl

theorem mixKind_none (prog : Program) (w : World) : (mixKind prog w).is (.inl none) .none = true := keyIs_none
theorem mixKind_int (prog : Program) (w : World) (i : Int) (t : Tok) : (mixKind prog w).is (.inl (some i)) (.int i t) = true := keyIs_int i t
theorem mixKind_str (prog : Program) (w : World) (x : Str) (t : Tok) : (mixKind prog w).is (.inr x) (.str x t) = true := keyIs_str x t
end L2

namespace L2
open PySem PySem.Spec PyProof.Rows

/-- a value, without the heap -/
inductive V where
  | non | bl (b : Bool) | int (i : Int) | str (x : Str) | byt (b : Array UInt8) | flt (b : UInt64) | ref (a : Addr) | ty (n : String)
  deriving DecidableEq

def RelV : V → Value → Prop
  | .non, u => u = Value.none
  | .bl b, u => u = Value.bool b
  | .int i, u => ∃ t, u = Value.int i t
  | .str x, u => ∃ t, u = Value.str x t
  | .byt b, u => ∃ t, u = Value.bytes b t
  | .flt b, u => ∃ t, u = Value.float b t
  | .ref a, u => u = Value.ref a
  | .ty n, u => u = Value.type n

abbrev Vals : List V → List Value → Prop := Paired RelV
theorem Vals.length {xs : List V} {us : List Value} (r : Vals xs us) : xs.length = us.length := Paired.length r
theorem Vals.get : ∀ {xs : List V} {us : List Value} {i : Nat} {x : V}, Vals xs us → xs[i]? = some x → ∃ u, us[i]? = some u ∧ RelV x u
  | _, _, _, _, .nil, e => by simp at e
  | _, _, 0, _, .cons r _, e => by simp at e; subst e; exact ⟨_, rfl, r⟩
  | _, _, i + 1, x, .cons _ t, e => by
    obtain ⟨u, h1, h2⟩ := Vals.get (i := i) (x := x) t (by simpa using e)
    exact ⟨u, by simpa using h1, h2⟩
theorem Vals.set {x : V} {u : Value} (r : RelV x u) : ∀ {xs : List V} {us : List Value} (i : Nat), Vals xs us → Vals (xs.set i x) (us.set i u)
  | _, _, _, .nil => .nil
  | _, _, 0, .cons _ t => .cons r t
  | _, _, i + 1, .cons q t => .cons q (Vals.set r i t)
theorem Vals.append : ∀ {xs ys : List V} {us ws : List Value}, Vals xs us → Vals ys ws → Vals (xs ++ ys) (us ++ ws)
  | _, _, _, _, .nil, s => s
  | _, _, _, _, .cons r t, s => .cons r (Vals.append t s)
theorem Vals.take : ∀ {xs : List V} {us : List Value} (n : Nat), Vals xs us → Vals (xs.take n) (us.take n)
  | _, _, 0, _ => .nil
  | _, _, _ + 1, .nil => .nil
  | _, _, n + 1, .cons r t => .cons r (Vals.take n t)
theorem Vals.drop : ∀ {xs : List V} {us : List Value} (n : Nat), Vals xs us → Vals (xs.drop n) (us.drop n)
  | _, _, 0, r => r
  | _, _, _ + 1, .nil => .nil
  | _, _, n + 1, .cons _ t => Vals.drop n t

def RelO : Option V → Option Value → Prop
  | some v, some u => RelV v u
  | none, none => True
  | _, _ => False
def KV {κ : Type} : List (κ × V) → List (κ × Value) → Prop := Paired fun (p : κ × V) (q : κ × Value) => p.1 = q.1 ∧ RelV p.2 q.2

/-- a key of a dict (00_mix): an int or a text -/
def kV : Key → V
  | .inl none => .non
  | .inl (some i) => .int i
  | .inr x => .str x

/-- what stands at a tracked address -/
inductive HO where
  /-- a list -/
  | lst (xs : List V)
  /-- a tuple (never changes) -/
  | tup (xs : List V)
  /-- a dict whose keys are ints and texts; one whose keys are tuples of ints and texts (the empty one is both) -/
  | dK (kvs : List (Key × V)) | dT (kvs : List (List Key × V))
  /-- a set of ints: its members, its size -/
  | set (S : Int → Bool) (n : Nat)
  /-- an instance of the class at C, its dict at dx, its attributes -/
  | ins (C dx : Addr) (fs : List (Str × V))
  /-- the dict of the instance at x -/
  | own (x : Addr)
  /-- the dict of an exception -/
  | xd (fs : List (Str × V))
  /-- a bound method, f of x -/
  | met (f x : Addr)
  /-- a range object lo, lo + 1, .. below hi -/
  | rng (lo hi : Int)
  /-- a thing that is known to the object (the script; a dict while a loop walks it): read, never written while it is so -/
  | frz (o : Obj) (u : HO)
  /-- a code object's table -/
  | tbl (ps : Array Value)
  /-- any other thing, by what is true of its one object (a def of one's own: SetO a S n := HO.ext fun h => ..) -/
  | ext (φ : Heap → Prop)

abbrev Hp := Addr → Option HO
def upd (H : Hp) (a : Addr) (o : HO) : Hp := fun b => if b = a then some o else H b
theorem upd_same {H : Hp} {a : Addr} {o : HO} : upd H a o a = some o := by unfold upd; rw [if_pos rfl]
theorem upd_ne {H : Hp} {a b : Addr} {o : HO} (h : b ≠ a) : upd H a o b = H b := by unfold upd; rw [if_neg h]
theorem upd_upd {H : Hp} {a : Addr} {o u : HO} : upd (upd H a o) a u = upd H a u := by
  funext b; unfold upd; split <;> rfl
/-- two objects of different content stand apart -/
theorem ne_of {H : Hp} {a b : Addr} {o u : HO} (h : H a = some o) (h' : H b = some u) (d : o ≠ u) : a ≠ b := by
  intro e; subst e; rw [h] at h'; exact d (Option.some.inj h')
theorem ne_of_none {H : Hp} {a b : Addr} {o : HO} (h : H a = some o) (h' : H b = none) : a ≠ b := by
  intro e; subst e; rw [h] at h'; cases h'

/-- a tuple of no dict of its own -/
def TupN (h : Heap) (a : Addr) (items : Array Value) : Prop := ∃ o, h.get? a = some o ∧ o.cls = .type "tuple" ∧ (∃ n, o.data = .seq items n) ∧ o.dict = none
theorem TupN.tup {h : Heap} {a : Addr} {items : Array Value} (x : TupN h a items) : IsTup h a items := let ⟨o, e, c, d, _⟩ := x; ⟨o, e, c, d⟩
theorem TupN.new (h : Heap) (items : Array Value) : TupN (h.push { cls := .type "tuple", data := .seq items }) h.objs.size items := ⟨_, Heap.get?_push_size _ rfl, rfl, ⟨_, rfl⟩, rfl⟩
section
variable (P : Program) (w : World)
def ObjOk (H : Hp) (h : Heap) (a : Addr) : HO → Prop
  | .lst xs => xs.length ≤ sizeLine ∧ ∃ (its : List Value) (n : Nat), Vals xs its ∧ h.get? a = some { cls := .type "list", data := .seq its.toArray n }
  | .tup xs => xs.length ≤ sizeLine ∧ ∃ its : List Value, Vals xs its ∧ TupN h a its.toArray
  | .dK kvs => kvs.length ≤ sizeLine ∧ (a == sysModules) = false ∧ ∃ vs, KV kvs vs ∧ h.DictOf (mixKind P w) a vs
  | .dT kvs => kvs.length ≤ sizeLine ∧ (a == sysModules) = false ∧ ∃ xs : List (List Key × Addr × Value),
      Paired (fun (p : List Key × V) (q : List Key × Addr × Value) => p.1 = q.1 ∧ H q.2.1 = some (.tup (p.1.map kV)) ∧ RelV p.2 q.2.2) kvs xs ∧
      ∃ o es ep, h.get? a = some o ∧ o.ExactDict ∧ o.data = .dict es ep ∧ es.toList = xs.map (entryOfKey (tupleKind (mixKind P w))) ∧ (xs.map (·.1)).Nodup
  | .set S n => h.SetOf (intKind P w) a S n
  | .ins C dx fs => H dx = some (.own a) ∧ fs.length ≤ 1000 ∧ dx ≠ a ∧ h.get? a = some (PySem.W.instObj C dx) ∧
      ∃ mA, h.Ns1 dx mA ∧ (∀ f, RelO (fs.lookup f) (mA f)) ∧ PySem.Within mA (fs.map (·.1))
  | .own _ => ∃ o, h.get? a = some o
  | .xd fs => ∃ mA, h.Ns1 a mA ∧ ∀ f, RelO (fs.lookup f) (mA f)
  | .rng lo hi => ∃ t u v, h.get? a = some { cls := .type "range", data := .fields #[.int lo t, .int hi u, .int 1 v] }
  | .frz o u => h.get? a = some o ∧ ObjOk H h a u
  | .tbl ps => h.get? a = some { cls := .none, data := .fields ps }
  | .met f x => h.get? a = some (PySem.W.methodObj (.ref f) (.ref x))
  | .ext φ => φ h ∧ (∃ o, h.get? a = some o) ∧ ∀ h1 h2 : Heap, φ h1 → (∀ o, h1.get? a = some o → h2.get? a = some o) → φ h2
/-- the abstract heap is held -/
def HOk (H : Hp) (h : Heap) : Prop := ∀ a o, H a = some o → ObjOk P w H h a o
end

section
variable {P : Program} {w : World} {H H' : Hp} {h h' : Heap} {a : Addr} {o : HO}
theorem ObjOk.lt (x : ObjOk P w H h a o) : a < h.objs.size := by
  cases o with
  | lst xs => obtain ⟨_, _, _, _, e⟩ := x; exact Heap.lt_size e
  | tup xs => obtain ⟨_, _, _, p⟩ := x; exact p.tup.lt
  | dK kvs => obtain ⟨_, _, _, _, o, _, _, e, _⟩ := x; exact Heap.lt_size e
  | dT kvs => obtain ⟨_, _, _, _, o, _, _, e, _⟩ := x; exact Heap.lt_size e
  | set S n => obtain ⟨o, _, _, _, e, _⟩ := x; exact Heap.lt_size e
  | ins C dx fs => obtain ⟨_, _, _, e, _⟩ := x; exact Heap.lt_size e
  | own y => obtain ⟨_, e⟩ := x; exact Heap.lt_size e
  | xd fs => obtain ⟨_, ⟨_, _, _, e, _⟩, _⟩ := x; exact Heap.lt_size e
  | rng lo hi => obtain ⟨_, _, _, e⟩ := x; exact Heap.lt_size e
  | frz ob u => obtain ⟨e, _⟩ := x; exact Heap.lt_size e
  | tbl ps => exact Heap.lt_size (show h.get? a = some _ from x)
  | met f y => exact Heap.lt_size (show h.get? a = some _ from x)
  | ext φ => obtain ⟨_, ⟨_, e⟩, _⟩ := x; exact Heap.lt_size e
theorem Paired.mapP {α β : Type} {F G : α → β → Prop} : ∀ {l₁ : List α} {l₂ : List β}, Paired F l₁ l₂ → (∀ a b, F a b → G a b) → Paired G l₁ l₂
  | _, _, .nil, _ => .nil
  | _, _, .cons r t, f => .cons (f _ _ r) (Paired.mapP t f)
/-- what an object's description leans on: its own object, its own dict, the tuples -/
theorem ObjOk.stay (x : ObjOk P w H h a o) (k : ∀ b u, (b = a ∨ H b = some (.own a)) → h.get? b = some u → h'.get? b = some u)
    (ho : ∀ b, H b = some (.own a) → H' b = some (.own a)) (ht : ∀ b xs, H b = some (.tup xs) → H' b = some (.tup xs)) : ObjOk P w H' h' a o := by
  induction o with
  | lst xs => obtain ⟨z, its, n, r, e⟩ := x; exact ⟨z, its, n, r, k _ _ (.inl rfl) e⟩
  | tup xs => obtain ⟨z, its, r, ob, e, c⟩ := x; exact ⟨z, its, r, ob, k _ _ (.inl rfl) e, c⟩
  | dK kvs => obtain ⟨z, y, vs, r, ob, es, ep, e, c⟩ := x; exact ⟨z, y, vs, r, ob, es, ep, k _ _ (.inl rfl) e, c⟩
  | dT kvs =>
    obtain ⟨z, y, xs, r, ob, es, ep, e, c⟩ := x
    exact ⟨z, y, xs, Paired.mapP r fun p q z => ⟨z.1, ht _ _ z.2.1, z.2.2⟩, ob, es, ep, k _ _ (.inl rfl) e, c⟩
  | set S n => obtain ⟨ob, es, ep, t, e, c⟩ := x; exact ⟨ob, es, ep, t, k _ _ (.inl rfl) e, c⟩
  | ins C dx fs =>
    obtain ⟨d, z, ne, e, mA, ⟨od, es, ep, e2, c⟩, r⟩ := x
    exact ⟨ho _ d, z, ne, k _ _ (.inl rfl) e, mA, ⟨od, es, ep, k _ _ (.inr d) e2, c⟩, r⟩
  | own y => obtain ⟨ob, e⟩ := x; exact ⟨ob, k _ _ (.inl rfl) e⟩
  | xd fs => obtain ⟨mA, ⟨od, es, ep, e, c⟩, r⟩ := x; exact ⟨mA, ⟨od, es, ep, k _ _ (.inl rfl) e, c⟩, r⟩
  | rng lo hi => obtain ⟨t, u, v, e⟩ := x; exact ⟨t, u, v, k _ _ (.inl rfl) e⟩
  | frz ob u ih => obtain ⟨e, q⟩ := x; exact ⟨k _ _ (.inl rfl) e, ih q⟩
  | tbl ps =>
    have e : h.get? a = some { cls := .none, data := .fields ps } := x
    show h'.get? a = some { cls := .none, data := .fields ps }
    exact k a _ (.inl rfl) e
  | met f y =>
    have e : h.get? a = some (PySem.W.methodObj (.ref f) (.ref y)) := x
    show h'.get? a = some (PySem.W.methodObj (.ref f) (.ref y))
    exact k a _ (.inl rfl) e
  | ext φ => obtain ⟨p, ⟨o, e⟩, st⟩ := x; exact ⟨st _ _ p fun o q => k _ _ (.inl rfl) q, ⟨o, k _ _ (.inl rfl) e⟩, st⟩
theorem HOk.lt (x : HOk P w H h) (e : H a = some o) : a < h.objs.size := (x a o e).lt
theorem HOk.fresh (x : HOk P w H h) (e : h.objs.size ≤ a) : H a = none := by
  cases q : H a with
  | none => rfl
  | some u => exact absurd (Nat.lt_of_lt_of_le (x.lt q) e) (Nat.lt_irrefl _)
/-- every object of the heap is kept -/
theorem HOk.kept (x : HOk P w H h) (k : ∀ b u, h.get? b = some u → h'.get? b = some u) : HOk P w H h' := fun a o e =>
  (x a o e).stay (fun b u _ q => k b u q) (fun _ q => q) fun _ _ q => q
/-- a new object is laid and tracked -/
theorem HOk.laid (x : HOk P w H h) (k : ∀ b u, h.get? b = some u → h'.get? b = some u) (hp : h.objs.size ≤ a) (new : ObjOk P w (upd H a o) h' a o) : HOk P w (upd H a o) h' := fun b u e => by
  have hn := x.fresh hp
  by_cases hb : b = a
  · subst hb; rw [upd_same] at e; cases e; exact new
  · rw [upd_ne hb] at e
    exact (x b u e).stay (fun c v _ q => k c v q) (fun c q => by rw [upd_ne (ne_of_none q hn)]; exact q) fun c xs q => by rw [upd_ne (ne_of_none q hn)]; exact q
end

/-- what may be read as u: it is u, or a known u -/
def Rd (H : Hp) (a : Addr) (u : HO) : Prop := H a = some u ∨ ∃ o, H a = some (.frz o u)
theorem Rd.ok {P : Program} {w : World} {H : Hp} {h : Heap} {a : Addr} {u : HO} (r : Rd H a u) (x : HOk P w H h) : ObjOk P w H h a u := by
  rcases r with r | ⟨o, r⟩
  · exact x a u r
  · obtain ⟨_, q⟩ := x a _ r
    exact q
/-- what may be written -/
def Mut : Option HO → Prop
  | some (.lst _) => True
  | some (.dK _) => True
  | some (.dT _) => True
  | some (.set _ _) => True
  | some (.ins _ _ _) => True
  | some (.ext _) => True
  | _ => False
section
variable {P : Program} {w : World} {H : Hp} {h h' : Heap} {x e : Addr} {o' : HO}
/-- the object at e is changed: x itself, or the dict of the instance x -/
theorem HOk.write (ok : HOk P w H h) (mu : Mut (H x)) (he : e = x ∨ H e = some (.own x)) (k : ∀ b u, b ≠ e → h.get? b = some u → h'.get? b = some u) (heo : ∃ u, h'.get? e = some u)
    (new : ObjOk P w (upd H x o') h' x o') : HOk P w (upd H x o') h' := fun b u q => by
  have nown : ∀ c y, H c = some (.own y) → c ≠ x := fun c y r z => by subst z; rw [r] at mu; exact mu
  have ntup : ∀ c xs, H c = some (.tup xs) → c ≠ x := fun c xs r z => by subst z; rw [r] at mu; exact mu
  by_cases hb : b = x
  · subst hb; rw [upd_same] at q; cases q; exact new
  · rw [upd_ne hb] at q
    by_cases hbe : b = e
    · have q' : H b = some (.own x) := by
        rcases he with z | z
        · exact absurd (hbe.trans z) hb
        · rw [hbe]; exact z
      rw [q] at q'; cases q'
      obtain ⟨v, hv⟩ := heo
      exact ⟨v, by rw [hbe]; exact hv⟩
    · refine (ok b u q).stay (fun c v hc r => k c v ?_ r) (fun c r => by rw [upd_ne (nown c b r)]; exact r) fun c xs r => by rw [upd_ne (ntup c xs r)]; exact r
      rcases hc with rfl | hc
      · exact hbe
      · rintro rfl
        rcases he with z | z
        · exact nown c b hc z
        · rw [hc] at z; cases z; exact hb rfl
end

/-! ### kept unless tracked; of the frames at fs (the callers') the slots may change (an exception that passes writes there); of the records at ex (iterators) nothing is said -/
structure Un (fs ex : List Addr) (H H' : Hp) (h h' : Heap) : Prop where
  keep : ∀ b o, h.get? b = some o → H b = none → b ∉ fs → b ∉ ex → h'.get? b = some o
  slot : ∀ b o, h.get? b = some o → H b = none → b ∈ fs → b ∉ ex → ∃ sl, h'.get? b = some { o with slots := sl }
  free : ∀ b o, h.get? b = some o → H b = none → b ∉ ex → H' b = none
  there : ∀ b o, h.get? b = some o → b ∉ ex → ∃ o', h'.get? b = some o'
  tups : ∀ b xs, H b = some (.tup xs) → H' b = some (.tup xs)
  frzs : ∀ b o u, H b = some (.frz o u) → H' b = some (.frz o u)
  tbls : ∀ b ps, H b = some (.tbl ps) → ∃ more, H' b = some (.tbl (ps ++ more))
section
variable {fs fs' ex ex' : List Addr} {H H1 H2 : Hp} {h h1 h2 h' : Heap} {a x e : Addr} {o : HO}
theorem Un.any (u : Un fs ex H H1 h h1) {b : Addr} {ob : Obj} (q : h.get? b = some ob) (n : H b = none) (hx : b ∉ ex) : ∃ sl, h1.get? b = some { ob with slots := sl } := by
  by_cases hb : b ∈ fs
  · exact u.slot b ob q n hb hx
  · exact ⟨ob.slots, u.keep b ob q n hb hx⟩
theorem Un.kept (k : ∀ b u, h.get? b = some u → h'.get? b = some u) : Un fs ex H H h h' :=
  ⟨fun b ob q _ _ _ => k b ob q, fun b ob q _ _ _ => ⟨ob.slots, k b ob q⟩, fun _ _ _ n _ => n, fun b ob q _ => ⟨ob, k b ob q⟩, fun _ _ q => q, fun _ _ _ q => q, fun _ ps q => ⟨#[], by rw [q]; simp⟩⟩
theorem Un.refl : Un fs ex H H h h := Un.kept fun _ _ q => q
theorem Un.laid (k : ∀ b u, h.get? b = some u → h'.get? b = some u) (hp : h.objs.size ≤ a) (hn : H a = none) : Un fs ex H (upd H a o) h h' where
  keep := fun b u q _ _ _ => k b u q
  slot := fun b u q _ _ _ => ⟨u.slots, k b u q⟩
  free := fun b u q n _ => by rw [upd_ne (Nat.ne_of_lt (Nat.lt_of_lt_of_le (Heap.lt_size q) hp))]; exact n
  there := fun b u q _ => ⟨u, k b u q⟩
  tups := fun b xs q => by rw [upd_ne (ne_of_none q hn)]; exact q
  frzs := fun b u xs q => by rw [upd_ne (ne_of_none q hn)]; exact q
  tbls := fun b ps q => ⟨#[], by rw [upd_ne (ne_of_none q hn), q]; simp⟩
theorem Un.write (mu : Mut (H x)) (he : e = x ∨ H e = some (.own x)) (k : ∀ b u, b ≠ e → h.get? b = some u → h'.get? b = some u) (heo : ∃ u, h'.get? e = some u) : Un fs ex H (upd H x o) h h' := by
  have hx : ∀ b, H b = none → b ≠ x := fun b n z => by subst z; rw [n] at mu; exact mu
  have hb : ∀ b, H b = none → b ≠ e := fun b n z => by
    subst z
    rcases he with r | r
    · exact hx b n r
    · rw [n] at r; cases r
  have hm : ∀ b u, H b = some u → ¬ Mut (some u) → b ≠ x := fun b u q nm z => by subst z; rw [q] at mu; exact nm mu
  refine ⟨fun b u q n _ _ => k b u (hb b n) q, fun b u q n _ _ => ⟨u.slots, k b u (hb b n) q⟩, fun b u q n _ => by rw [upd_ne (hx b n)]; exact n, fun b u q _ => ?_,
    fun b xs q => by rw [upd_ne (hm b _ q fun z => z)]; exact q, fun b u xs q => by rw [upd_ne (hm b _ q fun z => z)]; exact q, fun b ps q => ⟨#[], by rw [upd_ne (hm b _ q fun z => z), q]; simp⟩⟩
  by_cases hbe : b = e
  · subst hbe; exact heo
  · exact ⟨u, k b u hbe q⟩
end

/-! ### the heap without what is tracked -/
def trk (h : Heap) (H : Hp) : List Addr := (List.range h.objs.size).filter fun a => (H a).isSome
def hidT (h : Heap) (H : Hp) : Heap := PySem.W.hideAll h (trk h H)
theorem hidT_size (h : Heap) (H : Hp) : (hidT h H).objs.size = h.objs.size := PySem.W.hideAll_size _ _
theorem hidT_get {h : Heap} {H : Hp} {b : Addr} {o : Obj} (e : h.get? b = some o) (n : H b = none) : (hidT h H).get? b = some o :=
  PySem.W.hideAll_get _ e fun hm => by
    have q : (H b).isSome = true := (List.mem_filter.mp hm).2
    rw [n] at q; simp at q
theorem of_hidT {h : Heap} {H : Hp} {b : Addr} {o : Obj} (e : (hidT h H).get? b = some o) : h.get? b = some o ∧ H b = none := by
  have e' : h.get? b = some o := PySem.W.of_hideAll (trk h H) e
  refine ⟨e', ?_⟩
  cases q : H b with
  | none => rfl
  | some x =>
    have hm : b ∈ trk h H := List.mem_filter.mpr ⟨List.mem_range.mpr (Heap.lt_size e'), by simp [q]⟩
    have z : (hidT h H).get? b = none := PySem.W.hideAll_none (trk h H) hm
    rw [z] at e; cases e

/-! ### OpenK's ledger, filled with every new object but one -/
def allNews (g h : Heap) (L : Addr) : List (Addr × Obj) := (List.range h.objs.size).filterMap fun a => if a = L ∨ (g.get? a).isSome = true then none else (h.get? a).map fun o => (a, o)
def rest (g h : Heap) (L d : Addr) : List (Addr × Obj) := (allNews g h L).filter fun p => decide (p.1 ≠ d)
end L2

namespace L2
open PySem PySem.Spec PyProof.Rows

/-- the module's facts, over the base: the heap at the law's entry without what is tracked there -/
structure Mod (K : PySem.W.Frag) (mg : Str → Option Value) (base : Heap) : Prop where
  kin : K.In base
  glob : base.Ns mainGlobals mg
  blt : ∃ mb, base.Ns builtinsNs mb ∧ ∀ x : Str, x ≠ "__name__" → mb x = bootBuiltins x
  nolimit : base.NoLimit

/-- the context: a def's body (or a comprehension's block) running. base: fixed through the whole law; s₀, H₀: the entry; outer: the frames whose slots others may change (a def's callers); stack: all frames that run;
   ex: iterators that were made ahead of the entry and are walked here (a comprehension's); fn: the names whose cells were made at the entry (a def: all; a comprehension's block: its own); calm: not within an except suite; pn: pins that every state bears; xe: what is wanted of an exception that leaves the code -/
structure Cx where
  prog : Program
  w : World
  K : PySem.W.Frag
  mg : Str → Option Value
  base : Heap
  A : Around
  N : List Str
  s₀ : Shared
  H₀ : Hp
  env : Env
  outer : List Env
  stack : List Env
  ex : List Addr
  fn : Str → Bool
  calm : Bool
  pn : List (Addr × Obj)
  xe : Value → Shared → Prop
/-- the callers' frames -/
def frs (l : List Env) : List Addr := l.filterMap (·.frame)
abbrev Cx.fs (X : Cx) : List Addr := frs X.outer

def Vis (sc : Scope) (x : Str) : Prop := sc.names.lookup x = some .local ∨ sc.names.lookup x = some .cell ∨ sc.names.lookup x = some .free
def Loc (sc : Scope) (x : Str) : Prop := sc.names.lookup x = some .local ∨ sc.names.lookup x = some .cell
def Look (env : Env) (h : Heap) (m : Str → Option Value) (x : Str) (u : Value) : Prop :=
  (env.kindOf x = some .local ∧ m x = some u) ∨ ((env.kindOf x = some .cell ∨ env.kindOf x = some .free) ∧ ∃ c, env.cells.lookup x = some c ∧ h.IsCell c (some u))

structure Cx.Ok (X : Cx) : Prop where
  mod : Mod X.K X.mg X.base
  kind : X.env.scope.kind = .function
  glob : X.env.globals = mainGlobals
  blt : X.env.builtins = builtinsNs
  above : X.s₀.heap.objs.size ≤ X.env.locals
  inj : ∀ x y c, X.env.cells.lookup x = some c → X.env.cells.lookup y = some c → x = y
  has : ∀ x, (X.env.kindOf x = some .cell ∨ X.env.kindOf x = some .free) → ∃ c, X.env.cells.lookup x = some c
  cab : ∀ x c, X.fn x = true → X.env.cells.lookup x = some c → X.s₀.heap.objs.size ≤ c
  hd : X.calm = true → X.A.handled = none
  frames : X.A.frames = some X.stack
  stk : X.stack = X.outer ∨ (X.stack = X.env :: X.outer ∧ X.env.frame = some X.env.locals)
  exf : ∀ b ∈ X.ex, b ≠ X.env.locals ∧ ∀ x c, X.env.cells.lookup x = some c → c ≠ b
  bs : ∀ b o, X.base.get? b = some o → X.s₀.heap.get? b = some o ∧ X.H₀ b = none
  bsz : X.base.objs.size ≤ X.s₀.heap.objs.size
  noex : ∀ b o, X.base.get? b = some o → b ∉ X.ex
  exfs : ∀ b ∈ X.ex, b ∉ X.fs
  funs : X.s₀.heap.FunFrames X.base X.outer
  frf : ∀ b ∈ X.fs, X.H₀ b = none

structure Inv (X : Cx) (pins : List (Addr × Obj)) (σ : List (Option V)) (H : Hp) (s : Shared) : Prop where
  ok : X.Ok
  os : s.os = X.s₀.os
  bare : AllBare s.gens
  base : Un X.fs X.ex X.H₀ H X.s₀.heap s.heap
  loc : ∃ m, s.heap.Ns X.env.locals m ∧ ∀ (i : Nat) (x : Str) (v : V), X.N[i]? = some x → σ[i]? = some (some v) → Vis X.env.scope x → ∃ u, RelV v u ∧ Look X.env s.heap m x u
  cell : ∀ x c, X.env.cells.lookup x = some c → ∃ v, s.heap.IsCell c v
  free : H X.env.locals = none
  freeC : ∀ x c, X.env.cells.lookup x = some c → H c = none
  pin : ∀ p ∈ X.pn ++ pins, s.heap.get? p.1 = some p.2 ∧ H p.1 = none ∧ p.1 ≠ X.env.locals ∧ p.1 ∉ X.fs ∧ ∀ v, p.2.data ≠ .cell v
  hok : HOk X.prog X.w H s.heap
  len : σ.length = X.N.length

section
variable {X : Cx} {pins : List (Addr × Obj)} {σ : List (Option V)} {H H' : Hp} {s : Shared} {h' : Heap}

theorem Cx.Ok.nofr (ok : X.Ok) {b : Addr} {o : Obj} (e : X.base.get? b = some o) : b ∉ X.fs := fun hb => by
  have := (ok.funs.mem hb).1
  rw [e] at this; cases this
theorem Inv.bs (I : Inv X pins σ H s) : ∀ b o, X.base.get? b = some o → s.heap.get? b = some o ∧ H b = none := fun b o e =>
  ⟨I.base.keep b o (I.ok.bs b o e).1 (I.ok.bs b o e).2 (I.ok.nofr e) (I.ok.noex b o e), I.base.free b o (I.ok.bs b o e).1 (I.ok.bs b o e).2 (I.ok.noex b o e)⟩
theorem Inv.bk (I : Inv X pins σ H s) : ∀ b o, X.base.get? b = some o → s.heap.get? b = some o := fun b o e => (I.bs b o e).1
theorem Inv.mod (I : Inv X pins σ H s) : Mod X.K X.mg X.base := I.ok.mod
theorem Inv.kIn (I : Inv X pins σ H s) : X.K.In s.heap := I.ok.mod.kin.keeps I.bk
theorem Inv.lt (I : Inv X pins σ H s) : X.env.locals < s.heap.objs.size := let ⟨_, hn, _⟩ := I.loc; hn.lt
theorem Inv.sz (I : Inv X pins σ H s) : X.s₀.heap.objs.size ≤ s.heap.objs.size := Nat.le_trans I.ok.above (Nat.le_of_lt I.lt)
theorem Inv.nofs (I : Inv X pins σ H s) {a : Addr} (h : s.heap.objs.size ≤ a) : a ∉ X.fs := fun hb => by
  obtain ⟨_, o, ho, _⟩ := I.ok.funs.mem hb
  exact absurd (Nat.lt_of_lt_of_le (Heap.lt_size ho) (Nat.le_trans I.sz h)) (Nat.lt_irrefl _)
theorem Inv.cne (I : Inv X pins σ H s) : ∀ x c, X.env.cells.lookup x = some c → c ≠ X.env.locals := fun x c e z => by
  obtain ⟨v, o, ho, hd⟩ := I.cell x c e
  obtain ⟨m, ⟨o', es, ep, ho', hd', _⟩, _⟩ := I.loc
  rw [z, ho'] at ho; cases ho; rw [hd'] at hd; cases hd
theorem Inv.funs (I : Inv X pins σ H s) : s.heap.FunFrames X.base X.outer := by
  have all : ∀ (l : List Env), (∀ b ∈ frs l, b ∈ X.fs) → X.s₀.heap.FunFrames X.base l → s.heap.FunFrames X.base l := by
    intro l
    induction l with
    | nil => intro _ _; trivial
    | cons env r ih =>
      intro hs hl
      obtain ⟨hk, ⟨L, o, hf, hn, ho, hd⟩, hr⟩ := hl
      have hL : L ∈ X.fs := hs L (by unfold frs; rw [List.filterMap_cons, hf]; exact List.mem_cons_self)
      obtain ⟨sl, e⟩ := I.base.slot L o ho (I.ok.frf L hL) hL fun z => I.ok.exfs L z hL
      exact ⟨hk, ⟨L, _, hf, hn, e, hd⟩, ih (fun b hb => hs b (by unfold frs; rw [List.filterMap_cons, hf]; exact List.mem_cons_of_mem _ hb)) hr⟩
  exact all X.outer (fun _ hb => hb) I.ok.funs

/-- the frames that run, for a call -/
theorem Inv.stack (I : Inv X pins σ H s) : s.heap.FunFrames X.base X.stack := by
  rcases I.ok.stk with e | ⟨e, hf⟩
  · rw [e]; exact I.funs
  · rw [e]
    obtain ⟨m, hn, _⟩ := I.loc
    refine .cons (by rw [I.ok.kind]; decide) hf hn ?_ I.funs
    exact Heap.get?_none_of_le (Nat.le_trans I.ok.bsz I.ok.above)
theorem Inv.stkSub (I : Inv X pins σ H s) : ∀ b ∈ frs X.stack, b ∈ X.env.locals :: X.fs := fun b hb => by
  rcases I.ok.stk with e | ⟨e, hf⟩
  · rw [e] at hb; exact List.mem_cons_of_mem _ hb
  · rw [e] at hb
    unfold frs at hb
    rw [List.filterMap_cons, hf] at hb
    exact hb
theorem Inv.stkFree (I : Inv X pins σ H s) : ∀ b ∈ frs X.stack, H b = none := fun b hb => by
  rcases List.mem_cons.mp (I.stkSub b hb) with e | hb
  · rw [e]; exact I.free
  · obtain ⟨_, o, ho, _⟩ := I.ok.funs.mem hb
    exact I.base.free b o ho (I.ok.frf b hb) fun z => I.ok.exfs b z hb

/-- THE STEP: the untracked objects but the frame and the records at ch are kept (the callers' frames up to slots), the frame's map is kept, the new abstract heap is held -/
theorem Inv.step {g' : Array GenState} {t' : Nat} {d' : Drawn} {ch : List Addr} (I : Inv X pins σ H s)
    (hch : ∀ b ∈ ch, (b ∈ X.ex ∨ X.s₀.heap.objs.size ≤ b) ∧ b ≠ X.env.locals ∧ (∀ x c, X.env.cells.lookup x = some c → c ≠ b) ∧ ∀ p ∈ X.pn ++ pins, p.1 ≠ b)
    (keep : ∀ b o, b ≠ X.env.locals → b ∉ X.fs → b ∉ ch → s.heap.get? b = some o → H b = none → h'.get? b = some o)
    (slot : ∀ b o, b ≠ X.env.locals → b ∈ X.fs → b ∉ ch → s.heap.get? b = some o → H b = none → ∃ sl, h'.get? b = some { o with slots := sl }) (free : ∀ b o, b ∉ ch → s.heap.get? b = some o → H b = none → H' b = none)
    (there : ∀ b o, b ∉ ch → s.heap.get? b = some o → ∃ o', h'.get? b = some o')
    (tups : ∀ b xs, H b = some (.tup xs) → H' b = some (.tup xs)) (frzs : ∀ b o u, H b = some (.frz o u) → H' b = some (.frz o u)) (tbls : ∀ b ps, H b = some (.tbl ps) → ∃ more, H' b = some (.tbl (ps ++ more)))
    (ns : ∀ m, s.heap.Ns X.env.locals m → h'.Ns X.env.locals m) (hok : HOk X.prog X.w H' h') (hg : AllBare g') :
    Inv X pins σ H' { s with heap := h', gens := g', drawn := d', toks := t' } := by
  have neL : ∀ b o, X.s₀.heap.get? b = some o → b ≠ X.env.locals := fun b o e => Nat.ne_of_lt (Nat.lt_of_lt_of_le (Heap.lt_size e) I.ok.above)
  have neC : ∀ b o, X.s₀.heap.get? b = some o → b ∉ X.ex → b ∉ ch := fun b o e hx hb => by
    rcases (hch b hb).1 with z | z
    · exact hx z
    · exact absurd (Nat.lt_of_lt_of_le (Heap.lt_size e) z) (Nat.lt_irrefl _)
  have cellK : ∀ x c, X.env.cells.lookup x = some c → ∀ v, s.heap.IsCell c v → h'.IsCell c v := fun x c e v ⟨o, ho, hd⟩ => by
    have nch : c ∉ ch := fun z => (hch c z).2.2.1 x c e rfl
    by_cases hc : c ∈ X.fs
    · obtain ⟨sl, q⟩ := slot c o (I.cne x c e) hc nch ho (I.freeC x c e)
      exact ⟨_, q, hd⟩
    · exact ⟨o, keep c o (I.cne x c e) hc nch ho (I.freeC x c e), hd⟩
  refine ⟨I.ok, I.os, hg, ⟨fun b o e n hb hx => ?_, fun b o e n hb hx => ?_, fun b o e n hx => ?_, fun b o e hx => ?_, fun b xs e => tups b xs (I.base.tups b xs e), fun b o xs e => frzs b o xs (I.base.frzs b o xs e), fun b ps e => ?_⟩, ?_, fun x c e => ?_, ?_, fun x c e => ?_, fun p hp => ?_, hok, I.len⟩
  · exact keep b o (neL b o e) hb (neC b o e hx) (I.base.keep b o e n hb hx) (I.base.free b o e n hx)
  · obtain ⟨sl, e1⟩ := I.base.slot b o e n hb hx
    obtain ⟨sl', e2⟩ := slot b _ (neL b o e) hb (neC b o e hx) e1 (I.base.free b o e n hx)
    exact ⟨sl', e2⟩
  · obtain ⟨o', e1⟩ := I.base.there b o e hx
    exact free b o' (neC b o e hx) e1 (I.base.free b o e n hx)
  · obtain ⟨o', e1⟩ := I.base.there b o e hx
    exact there b o' (neC b o e hx) e1
  · obtain ⟨m1, e1⟩ := I.base.tbls b ps e
    obtain ⟨m2, e2⟩ := tbls b _ e1
    exact ⟨m1 ++ m2, by rw [e2, Array.append_assoc]⟩
  · obtain ⟨m, hn, hl⟩ := I.loc
    refine ⟨m, ns m hn, fun i x v e1 e2 e3 => ?_⟩
    obtain ⟨u, r, l⟩ := hl i x v e1 e2 e3
    refine ⟨u, r, ?_⟩
    rcases l with l | ⟨k, c, e, z⟩
    · exact .inl l
    · exact .inr ⟨k, c, e, cellK x c e _ z⟩
  · obtain ⟨v, z⟩ := I.cell x c e
    exact ⟨v, cellK x c e v z⟩
  · obtain ⟨m, ⟨o, _, _, ho, _⟩, _⟩ := I.loc
    exact free _ o (fun z => (hch _ z).2.1 rfl) ho I.free
  · obtain ⟨v, o, ho, hd⟩ := I.cell x c e
    exact free c o (fun z => (hch c z).2.2.1 x c e rfl) ho (I.freeC x c e)
  · obtain ⟨e, n, ne, nf, d⟩ := I.pin p hp
    have nch : p.1 ∉ ch := fun z => (hch p.1 z).2.2.2 p hp rfl
    exact ⟨keep p.1 p.2 ne nf nch e n, free p.1 p.2 nch e n, ne, nf, d⟩
/-- .. where the frame's own object is kept too -/
theorem Inv.un {t' : Nat} (I : Inv X pins σ H s) (u : Un X.fs [] H H' s.heap h') (hok : HOk X.prog X.w H' h') : Inv X pins σ H' { s with heap := h', toks := t' } := by
  obtain ⟨m, ⟨o, es, ep, ho, r⟩, _⟩ := id I.loc
  obtain ⟨sl, hL⟩ := u.any ho I.free (by simp)
  exact I.step (g' := s.gens) (d' := s.drawn) (ch := []) (fun _ z => nomatch z) (fun b o _ hb _ e n => u.keep b o e n hb (by simp)) (fun b o _ hb _ e n => u.slot b o e n hb (by simp)) (fun b o _ e n => u.free b o e n (by simp)) (fun b o _ e => u.there b o e (by simp)) u.tups u.frzs u.tbls (fun m' hm => by
    obtain ⟨o', es', ep', ho', r'⟩ := hm
    rw [ho] at ho'; cases ho'
    exact ⟨_, es', ep', hL, r'⟩) hok I.bare
/-- behind a call (or a comprehension's block): the slots of this frame may have changed too, the records at ch may have turned -/
theorem Inv.call {g' : Array GenState} {t' : Nat} {d' : Drawn} {ch : List Addr} (I : Inv X pins σ H s) (u : Un (frs X.stack) ch H H' s.heap h') (hok : HOk X.prog X.w H' h') (hg : AllBare g')
    (hch : ∀ b ∈ ch, (b ∈ X.ex ∨ X.s₀.heap.objs.size ≤ b) ∧ b ≠ X.env.locals ∧ (∀ x c, X.env.cells.lookup x = some c → c ≠ b) ∧ ∀ p ∈ X.pn ++ pins, p.1 ≠ b) :
    Inv X pins σ H' { s with heap := h', gens := g', drawn := d', toks := t' } := by
  obtain ⟨m, ⟨o, es, ep, ho, r⟩, _⟩ := id I.loc
  obtain ⟨sl, hL⟩ := u.any ho I.free fun z => (hch _ z).2.1 rfl
  exact I.step (ch := ch) hch (fun b o hL hb hc e n => u.keep b o e n (fun z => (List.mem_cons.mp (I.stkSub b z)).elim hL hb) hc) (fun b o _ _ hc e n => u.any e n hc) (fun b o hc e n => u.free b o e n hc) (fun b o hc e => u.there b o e hc) u.tups u.frzs u.tbls (fun m' hm => by
    obtain ⟨o', es', ep', ho', r'⟩ := hm
    rw [ho] at ho'; cases ho'
    exact ⟨_, es', ep', hL, r'⟩) hok hg
/-- an untracked record of ours (an iterator) has turned -/
theorem Inv.turned {t' : Nat} {it : Addr} (I : Inv X pins σ H s) (k : ∀ b o, b ≠ it → s.heap.get? b = some o → h'.get? b = some o) (hn : H it = none) (hL : it ≠ X.env.locals)
    (h1 : it ∈ X.ex ∨ X.s₀.heap.objs.size ≤ it) (h2 : ∀ x c, X.env.cells.lookup x = some c → c ≠ it) (h3 : ∀ p ∈ X.pn ++ pins, p.1 ≠ it) : Inv X pins σ H { s with heap := h', toks := t' } := by
  have nit : ∀ b u, H b = some u → b ≠ it := fun b u e z => by rw [z, hn] at e; cases e
  refine I.step (g' := s.gens) (d' := s.drawn) (ch := [it]) (fun b hb => ?_) (fun b o _ _ hc e _ => k b o (fun z => hc (by simp [z])) e) (fun b o _ _ hc e _ => ⟨o.slots, k b o (fun z => hc (by simp [z])) e⟩) (fun _ _ _ _ n => n)
    (fun b o hc e => ⟨o, k b o (fun z => hc (by simp [z])) e⟩) (fun _ _ e => e) (fun _ _ _ e => e) (fun b ps e => ⟨#[], by rw [e]; simp⟩) (fun m hm => ?_) (fun b u e => ?_) I.bare
  · have e : b = it := by simpa using hb
    subst e
    exact ⟨h1, hL, h2, h3⟩
  · obtain ⟨o, es, ep, ho, r⟩ := hm
    exact ⟨o, es, ep, k _ o (Ne.symm hL) ho, r⟩
  · refine (I.hok b u e).stay (fun c v hc q => k c v ?_ q) (fun _ q => q) fun _ _ q => q
    rcases hc with z | z
    · rw [z]; exact nit b u e
    · exact nit c _ z
theorem Inv.tok (I : Inv X pins σ H s) (t : Nat) : Inv X pins σ H { s with toks := t } := I.un (h' := s.heap) (t' := t) Un.refl I.hok
/-- all objects kept -/
theorem Inv.kept {t' : Nat} (I : Inv X pins σ H s) (k : ∀ b u, s.heap.get? b = some u → h'.get? b = some u) : Inv X pins σ H { s with heap := h', toks := t' } := I.un (Un.kept k) (I.hok.kept k)
/-- a new object laid and tracked -/
theorem Inv.laid {a : Addr} {o : HO} {t' : Nat} (I : Inv X pins σ H s) (k : ∀ b u, s.heap.get? b = some u → h'.get? b = some u) (hp : s.heap.objs.size ≤ a) (new : ObjOk X.prog X.w (upd H a o) h' a o) :
    Inv X pins σ (upd H a o) { s with heap := h', toks := t' } := I.un (Un.laid k hp (I.hok.fresh hp)) (I.hok.laid k hp new)
/-- an object written -/
theorem Inv.write {x e : Addr} {o : HO} {t' : Nat} (I : Inv X pins σ H s) (mu : Mut (H x)) (he : e = x ∨ H e = some (.own x)) (k : ∀ b u, b ≠ e → s.heap.get? b = some u → h'.get? b = some u) (heo : ∃ u, h'.get? e = some u)
    (new : ObjOk X.prog X.w (upd H x o) h' x o) : Inv X pins σ (upd H x o) { s with heap := h', toks := t' } := I.un (Un.write mu he k heo) (I.hok.write mu he k heo new)
theorem Inv.pins_of {pins' : List (Addr × Obj)} (I : Inv X pins σ H s) (h : ∀ p ∈ pins', s.heap.get? p.1 = some p.2 ∧ H p.1 = none ∧ p.1 ≠ X.env.locals ∧ p.1 ∉ X.fs ∧ ∀ v, p.2.data ≠ .cell v) : Inv X pins' σ H s :=
  ⟨I.ok, I.os, I.bare, I.base, I.loc, I.cell, I.free, I.freeC, fun p hp => (List.mem_append.mp hp).elim (fun z => I.pin p (List.mem_append_left _ z)) (h p), I.hok, I.len⟩

theorem nodup_ix {N : List Str} (hN : N.Nodup) {i j : Nat} {x : Str} (a : N[i]? = some x) (b : N[j]? = some x) : i = j := by
  obtain ⟨h1, e1⟩ := List.getElem?_eq_some_iff.mp a
  obtain ⟨h2, e2⟩ := List.getElem?_eq_some_iff.mp b
  exact (List.getElem_inj hN).mp (e1.trans e2.symm)

/-- a name is stored; what changed -/
theorem store_ok2 {M : Model} {A : Around} {E : Value → Shared → Prop} {i : Nat} {x : Str} {v : V} {u : Value} {Q : Unit → Shared → Prop} (I : Inv X pins σ H s) (hN : X.N.Nodup) (hi : X.N[i]? = some x) (hx : Loc X.env.scope x) (r : RelV v u)
    (h : ∀ s', Inv X pins (σ.set i (some v)) H s' → (∃ a, Heap.SameBut a s.heap s'.heap ∧ (a = X.env.locals ∨ X.env.cells.lookup x = some a)) → Q () s') (hf : X.fn x = true ∨ X.env.scope.names.lookup x = some .local := by first | exact .inl rfl | exact .inr rfl | assumption) : wpAny M A (storeName X.env x u) Q E s := by
  obtain ⟨m, hn, hl⟩ := id I.loc
  have hcls : (X.env.scope.kind == .class || (X.env.scope.kind == .module && X.env.locals != X.env.globals)) = false := by rw [I.ok.kind]; rfl
  have hiσ : i < σ.length := by rw [I.len]; exact (List.getElem?_eq_some_iff.mp hi).1
  have cne := I.cne
  have tracked : ∀ {a : Addr} {h' : Heap}, (∃ o, s.heap.get? a = some o ∧ H a = none) → Heap.SameBut a s.heap h' → HOk X.prog X.w H h' := fun {a h'} ha hs b ob e => by
    obtain ⟨_, _, hfree⟩ := ha
    refine (I.hok b ob e).stay (fun c w' hc q => (hs.2 c ?_).trans q) (fun _ q => q) fun _ _ q => q
    rintro rfl
    rcases hc with rfl | hc
    · rw [hfree] at e; cases e
    · rw [hfree] at hc; cases hc
  rcases hx with hk | hk
  · refine wpAny_storeName_local hk hn (fun h' hn' hs => ?_) hcls
    obtain ⟨oL, _, _, hoL, _⟩ := id hn
    refine h _ ⟨I.ok, I.os, I.bare, ⟨fun b o e n hb hx => ?_, fun b o e n hb hx => ?_, I.base.free, fun b o e hx => ?_, I.base.tups, I.base.frzs, I.base.tbls⟩, ⟨_, hn', fun j y v' e1 e2 e3 => ?_⟩, fun y c e => ?_, I.free, I.freeC, fun p hp => ?_, tracked ⟨oL, hoL, I.free⟩ hs, by simpa using I.len⟩ ⟨_, hs, .inl rfl⟩
    · exact (hs.2 b (Nat.ne_of_lt (Nat.lt_of_lt_of_le (Heap.lt_size e) I.ok.above))).trans (I.base.keep b o e n hb hx)
    · obtain ⟨sl, e1⟩ := I.base.slot b o e n hb hx
      exact ⟨sl, (hs.2 b (Nat.ne_of_lt (Nat.lt_of_lt_of_le (Heap.lt_size e) I.ok.above))).trans e1⟩
    · obtain ⟨o', e1⟩ := I.base.there b o e hx
      exact ⟨o', (hs.2 b (Nat.ne_of_lt (Nat.lt_of_lt_of_le (Heap.lt_size e) I.ok.above))).trans e1⟩
    · by_cases hj : j = i
      · subst hj
        rw [hi] at e1; cases e1
        rw [List.getElem?_set_self hiσ] at e2
        cases e2
        exact ⟨u, r, .inl ⟨hk, by simp⟩⟩
      · rw [List.getElem?_set_ne (Ne.symm hj)] at e2
        obtain ⟨u', r', q⟩ := hl j y v' e1 e2 e3
        refine ⟨u', r', ?_⟩
        rcases q with ⟨k, e⟩ | ⟨k, c, e, z⟩
        · refine .inl ⟨k, ?_⟩
          have : y ≠ x := fun e => hj (nodup_ix hN e1 (e ▸ hi))
          simp [this, e]
        · exact .inr ⟨k, c, e, z.sameBut hs (cne y c e)⟩
    · obtain ⟨w', z⟩ := I.cell y c e
      exact ⟨w', z.sameBut hs (cne y c e)⟩
    · obtain ⟨e, n, ne, nf, d⟩ := I.pin p hp
      exact ⟨(hs.2 p.1 ne).trans e, n, ne, nf, d⟩
  · have hfn : X.fn x = true := by
      rcases hf with z | z
      · exact z
      · rw [z] at hk; cases hk
    obtain ⟨c, hc⟩ := I.ok.has x (.inl hk)
    obtain ⟨w', z⟩ := I.cell x c hc
    refine wpAny_storeName_cell I.ok.kind hk hc z (fun h' hc' hs => ?_)
    obtain ⟨oc, hoc, hocd⟩ := id z
    refine h { s with heap := h' } ⟨I.ok, I.os, I.bare, ⟨fun b o e n hb hx => ?_, fun b o e n hb hx => ?_, I.base.free, fun b o e hx => ?_, I.base.tups, I.base.frzs, I.base.tbls⟩, ⟨m, hn.sameBut hs (Ne.symm (cne x c hc)), fun j y v' e1 e2 e3 => ?_⟩, fun y c' e => ?_, I.free, I.freeC, fun p hp => ?_, tracked ⟨oc, hoc, I.freeC x c hc⟩ hs, by simpa using I.len⟩ ⟨c, hs, .inr hc⟩
    · exact (hs.2 b (Nat.ne_of_lt (Nat.lt_of_lt_of_le (Heap.lt_size e) (I.ok.cab x c hfn hc)))).trans (I.base.keep b o e n hb hx)
    · obtain ⟨sl, e1⟩ := I.base.slot b o e n hb hx
      exact ⟨sl, (hs.2 b (Nat.ne_of_lt (Nat.lt_of_lt_of_le (Heap.lt_size e) (I.ok.cab x c hfn hc)))).trans e1⟩
    · obtain ⟨o', e1⟩ := I.base.there b o e hx
      exact ⟨o', (hs.2 b (Nat.ne_of_lt (Nat.lt_of_lt_of_le (Heap.lt_size e) (I.ok.cab x c hfn hc)))).trans e1⟩
    · by_cases hj : j = i
      · subst hj
        rw [hi] at e1; cases e1
        rw [List.getElem?_set_self hiσ] at e2
        cases e2
        exact ⟨u, r, .inr ⟨.inl hk, c, hc, hc'⟩⟩
      · rw [List.getElem?_set_ne (Ne.symm hj)] at e2
        obtain ⟨u', r', q⟩ := hl j y v' e1 e2 e3
        refine ⟨u', r', ?_⟩
        rcases q with q | ⟨k, c', e, z'⟩
        · exact .inl q
        · refine .inr ⟨k, c', e, z'.sameBut hs ?_⟩
          rintro rfl
          exact hj (nodup_ix hN e1 (I.ok.inj _ _ _ e hc ▸ hi))
    · by_cases hcc : c' = c
      · subst hcc; exact ⟨_, hc'⟩
      · obtain ⟨w2, z2⟩ := I.cell y c' e
        exact ⟨w2, z2.sameBut hs hcc⟩
    · obtain ⟨e, n, ne, nf, d⟩ := I.pin p hp
      refine ⟨(hs.2 p.1 ?_).trans e, n, ne, nf, d⟩
      intro q
      rw [q, hoc] at e
      have q' : oc = p.2 := Option.some.inj e
      exact d w' (by rw [← q']; exact hocd)
theorem store_ok {M : Model} {A : Around} {E : Value → Shared → Prop} {i : Nat} {x : Str} {v : V} {u : Value} {Q : Unit → Shared → Prop} (I : Inv X pins σ H s) (hN : X.N.Nodup) (hi : X.N[i]? = some x) (hx : Loc X.env.scope x) (r : RelV v u)
    (h : ∀ s', Inv X pins (σ.set i (some v)) H s' → Q () s') (hf : X.fn x = true ∨ X.env.scope.names.lookup x = some .local := by first | exact .inl rfl | exact .inr rfl | assumption) : wpAny M A (storeName X.env x u) Q E s :=
  store_ok2 I hN hi hx r (fun s' I' _ => h s' I') hf
/-- behind a call or a block, the state as it is -/
theorem Inv.call' {s' : Shared} {ch : List Addr} (I : Inv X pins σ H s) (ho : s'.os = s.os) (u : Un (frs X.stack) ch H H' s.heap s'.heap) (hok : HOk X.prog X.w H' s'.heap) (hg : AllBare s'.gens)
    (hch : ∀ b ∈ ch, (b ∈ X.ex ∨ X.s₀.heap.objs.size ≤ b) ∧ b ≠ X.env.locals ∧ (∀ x c, X.env.cells.lookup x = some c → c ≠ b) ∧ ∀ p ∈ X.pn ++ pins, p.1 ≠ b) : Inv X pins σ H' s' := by
  obtain ⟨h', g', d', t', o'⟩ := s'
  have e : o' = s.os := ho
  subst e
  exact I.call (g' := g') (t' := t') (d' := d') u hok hg hch
end

/-! ### the judgements -/
/-- an exception: its class, its own dict's address (where it has one), the abstract heap behind it -/
abbrev XK := Value → Option Addr → Hp → Prop
abbrev St := List (Option V)
abbrev VK := V → Hp → Prop
/-- an expression's reading; a test's; an argument list's -/
abbrev TE := St → Hp → VK → Prop
abbrev TT := St → Hp → (Bool → Hp → Prop) → Prop
abbrev TA := St → Hp → (List V → Hp → Prop) → Prop
/-- what is wanted behind a statement -/
structure Ends where
  nx : St → Hp → Prop
  rt : VK
  bk : St → Hp → Prop := fun _ _ => False
  ct : St → Hp → Prop := fun _ _ => False
abbrev TS := Ends → St → Hp → Prop

def EP (X : Cx) (pins : List (Addr × Obj)) (σ : St) (Q : VK) (u : Value) (s' : Shared) : Prop := ∃ v H', Inv X pins σ H' s' ∧ RelV v u ∧ Q v H'
def TP (X : Cx) (pins : List (Addr × Obj)) (σ : St) (Q : Bool → Hp → Prop) (b : Bool) (s' : Shared) : Prop := ∃ H', Inv X pins σ H' s' ∧ Q b H'
def AP (X : Cx) (pins : List (Addr × Obj)) (σ : St) (Q : List V → Hp → Prop) (us : List Value) (s' : Shared) : Prop := ∃ vs H', Inv X pins σ H' s' ∧ Vals vs us ∧ Q vs H'
def SP (X : Cx) (pins : List (Addr × Obj)) (D : Ends) (f : Flow) (s' : Shared) : Prop :=
  match f with
  | .next => ∃ σ' H', Inv X pins σ' H' s' ∧ D.nx σ' H'
  | .brk => ∃ σ' H', Inv X pins σ' H' s' ∧ D.bk σ' H'
  | .cont => ∃ σ' H', Inv X pins σ' H' s' ∧ D.ct σ' H'
  | .ret u => ∃ v σ' H', Inv X pins σ' H' s' ∧ RelV v u ∧ D.rt v H'

def PE (X : Cx) (e : Expr) (t : TE) : Prop :=
  ∀ (pins : List (Addr × Obj)) (s : Shared) (σ : St) (H : Hp) (Q : VK), Inv X pins σ H s → t σ H Q → wpAny (model X.prog X.w) X.A (eval e X.env) (EP X pins σ Q) X.xe s
def PT (X : Cx) (e : Expr) (t : TT) : Prop :=
  ∀ (pins : List (Addr × Obj)) (s : Shared) (σ : St) (H : Hp) (Q : Bool → Hp → Prop), Inv X pins σ H s → t σ H Q → wpAny (model X.prog X.w) X.A (isTrue e X.env (eval e X.env)) (TP X pins σ Q) X.xe s
/-- a test whatever its 'whole' is (and, or) -/
def PW (X : Cx) (e : Expr) (t : TT) : Prop :=
  ∀ (whole : Sem Value) (pins : List (Addr × Obj)) (s : Shared) (σ : St) (H : Hp) (Q : Bool → Hp → Prop), Inv X pins σ H s → t σ H Q → wpAny (model X.prog X.w) X.A (isTrue e X.env whole) (TP X pins σ Q) X.xe s
theorem PW.pt {X : Cx} {e : Expr} {t : TT} (h : PW X e t) : PT X e t := h _
/-- an argument list (no star), from the left -/
def PA (X : Cx) (es : List Expr) (t : TA) : Prop :=
  ∀ (pos : Pos) (pins : List (Addr × Obj)) (s : Shared) (σ : St) (H : Hp) (Q : List V → Hp → Prop), Inv X pins σ H s → t σ H Q → wpAny (model X.prog X.w) X.A (spliced (backTo pos (starEach es X.env))) (AP X pins σ Q) X.xe s
def PS (X : Cx) (st : Stmt) (t : TS) : Prop :=
  ∀ (pins : List (Addr × Obj)) (s : Shared) (σ : St) (H : Hp) (D : Ends), Inv X pins σ H s → t D σ H → wpAny (model X.prog X.w) X.A (exec st X.env) (SP X pins D) X.xe s
def PSs (X : Cx) (st : List Stmt) (t : TS) : Prop :=
  ∀ (pins : List (Addr × Obj)) (s : Shared) (σ : St) (H : Hp) (D : Ends), Inv X pins σ H s → t D σ H → wpAny (model X.prog X.w) X.A (execs st X.env) (SP X pins D) X.xe s
/-- weaken the end -/
theorem thn {α : Type} {t : Sem α} {Q Q' : α → Shared → Prop} {M : Model} {A : Around} {E : Value → Shared → Prop} {s : Shared} (h : wpAny M A t Q E s) (hQ : ∀ a s, Q a s → Q' a s) : wpAny M A t Q' E s := wpAny_mono h hQ fun _ _ x => x
end L2

namespace L2
open PySem PySem.Spec PyProof.Rows
section
variable {X : Cx}


/-! ### names and constants -/
def tVar (i : Nat) : TE := fun σ H Q => ∃ v, σ[i]? = some (some v) ∧ Q v H
def tC (v : V) : TE := fun _ H Q => Q v H
theorem pe_var {i : Nat} {x : Str} {pos : Pos} (hN : X.N[i]? = some x) (hv : Vis X.env.scope x) (hd : (x == ("__debug__" : Str)) = false := by decide) (hcd : (x == ("__classdict__" : Str)) = false := by decide) : PE X (.Name x pos) (tVar i) := by
  intro pins s σ H Q I h
  obtain ⟨v, e, h⟩ := h
  obtain ⟨m, hn, hl⟩ := I.loc
  obtain ⟨u, r, l⟩ := hl i x v hN e hv
  have fin : EP X pins σ Q u s := ⟨v, H, I, r, h⟩
  rcases l with ⟨hk, hm⟩ | ⟨hk, c, hc, hcell⟩
  · exact wpAny_Name (wpAny_loadName_local I.ok.kind hk hn hm fin) hd
  · rcases hk with hk | hk
    · exact wpAny_Name (wpAny_loadName_cell I.ok.kind hk hc hcell fin) hd
    · exact wpAny_Name (wpAny_loadName_free I.ok.kind hk hc hcell fin hcd) hd
theorem pe_int {i j pos} : PE X (.Constant (.int i) j pos) (tC (.int i)) := fun _ _ _ H _ I h => wpAny_Constant_int ⟨.int i, H, I.tok _, ⟨_, rfl⟩, h⟩
theorem pe_bl {b j pos} : PE X (.Constant (.bool b) j pos) (tC (.bl b)) := fun _ _ _ H _ I h => Constant_bool ⟨.bl b, H, I, rfl, h⟩
theorem pe_non {j pos} : PE X (.Constant .none j pos) (tC .non) := fun _ _ _ H _ I h => Constant_none ⟨.non, H, I, rfl, h⟩
theorem pe_str {x j pos} : PE X (.Constant (.str x) j pos) (tC (.str x)) := fun _ _ _ H _ I h => Calls.Constant_str ⟨.str x, H, I.tok _, ⟨_, rfl⟩, h⟩

/-- a global name of the def -/
def Gl (X : Cx) (x : Str) : Prop := X.env.kindOf x = some .globalImplicit
theorem ld_glob {E : Value → Shared → Prop} {pins : List (Addr × Obj)} {s : Shared} {σ : St} {H : Hp} {x : Str} {u : Value} {pos : Pos} {Q : Value → Shared → Prop} (I : Inv X pins σ H s) (hg : Gl X x) (hm : X.mg x = some u) (h : Q u s)
    (hd : (x == ("__debug__" : Str)) = false := by decide) : wpAny (model X.prog X.w) X.A (eval (.Name x pos) X.env) Q E s :=
  Calls.Name_function_global I.ok.kind hg (Calls.loadGlobal_global (by rw [I.ok.glob]; exact I.mod.glob.keeps I.bk) hm h) hd
theorem ld_blt {E : Value → Shared → Prop} {pins : List (Addr × Obj)} {s : Shared} {σ : St} {H : Hp} {x : Str} {u : Value} {pos : Pos} {Q : Value → Shared → Prop} (I : Inv X pins σ H s) (hg : Gl X x) (hm : X.mg x = none) (hv : bootBuiltins x = some u) (h : Q u s)
    (hn : x ≠ "__name__" := by decide) (hd : (x == ("__debug__" : Str)) = false := by decide) : wpAny (model X.prog X.w) X.A (eval (.Name x pos) X.env) Q E s := by
  obtain ⟨mb, h1, h2⟩ := I.mod.blt
  exact Calls.Name_function_global I.ok.kind hg (Calls.loadGlobal_builtin (by rw [I.ok.glob]; exact I.mod.glob.keeps I.bk) hm (by rw [I.ok.blt]; exact h1.keeps I.bk) ((h2 x hn).trans hv) h) hd
/-- a module's constant, a class, a function, as a value -/
theorem pe_glob {x : Str} {v : V} {u : Value} {pos : Pos} (hg : Gl X x) (hm : X.mg x = some u) (r : RelV v u) (hd : (x == ("__debug__" : Str)) = false := by decide) : PE X (.Name x pos) (tC v) :=
  fun _ _ _ H _ I h => ld_glob I hg hm ⟨v, H, I, r, h⟩ hd
theorem pe_bltn {x : Str} {v : V} {u : Value} {pos : Pos} (hg : Gl X x) (hm : X.mg x = none) (hv : bootBuiltins x = some u) (r : RelV v u) (hn : x ≠ "__name__" := by decide) (hd : (x == ("__debug__" : Str)) = false := by decide) : PE X (.Name x pos) (tC v) :=
  fun _ _ _ H _ I h => ld_blt I hg hm hv ⟨v, H, I, r, h⟩ hn hd

/-! ### arithmetic -/
variable {a b : Expr} {ta tb : TE} {pos : Pos}

/-! ### comparisons -/
def PC (X : Cx) (op : CmpOp) (a b : Expr) (t : TE) : Prop :=
  ∀ (pins : List (Addr × Obj)) (s : Shared) (σ : St) (H : Hp) (Q : VK), Inv X pins σ H s → t σ H Q →
    wpAny (model X.prog X.w) X.A (eval a X.env) (fun v s₁ => wpAny (model X.prog X.w) X.A (eval b X.env) (fun u s₂ => wpAny (model X.prog X.w) X.A (compareOp op v u) (EP X pins σ Q) X.xe s₂) X.xe s₁) X.xe s
/-- a comparison as a value, as a test -/
def tB (t : TE) : TT := fun σ H Q => t σ H fun x H1 => ∃ c, x = .bl c ∧ Q c H1
theorem pt_cmp {op : CmpOp} {t : TE} (h : PC X op a b t) (h1 : behindInMarks op b = false := by first | exact nobehind _ (by decide) (by decide) | rfl) : PT X (.Compare a [op] [b] pos) (tB t) := by
  intro pins s σ H Q I hw
  refine wpAny_isTrue_Compare1 (thn (h pins s σ H _ I hw) fun v s1 h1 => thn h1 fun u s2 h2 => thn h2 fun c s3 ⟨x, H1, I1, r1, q1⟩ => ?_) h1
  obtain ⟨d, rfl, q⟩ := q1
  cases r1
  exact wpAny_truthy_bool ⟨H1, I1, q⟩
/-- an expression whose value is a bool, as a test -/
theorem pt_val {e : Expr} {t : TE} (h : PE X e t) (he : ∀ whole, isTrue e X.env whole = (do let v ← whole; standAt e.pos; holding [v] (truthy v)) := by intro _; rfl) : PT X e (tB t) := by
  intro pins s σ H Q I hw
  refine isTrue_plain (thn (h pins s σ H _ I hw) fun v s1 ⟨x, H1, I1, r1, q1⟩ => ?_) (he _)
  obtain ⟨d, rfl, q⟩ := q1
  cases r1
  exact wpAny_truthy_bool ⟨H1, I1, q⟩

/-! ### and, or, not -/
variable {tA tB' : TT} {rest : List Expr}
def tAnd (t u : TT) : TT := fun σ H Q => t σ H fun c H1 => if c = true then u σ H1 Q else Q false H1
def tOr (t u : TT) : TT := fun σ H Q => t σ H fun c H1 => if c = true then Q true H1 else u σ H1 Q
def tNot (t : TT) : TT := fun σ H Q => t σ H fun c H1 => Q (!c) H1
theorem pw_and1 (ha : PT X a tA) : PW X (.BoolOp .And [a] pos) tA := by
  intro wh pins s σ H Q I h
  refine isTrue_and (thn (ha pins s σ H Q I h) fun c s1 e => ?_)
  cases c with
  | true => exact isTrue_and_nil e
  | false => exact e
theorem pw_or1 (ha : PT X a tA) : PW X (.BoolOp .Or [a] pos) tA := by
  intro wh pins s σ H Q I h
  refine isTrue_or (thn (ha pins s σ H Q I h) fun c s1 e => ?_)
  cases c with
  | false => exact isTrue_or_nil e
  | true => exact e
theorem pw_and (ha : PT X a tA) (hb : PW X (.BoolOp .And (b :: rest) pos) tB') : PW X (.BoolOp .And (a :: b :: rest) pos) (tAnd tA tB') := by
  intro wh pins s σ H Q I h
  refine isTrue_and (thn (ha pins s σ H _ I h) fun c s1 ⟨H1, I1, q1⟩ => ?_)
  cases c with
  | true => exact hb wh pins s1 σ H1 Q I1 q1
  | false => exact ⟨H1, I1, q1⟩
theorem pw_or (ha : PT X a tA) (hb : PW X (.BoolOp .Or (b :: rest) pos) tB') : PW X (.BoolOp .Or (a :: b :: rest) pos) (tOr tA tB') := by
  intro wh pins s σ H Q I h
  refine isTrue_or (thn (ha pins s σ H _ I h) fun c s1 ⟨H1, I1, q1⟩ => ?_)
  cases c with
  | true => exact ⟨H1, I1, q1⟩
  | false => exact hb wh pins s1 σ H1 Q I1 q1
theorem pt_not (ha : PT X a tA) : PT X (.UnaryOp .Not a pos) (tNot tA) := by
  intro pins s σ H Q I h
  exact isTrue_not (ha pins s σ H (fun c H1 => Q (!c) H1) I h)
/-- .. as values (bools) -/
def tAndV (ta tb : TE) : TE := fun σ H Q => ta σ H fun x H1 => ∃ c, x = .bl c ∧ if c = true then tb σ H1 Q else Q (.bl false) H1
theorem pe_one {op} {t : TE} (h : PE X a t) : PE X (.BoolOp op [a] pos) t := fun pins s σ H Q I hw => BoolOp_one (h pins s σ H Q I hw)
theorem pe_and (ha : PE X a ta) (hb : PE X (.BoolOp .And (b :: rest) pos) tb) : PE X (.BoolOp .And (a :: b :: rest) pos) (tAndV ta tb) := by
  intro pins s σ H Q I h
  refine BoolOp_and (thn (ha pins s σ H _ I h) fun v s1 ⟨x, H1, I1, r1, q1⟩ => ?_)
  obtain ⟨c, rfl, q1⟩ := q1
  cases r1
  refine wpAny_truthy_bool ?_
  cases c with
  | true => exact hb pins s1 σ H1 Q I1 q1
  | false => exact ⟨.bl false, H1, I1, rfl, q1⟩
/-- a if t else b -/
def tIf (t : TT) (ta tb : TE) : TE := fun σ H Q => t σ H fun c H1 => if c = true then ta σ H1 Q else tb σ H1 Q
theorem pe_ifExp {c : Expr} (hc : PT X c tA) (ha : PE X a ta) (hb : PE X b tb) : PE X (.IfExp c a b pos) (tIf tA ta tb) := by
  intro pins s σ H Q I h
  refine wpAny_IfExp (thn (hc pins s σ H _ I h) fun d s1 ⟨H1, I1, q1⟩ => ?_)
  cases d with
  | true => exact ha pins s1 σ H1 Q I1 q1
  | false => exact hb pins s1 σ H1 Q I1 q1
end
end L2

namespace L2
open PySem PySem.Spec PyProof.Rows

/-! ### a list, a tuple that is read: tracked, frozen, or an object of the module -/
def SqL (K : PySem.W.Frag) (H : Hp) (a : Addr) (xs : List V) : Prop :=
  Rd H a (.lst xs) ∨
    ∃ (o : Obj) (its : Array Value) (n : Nat), K.lookup a = some o ∧ o.cls = .type "list" ∧ o.dict = none ∧ o.data = .seq its n ∧ its.size ≤ sizeLine ∧ Vals xs its.toList
def SqT (K : PySem.W.Frag) (H : Hp) (a : Addr) (xs : List V) : Prop :=
  Rd H a (.tup xs) ∨
    ∃ (o : Obj) (its : Array Value) (n : Nat), K.lookup a = some o ∧ o.cls = .type "tuple" ∧ o.data = .seq its n ∧ its.size ≤ sizeLine ∧ Vals xs its.toList
def absV : Value → Option V
  | .none => some .non
  | .bool b => some (.bl b)
  | .int i _ => some (.int i)
  | .str x _ => some (.str x)
  | .bytes b _ => some (.byt b)
  | .float b _ => some (.flt b)
  | .ref a => some (.ref a)
  | .type n => some (.ty n)
  | _ => none
theorem RelV.abs {x : V} {u : Value} (r : RelV x u) : absV u = some x := by
  cases x with
  | non => cases r; rfl
  | bl _ => cases r; rfl
  | int _ => obtain ⟨t, rfl⟩ := r; rfl
  | str _ => obtain ⟨t, rfl⟩ := r; rfl
  | byt _ => obtain ⟨t, rfl⟩ := r; rfl
  | flt _ => obtain ⟨t, rfl⟩ := r; rfl
  | ref _ => cases r; rfl
  | ty _ => cases r; rfl
theorem RelV.inj {x y : V} {u : Value} (r : RelV x u) (q : RelV y u) : x = y := Option.some.inj (r.abs.symm.trans q.abs)
theorem Vals.inj : ∀ {xs ys : List V} {us : List Value}, Vals xs us → Vals ys us → xs = ys
  | _, _, _, .nil, .nil => rfl
  | _, _, _, .cons r t, .cons r' t' => by rw [r.inj r', Vals.inj t t']
section
variable {X : Cx} {pins : List (Addr × Obj)} {σ : St} {H : Hp} {s : Shared} {a : Addr} {xs ys : List V}
theorem SqL.of {K : PySem.W.Frag} (h : H a = some (.lst xs)) : SqL K H a xs := .inl (.inl h)
theorem SqT.of {K : PySem.W.Frag} (h : H a = some (.tup xs)) : SqT K H a xs := .inl (.inl h)
theorem Inv.list (I : Inv X pins σ H s) (h : SqL X.K H a xs) : ∃ its : List Value, Vals xs its ∧ PlainL s.heap a its.toArray ∧ xs.length ≤ sizeLine := by
  rcases h with h | ⟨o, its, n, hk, hc, hd, hs, hz, r⟩
  · obtain ⟨z, its, n, r, e⟩ := h.ok I.hok
    exact ⟨its, r, ⟨_, n, e, rfl, rfl, rfl⟩, z⟩
  · refine ⟨its.toList, r, ⟨o, n, I.kIn a o hk, hc, hd, by simpa using hs⟩, ?_⟩
    have e := r.length
    simp only [Array.length_toList] at e
    omega
theorem Inv.tuple (I : Inv X pins σ H s) (h : SqT X.K H a xs) : ∃ its : List Value, Vals xs its ∧ IsTup s.heap a its.toArray ∧ xs.length ≤ sizeLine := by
  rcases h with h | ⟨o, its, n, hk, hc, hs, hz, r⟩
  · obtain ⟨z, its, r, p⟩ := h.ok I.hok
    exact ⟨its, r, p.tup, z⟩
  · refine ⟨its.toList, r, ⟨o, I.kIn a o hk, hc, n, by simpa using hs⟩, ?_⟩
    have e := r.length
    simp only [Array.length_toList] at e
    omega
theorem Inv.list_inj (I : Inv X pins σ H s) (h : SqL X.K H a xs) (h' : SqL X.K H a ys) : xs = ys := by
  obtain ⟨its, r, ⟨o, n, e, _, _, d⟩, _⟩ := I.list h
  obtain ⟨its', r', ⟨o', n', e', _, _, d'⟩, _⟩ := I.list h'
  rw [e] at e'; cases e'
  rw [d] at d'
  injection d' with d1 _
  have : its = its' := by simpa using congrArg Array.toList d1
  subst this
  exact r.inj r'
end

/-! ### another wish about exceptions -/
abbrev Cx.wish (X : Cx) (E : Value → Shared → Prop) : Cx := { X with xe := E }
/-- no exception leaves -/
abbrev Cx.nox (X : Cx) : Cx := X.wish fun _ _ => False
theorem Cx.Ok.wish {X : Cx} (ok : X.Ok) (E : Value → Shared → Prop) : (X.wish E).Ok :=
  ⟨ok.mod, ok.kind, ok.glob, ok.blt, ok.above, ok.inj, ok.has, ok.cab, ok.hd, ok.frames, ok.stk, ok.exf, ok.bs, ok.bsz, ok.noex, ok.exfs, ok.funs, ok.frf⟩
theorem Cx.Ok.unwish {X : Cx} {E : Value → Shared → Prop} (ok : (X.wish E).Ok) : X.Ok :=
  ⟨ok.mod, ok.kind, ok.glob, ok.blt, ok.above, ok.inj, ok.has, ok.cab, ok.hd, ok.frames, ok.stk, ok.exf, ok.bs, ok.bsz, ok.noex, ok.exfs, ok.funs, ok.frf⟩
section
variable {X : Cx} {pins : List (Addr × Obj)} {σ : St} {H : Hp} {s : Shared} {E : Value → Shared → Prop}
theorem Inv.wish (I : Inv X pins σ H s) (E : Value → Shared → Prop) : Inv (X.wish E) pins σ H s := ⟨I.ok.wish E, I.os, I.bare, I.base, I.loc, I.cell, I.free, I.freeC, I.pin, I.hok, I.len⟩
theorem Inv.unwish (I : Inv (X.wish E) pins σ H s) : Inv X pins σ H s := ⟨I.ok.unwish, I.os, I.bare, I.base, I.loc, I.cell, I.free, I.freeC, I.pin, I.hok, I.len⟩
theorem SP.unwish {D : Ends} {f : Flow} {s' : Shared} (h : SP (X.wish E) pins D f s') : SP X pins D f s' := by
  cases f with
  | next => obtain ⟨σ', H', I, q⟩ := h; exact ⟨σ', H', I.unwish, q⟩
  | brk => obtain ⟨σ', H', I, q⟩ := h; exact ⟨σ', H', I.unwish, q⟩
  | cont => obtain ⟨σ', H', I, q⟩ := h; exact ⟨σ', H', I.unwish, q⟩
  | ret u => obtain ⟨v, σ', H', I, r, q⟩ := h; exact ⟨v, σ', H', I.unwish, r, q⟩
theorem PSs.nox {st : List Stmt} {t : TS} (h : PSs X.nox st t) : PSs X st t := fun pins s σ H D I hw =>
  wpAny_mono (h pins s σ H D (I.wish _) hw) (fun _ _ q => q.unwish) fun _ _ z => False.elim z
end

/-! ### blocks and small statements -/
section
variable {X : Cx} {st : Stmt} {rest : List Stmt} {t u : TS} {e : Expr} {te : TE} {pos : Pos}
def tNext : TS := fun D σ H => D.nx σ H
def tSeq (t u : TS) : TS := fun D σ H => t { D with nx := u D } σ H
theorem pss_nil : PSs X [] tNext := fun _ _ σ H _ I h => wpAny_execs_nil ⟨σ, H, I, h⟩
theorem pss_cons (h1 : PS X st t) (h2 : PSs X rest u) : PSs X (st :: rest) (tSeq t u) := by
  intro pins s σ H D I h
  refine wpAny_execs_cons (thn (h1 pins s σ H { D with nx := u D } I h) fun f s1 q => ?_)
  cases f with
  | next =>
    obtain ⟨σ', H', I', q⟩ := q
    exact h2 pins s1 σ' H' D I' q
  | ret v => exact q
  | brk => exact q
  | cont => exact q
theorem pss_one (h1 : PS X st t) : PSs X [st] t := by
  intro pins s σ H D I h
  refine wpAny_execs_cons (thn (h1 pins s σ H D I h) fun f s1 q => ?_)
  cases f with
  | next => exact wpAny_execs_nil q
  | ret v => exact q
  | brk => exact q
  | cont => exact q
/-- in a def's body nothing is shown -/
theorem Inv.quiet {pins : List (Addr × Obj)} {σ : St} {H : Hp} {s : Shared} (I : Inv X pins σ H s) : interactive X.env = false := by simp [interactive, I.ok.kind]
/-- an expression whose value is dropped -/
def tDrop (te : TE) : TS := fun D σ H => te σ H fun _ H1 => D.nx σ H1
theorem ps_expr (he : PE X e te) (hs : swapsWith e none pos.line X.env = pure false := by rfl) : PS X (.Expr e pos) (tDrop te) := by
  intro pins s σ H D I h
  exact wpAny_Expr_any (thn (he pins s σ H _ I h) fun v s1 ⟨x, H1, I1, r1, q1⟩ => ⟨σ, H1, I1, q1⟩) I.quiet hs
def tRet (te : TE) : TS := fun D σ H => te σ H D.rt
theorem ps_ret (he : PE X e te) : PS X (.Return (some e) pos) (tRet te) := by
  intro pins s σ H D I h
  exact wpAny_Return_some (thn (he pins s σ H _ I h) fun v s1 ⟨x, H1, I1, r1, q1⟩ => ⟨x, σ, H1, I1, r1, q1⟩)
def tIfS (c : TT) (t u : TS) : TS := fun D σ H => c σ H fun b H1 => if b = true then t D σ H1 else u D σ H1
theorem ps_if {c : Expr} {a b : List Stmt} {tc : TT} (hc : PT X c tc) (ha : PSs X a t) (hb : PSs X b u) : PS X (.If c a b pos) (tIfS tc t u) := by
  intro pins s σ H D I h
  refine wpAny_If (thn (hc pins s σ H _ I h) fun d s1 ⟨H1, I1, q1⟩ => ?_)
  cases d with
  | true => exact ha pins s1 σ H1 D I1 q1
  | false => exact hb pins s1 σ H1 D I1 q1
end

/-! ### targets -/
abbrev TG := V → St → Hp → (St → Hp → Prop) → Prop
abbrev TGs := List V → St → Hp → (St → Hp → Prop) → Prop
def PG (X : Cx) (target : Expr) (t : TG) : Prop :=
  ∀ (pins : List (Addr × Obj)) (s : Shared) (σ : St) (H : Hp) (v : V) (u : Value) (Q : St → Hp → Prop), Inv X pins σ H s → RelV v u → t v σ H Q →
    wpAny (model X.prog X.w) X.A (assign target X.env u) (fun _ s' => ∃ σ' H', Inv X pins σ' H' s' ∧ Q σ' H') X.xe s
/-- several targets, one after another -/
def PGs (X : Cx) (ts : List Expr) (t : TGs) : Prop :=
  ∀ (pins : List (Addr × Obj)) (s : Shared) (σ : St) (H : Hp) (vs : List V) (us : List Value) (Q : St → Hp → Prop), Inv X pins σ H s → Vals vs us → t vs σ H Q →
    wpAny (model X.prog X.w) X.A (assignInOrder ((assignEach ts X.env).map (·.2)) us) (fun _ s' => ∃ σ' H', Inv X pins σ' H' s' ∧ Q σ' H') X.xe s
/-- o[i] = v, by values -/
abbrev TSet := V → V → V → Hp → (Hp → Prop) → Prop
def PSet (X : Cx) (t : TSet) : Prop :=
  ∀ (pins : List (Addr × Obj)) (s : Shared) (σ : St) (H : Hp) (o i v : V) (ov iv u : Value) (Q : Hp → Prop), Inv X pins σ H s → RelV o ov → RelV i iv → RelV v u → t o i v H Q →
    wpAny (model X.prog X.w) X.A (setItem ov iv u) (fun _ s' => ∃ H', Inv X pins σ H' s' ∧ Q H') X.xe s
section
variable {X : Cx} {pos : Pos}
def gName (i : Nat) : TG := fun v σ H Q => Q (σ.set i (some v)) H
theorem pg_name {i : Nat} {x : Str} (hN : X.N.Nodup) (hi : X.N[i]? = some x) (hx : Loc X.env.scope x) (hf : X.fn x = true ∨ X.env.scope.names.lookup x = some .local := by first | exact .inl rfl | exact .inr rfl | assumption) : PG X (.Name x pos) (gName i) := by
  intro pins s σ H v u Q I r h
  exact wpAny_assign_Name (store_ok I hN hi hx r (fun s' I' => ⟨_, H, I', h⟩) hf)
def gNil : TGs := fun vs σ H Q => vs = [] ∧ Q σ H
def gCons (t : TG) (u : TGs) : TGs := fun vs σ H Q => ∃ v r, vs = v :: r ∧ t v σ H fun σ' H' => u r σ' H' Q
theorem pgs_nil : PGs X [] gNil := by
  intro pins s σ H vs us Q I r h
  obtain ⟨e, h⟩ := h
  subst e
  cases r
  exact assignInOrder_nil ⟨σ, H, I, h⟩
theorem pgs_cons {e : Expr} {es : List Expr} {t : TG} {u : TGs} (h1 : PG X e t) (h2 : PGs X es u)
    (hs : (assignEach (e :: es) X.env).map (·.2) = assign e X.env :: (assignEach es X.env).map (·.2) := by rfl) : PGs X (e :: es) (gCons t u) := by
  intro pins s σ H vs us Q I r h
  obtain ⟨v, vr, e1, h⟩ := h
  subst e1
  cases r with
  | cons r rr =>
    rw [hs]
    refine assignInOrder_cons (thn (h1 pins s σ H _ _ _ I r h) fun _ s1 ⟨σ1, H1, I1, q1⟩ => ?_)
    exact h2 pins s1 σ1 H1 _ _ Q I1 rr q1
/-- (a, b, ..) = a tuple of that length -/
def gTup (K : PySem.W.Frag) (n : Nat) (t : TGs) : TG := fun v σ H Q => ∃ a xs, v = .ref a ∧ SqT K H a xs ∧ xs.length = n ∧ t xs σ H Q
theorem pg_tup {es : List Expr} {k : Nat} {t : TGs} {n : Nat} (hc : X.calm = true) (h : PGs X es t)
    (hn : (assignEach es X.env).length = n := by rfl) (hst : (assignEach es X.env).findIdx? (·.1) = none := by rfl) : PG X (.Tuple es k pos) (gTup X.K n t) := by
  intro pins s σ H v u Q I r hw
  obtain ⟨a, xs, e1, hq, hl, hw⟩ := hw
  subst e1
  cases r
  obtain ⟨its, rv, ht, hz⟩ := I.tuple hq
  refine assign_Tuple_tuple (I.ok.hd hc) ht (by simp [hn, ← hl, rv.length]) hst fun h' hx => ?_
  have I1 : Inv X pins σ H { s with heap := h' } := I.kept (t' := s.toks) fun b o e => hx b o (Nat.ne_of_lt (Heap.lt_size e)) e
  exact h pins _ σ H xs _ Q I1 (by simpa using rv) hw
/-- o[i] = .. -/
def gSub (to ti : TE) (t : TSet) : TG := fun v σ H Q => to σ H fun o H1 => ti σ H1 fun i H2 => t o i v H2 fun H3 => Q σ H3
theorem pg_sub {o i : Expr} {to ti : TE} {t : TSet} (ho : PE X o to) (hi : PE X i ti) (hs : PSet X t)
    (ha : ∀ v, assign (.Subscript o i pos) X.env v = (do
      let ov ← holding [v] (eval o X.env)
      let iv ← holding [v, ov] (eval i X.env)
      standAt pos
      holding [v, ov, iv] (setItem ov iv v)
      release [v, ov, iv] []) := by intro _; rfl) : PG X (.Subscript o i pos) (gSub to ti t) := by
  intro pins s σ H v u Q I r h
  rw [ha]
  refine wpAny_bind (wpAny_holding (thn (ho pins s σ H _ I h) fun ov s1 ⟨x, H1, I1, r1, q1⟩ => ?_))
  refine wpAny_bind (wpAny_holding (thn (hi pins s1 σ H1 _ I1 q1) fun iv s2 ⟨y, H2, I2, r2, q2⟩ => ?_))
  refine wpAny_bind (wpAny_standAt (wpAny_bind (wpAny_holding (thn (hs pins s2 σ H2 x y v ov iv u _ I2 r1 r2 r q2) fun _ s3 ⟨H3, I3, q3⟩ => ?_))))
  exact wpAny_release ⟨σ, H3, I3, q3⟩
/-- target = value -/
def tAsg (te : TE) (g : TG) : TS := fun D σ H => te σ H fun x H1 => g x σ H1 D.nx
theorem ps_asg {tg e : Expr} {te : TE} {g : TG} (he : PE X e te) (hg : PG X tg g) (hs : swapsWithSole [tg] e pos.line X.env = pure false := by rfl) (hw : swappedStores [tg] e X.env = pure none := by rfl)
    (h1 : (assignEach [tg] X.env).map (·.2) = [assign tg X.env] := by rfl) : PS X (.Assign [tg] e pos) (tAsg te g) := by
  intro pins s σ H D I h
  refine wpAny_Assign_stores (thn (he pins s σ H _ I h) fun v s1 ⟨x, H1, I1, r1, q1⟩ => ?_) hs hw
  rw [h1]
  exact thn (hg pins s1 σ H1 x v _ I1 r1 q1) fun _ s2 q => q
/-- name = value -/
theorem ps_set {i : Nat} {x : Str} {e : Expr} {te : TE} {pos' : Pos} (hN : X.N.Nodup) (hi : X.N[i]? = some x) (hx : Loc X.env.scope x) (he : PE X e te) (hs : swapsWith e (some (.Name x pos')) pos.line X.env = pure false := by rfl) (hf : X.fn x = true ∨ X.env.scope.names.lookup x = some .local := by first | exact .inl rfl | exact .inr rfl | assumption) :
    PS X (.Assign [.Name x pos'] e pos) (tAsg te (gName i)) := by
  intro pins s σ H D I h
  refine wpAny_Assign_Name (thn (he pins s σ H _ I h) fun v s1 ⟨y, H1, I1, r1, q1⟩ => ?_) hs
  exact store_ok I1 hN hi hx r1 (fun s2 I2 => ⟨_, H1, I2, q1⟩) hf
end

/-! ### while -/
section
variable {X : Cx} {pos : Pos}
/-- the invariant W with its measure -/
def tWhile (c : TT) (tb : TS) : TS := fun D σ H => ∃ W : Nat → St → Hp → Prop, (∃ m, W m σ H) ∧ ∀ m σ H, W m σ H →
  c σ H fun b H1 => if b = true then ∃ N : St → Hp → Prop, (∀ σ' H', N σ' H' → ∃ m', m' < m ∧ W m' σ' H') ∧ tb { D with nx := N, ct := N, bk := D.nx } σ H1 else D.nx σ H1
theorem ps_while {c : Expr} {body : List Stmt} {tc : TT} {tb : TS} (hp : PassesOwn (model X.prog X.w) X.A X.env X.xe) (hc : PT X c tc) (hb : PSs X body tb) : PS X (.While c body [] pos) (tWhile tc tb) := by
  intro pins s σ H D I h
  obtain ⟨W, ⟨m0, w0⟩, turn⟩ := h
  refine wpAny_While (codeAny_whileLoop (fun n s' => ∃ σ' H', Inv X pins σ' H' s' ∧ W n σ' H') ?_ m0 ⟨σ, H, I, w0⟩)
  rintro n s1 ⟨σ1, H1, I1, w1⟩
  refine wpAny_passesOwn hp (thn (hc pins s1 σ1 H1 _ I1 (turn n σ1 H1 w1)) fun b s2 ⟨H2, I2, q2⟩ => ?_)
  cases b with
  | true =>
    obtain ⟨N, hN, q2⟩ := q2
    rw [if_pos rfl]
    refine wpAny_passesOwn hp (thn (hb pins s2 σ1 H2 _ I2 q2) fun f s3 q3 => ?_)
    cases f with
    | next =>
      obtain ⟨σ3, H3, I3, n3⟩ := q3
      obtain ⟨m', hm, w3⟩ := hN σ3 H3 n3
      exact ⟨m', hm, σ3, H3, I3, w3⟩
    | cont =>
      obtain ⟨σ3, H3, I3, n3⟩ := q3
      obtain ⟨m', hm, w3⟩ := hN σ3 H3 n3
      exact ⟨m', hm, σ3, H3, I3, w3⟩
    | brk => exact q3
    | ret v => exact q3
  | false =>
    rw [if_neg Bool.false_ne_true]
    exact wpAny_execs_nil ⟨σ1, H2, I2, q2⟩
end

/-! ### what a loop or a comprehension walks -/
/-- at turn i: it yields x (the heap may grow), or it stops -/
structure It where
  go : Nat → Hp → Prop
  yld : Nat → Hp → V → Hp → Prop
  stop : Nat → Hp → Prop
/-- the iterator's own objects may turn: they are not the frame's, not pinned, younger than the entry (or a comprehension's own) -/
def FpOk (X : Cx) (pins : List (Addr × Obj)) (H : Hp) (b : Addr) : Prop :=
  H b = none ∧ b ≠ X.env.locals ∧ b ∉ X.fs ∧ (b ∈ X.ex ∨ X.s₀.heap.objs.size ≤ b) ∧ (∀ x c, X.env.cells.lookup x = some c → c ≠ b) ∧ ∀ p ∈ X.pn ++ pins, p.1 ≠ b
theorem Inv.fpOk {X : Cx} {pins : List (Addr × Obj)} {σ : St} {H H' : Hp} {s : Shared} {b : Addr} (I : Inv X pins σ H s) (hb : s.heap.objs.size ≤ b) (hn : H' b = none) : FpOk X pins H' b := by
  refine ⟨hn, Nat.ne_of_gt (Nat.lt_of_lt_of_le I.lt hb), I.nofs hb, .inr (Nat.le_trans I.sz hb), fun x c e z => ?_, fun p hp z => ?_⟩
  · obtain ⟨v, q⟩ := I.cell x c e
    exact absurd (Nat.lt_of_lt_of_le q.lt (by rw [z]; exact hb)) (Nat.lt_irrefl _)
  · exact absurd (Nat.lt_of_lt_of_le (Heap.lt_size (I.pin p hp).1) (by rw [z]; exact hb)) (Nat.lt_irrefl _)
structure Turn (P : Program) (w : World) (K : PySem.W.Frag) (tg : Expr) (J : It) (fp : List Addr) (it : Addr) (tn : Nat → Heap → Prop) : Prop where
  mem : it ∈ fp
  obj : ∀ i h, tn i h → ∀ b ∈ fp, ∃ o, h.get? b = some o ∧ ∀ v, o.data ≠ .cell v
  keep : ∀ i h h', tn i h → (∀ b ∈ fp, ∀ o, h.get? b = some o → h'.get? b = some o) → tn i h'
  item : ∀ (X : Cx), X.prog = P → X.w = w → X.K = K → X.calm = true → ∀ (i : Nat) (pins : List (Addr × Obj)) (s : Shared) (σ : St) (H : Hp) (E : Value → Shared → Prop), Inv X pins σ H s → (∀ b ∈ fp, FpOk X pins H b) → tn i s.heap → J.go i H →
    wpAny (model P w) X.A (pyNext (.ref it)) (fun r s1 => ∃ u, r = some u ∧
      wpAny (model P w) X.A (letOwnedTupleGo tg (.ref it) u) (fun _ s2 => ∃ x H', Inv X pins σ H' s2 ∧ RelV x u ∧ J.yld i H x H' ∧ tn (i + 1) s2.heap ∧ ∀ b ∈ fp, H' b = none) E s1) E s
  done : ∀ (X : Cx), X.prog = P → X.w = w → X.K = K → X.calm = true → ∀ (i : Nat) (pins : List (Addr × Obj)) (s : Shared) (σ : St) (H : Hp) (E : Value → Shared → Prop), Inv X pins σ H s → (∀ b ∈ fp, FpOk X pins H b) → tn i s.heap → J.stop i H →
    wpAny (model P w) X.A (pyNext (.ref it)) (fun r s1 => r = none ∧ Inv X pins σ H s1) E s
  self : ∀ (A : Around) (i : Nat) (s : Shared) (Q : Value → Shared → Prop) (E : Value → Shared → Prop), tn i s.heap → Q (.ref it) s → wpAny (model P w) A (pyIter (.ref it)) Q E s
abbrev TI := St → Hp → (It → Hp → Prop) → Prop
/-- an iterator has come -/
def PIE (X : Cx) (pins : List (Addr × Obj)) (σ : St) (tg : Expr) (R : It → Hp → Prop) (itv : Value) (s2 : Shared) : Prop :=
  ∃ (it : Addr) (fp : List Addr) (tn : Nat → Heap → Prop) (J : It) (H' : Hp), itv = .ref it ∧ Inv X pins σ H' s2 ∧ Turn X.prog X.w X.K tg J fp it tn ∧ tn 0 s2.heap ∧ (∀ b ∈ fp, FpOk X pins H' b) ∧ R J H'
def PI (X : Cx) (tg iter : Expr) (wi : TI) : Prop :=
  ∀ (pins : List (Addr × Obj)) (s : Shared) (σ : St) (H : Hp) (R : It → Hp → Prop), Inv X pins σ H s → wi σ H R →
    wpAny (model X.prog X.w) X.A (eval iter X.env) (fun v s1 => wpAny (model X.prog X.w) X.A (pyIter v) (PIE X pins σ tg R) X.xe s1) X.xe s

/-- the step ahead of the store is nothing for an iterator that keeps no tuple -/
theorem go_of {M : Model} {A : Around} {E : Value → Shared → Prop} {s : Shared} {tg : Expr} {it : Addr} {u : Value} {o : Obj} {n : String} {vs : Array Value} {Q : Unit → Shared → Prop} (ho : s.heap.get? it = some o) (hc : o.cls = .type n) (hd : o.data = .fields vs)
    (hn : ["enumerate", "zip", "dict_itemiterator", "dict_reverseitemiterator", "odict_iterator", "itertools.zip_longest", "itertools.pairwise"].contains n = false) (hQ : Q () s) : wpAny M A (letOwnedTupleGo tg (.ref it) u) Q E s := by
  unfold letOwnedTupleGo
  cases tg <;> first
    | exact wpAny_pure hQ
    | (cases u <;> first
        | exact wpAny_pure hQ
        | (refine wpAny_bind (wpAny_load ho ?_)
           rw [hc, hd]
           show wpAny M A (if (["enumerate", "zip", "dict_itemiterator", "dict_reverseitemiterator", "odict_iterator", "itertools.zip_longest", "itertools.pairwise"].contains n && vs[0]? == some (rawInt _)) = true then _ else _) Q E s
           rw [if_neg (by intro h; rw [hn, Bool.false_and] at h; cases h)]
           exact wpAny_pure hQ))

/-- the list at a, as it stands at each turn (a loop may append to it) -/
def Itl (K : PySem.W.Frag) (a : Addr) : It :=
  ⟨fun i H => ∃ xs x, SqL K H a xs ∧ xs[i]? = some x, fun i H x H' => H' = H ∧ ∀ xs, SqL K H a xs → xs[i]? = some x, fun i H => ∃ xs, SqL K H a xs ∧ xs.length ≤ i⟩
theorem turn_list {P : Program} {w : World} {K : PySem.W.Frag} {tg : Expr} (a it : Addr) : Turn P w K tg (Itl K a) [it] it (fun i h => h.IsListIter it a i) where
  mem := by simp
  obj := fun i h st b hb => by
    have e : b = it := by simpa using hb
    subst e
    obtain ⟨o, e, c, d⟩ := st
    exact ⟨o, e, fun v z => by rw [d] at z; cases z⟩
  keep := fun i h h' st k => st.at fun o e => k it (by simp) o e
  item := by
    intro X hP hw hK hc i pins s σ H E I hf st hg
    subst hP hw hK
    obtain ⟨xs, x, hq, hx⟩ := hg
    obtain ⟨its, rv, p, hz⟩ := I.list hq
    obtain ⟨u, hu, ru⟩ := rv.get hx
    obtain ⟨f0, f1, f2, f3, f4, f5⟩ := hf it (by simp)
    refine wpAny_pyNext_list_item st p.isList (x := u) (by simpa using hu) fun h' st' sb => ?_
    have I1 : Inv X pins σ H { s with heap := h' } := I.turned (t' := s.toks) (fun b o hb e => (sb.2 b hb).trans e) f0 f1 f3 f4 f5
    obtain ⟨o, e, c, d⟩ := id st'
    exact ⟨u, rfl, go_of (s := { s with heap := h' }) e c d (by decide) ⟨x, H, I1, ru, ⟨rfl, fun ys hy => by rw [I.list_inj hy hq]; exact hx⟩, st', fun b hb => (hf b hb).1⟩⟩
  done := by
    intro X hP hw hK hc i pins s σ H E I hf st hg
    subst hP hw hK
    obtain ⟨xs, hq, hx⟩ := hg
    obtain ⟨its, rv, p, hz⟩ := I.list hq
    obtain ⟨f0, f1, f2, f3, f4, f5⟩ := hf it (by simp)
    have hl := rv.length
    exact wpAny_pyNext_list_end (I.ok.hd hc) st p.isList (by simp; omega) fun h' eb => ⟨rfl, I.turned (t' := s.toks) (fun b o hb e => eb b o hb e) f0 f1 f3 f4 f5⟩
  self := fun _ _ _ _ _ st h => wpAny_pyIter_listiter st h
end L2

namespace L2
open PySem PySem.Spec PyProof.Rows
section
variable {X : Cx} {tg : Expr}
def iList (K : PySem.W.Frag) (tl : TE) : TI := fun σ H R => tl σ H fun x H1 => ∃ a, x = .ref a ∧ (∃ xs, SqL K H1 a xs) ∧ R (Itl K a) H1
theorem pi_list {l : Expr} {tl : TE} (hl : PE X l tl) : PI X tg l (iList X.K tl) := by
  intro pins s σ H R I h
  refine thn (hl pins s σ H _ I h) fun v s1 ⟨x, H1, I1, r1, q1⟩ => ?_
  obtain ⟨a, e, ⟨xs, hq⟩, q⟩ := q1
  subst e
  cases r1
  obtain ⟨its, rv, p, hz⟩ := I1.list hq
  refine wpAny_pyIter_list p.isList ?_
  refine ⟨s1.heap.objs.size, [s1.heap.objs.size], _, _, H1, rfl, I1.kept (t' := s1.toks) fun b o e => Heap.get?_push_of_some _ e, turn_list a _, ⟨_, Heap.get?_push_size _ rfl, rfl, rfl⟩, fun b hb => ?_, q⟩
  have e : b = s1.heap.objs.size := by simpa using hb
  subst e
  exact I1.fpOk (Nat.le_refl _) (I1.hok.fresh (Nat.le_refl _))

/-! ### for -/
/-- W: the invariant by the turn and a measure; N: what the body is to reach -/
def tFor (wi : TI) (g : TG) (tb : TS) : TS := fun D σ H => wi σ H fun J H1 => ∃ W : Nat → Nat → St → Hp → Prop, (∃ m, W 0 m σ H1) ∧ ∀ i m σ H, W i m σ H →
  (J.stop i H ∧ D.nx σ H) ∨ (J.go i H ∧ ∃ N : St → Hp → Prop, (∀ σ' H', N σ' H' → ∃ m', m' < m ∧ W (i + 1) m' σ' H') ∧ ∀ x H', J.yld i H x H' → g x σ H' fun σ2 H2 => tb { D with nx := N, ct := N, bk := D.nx } σ2 H2)
/-- the records at fp as they stand -/
def pinsAt (fp : List Addr) (h : Heap) : List (Addr × Obj) := fp.filterMap fun b => (h.get? b).map fun o => (b, o)
theorem mem_pinsAt {fp : List Addr} {h : Heap} {b : Addr} {o : Obj} (hb : b ∈ fp) (e : h.get? b = some o) : (b, o) ∈ pinsAt fp h := List.mem_filterMap.mpr ⟨b, hb, by rw [e]; rfl⟩
theorem of_pinsAt {fp : List Addr} {h : Heap} {p : Addr × Obj} (hp : p ∈ pinsAt fp h) : p.1 ∈ fp ∧ h.get? p.1 = some p.2 := by
  obtain ⟨b, hb, e⟩ := List.mem_filterMap.mp hp
  cases q : h.get? b with
  | none => rw [q] at e; cases e
  | some o =>
    rw [q] at e
    have e' : (b, o) = p := Option.some.inj e
    subst e'
    exact ⟨hb, q⟩
theorem Inv.pinned {pins : List (Addr × Obj)} {σ : St} {H : Hp} {s : Shared} {fp : List Addr} (I : Inv X pins σ H s) (hf : ∀ b ∈ fp, FpOk X pins H b) (ho : ∀ b ∈ fp, ∃ o, s.heap.get? b = some o ∧ ∀ v, o.data ≠ .cell v) : Inv X (pins ++ pinsAt fp s.heap) σ H s :=
  I.pins_of fun p hp => (List.mem_append.mp hp).elim (fun z => I.pin p (List.mem_append_right _ z)) fun z => by
    obtain ⟨hb, e⟩ := of_pinsAt z
    obtain ⟨f0, f1, f2, _⟩ := hf p.1 hb
    obtain ⟨o, e', d⟩ := ho p.1 hb
    rw [e] at e'; cases e'
    exact ⟨e, f0, f1, f2, d⟩
theorem Inv.unpinned {pins pl : List (Addr × Obj)} {σ : St} {H : Hp} {s : Shared} (I : Inv X (pins ++ pl) σ H s) : Inv X pins σ H s := I.pins_of fun p hp => I.pin p (List.mem_append_right _ (List.mem_append_left _ hp))
theorem ps_for {iter : Expr} {body : List Stmt} {wi : TI} {g : TG} {tb : TS} {pos : Pos} (hp : PassesOwn (model X.prog X.w) X.A X.env X.xe) (hc : X.calm = true) (hi : PI X tg iter wi) (hg : PG X tg g) (hb : PSs X body tb)
    (hs : ∀ x, foldedSetIterable iter X.env x = pure x := by intro _; rfl) : PS X (.For tg iter body [] pos) (tFor wi g tb) := by
  intro pins s σ H D I h
  refine wpAny_For (thn (hi pins s σ H _ I h) fun v s1 h1 => thn h1 fun itv s2 h2 => ?_) hs
  obtain ⟨it, fp, tn, J, H2, e, I2, T, st2, f2, W, ⟨m0, w0⟩, turn⟩ := h2
  subst e
  -- what stays true of the iterator's objects through the loop
  have stat : ∀ {H' : Hp}, (∀ b ∈ fp, H' b = none) → ∀ b ∈ fp, FpOk X pins H' b := fun hn b hb => ⟨hn b hb, (f2 b hb).2⟩
  refine codeAny_forLoop_any (fun n s' => ∃ i σ' H', Inv X pins σ' H' s' ∧ tn i s'.heap ∧ (∀ b ∈ fp, H' b = none) ∧ W i n σ' H') ?_ m0 ⟨0, σ, H2, I2, st2, fun b hb => (f2 b hb).1, w0⟩
  rintro n s3 ⟨i, σ3, H3, I3, st3, fr3, w3⟩
  rcases turn i n σ3 H3 w3 with ⟨stop, qn⟩ | ⟨go, N, hN, step⟩
  · refine wpAny_passesOwn hp (thn (T.done X rfl rfl rfl hc i pins s3 σ3 H3 X.xe I3 (stat fr3) st3 stop) fun r s4 ⟨hr, I4⟩ => ?_)
    subst hr
    exact wpAny_execs_nil ⟨σ3, H3, I4, qn⟩
  · refine wpAny_passesOwn hp (thn (T.item X rfl rfl rfl hc i pins s3 σ3 H3 X.xe I3 (stat fr3) st3 go) fun r s4 ⟨u, hr, h4⟩ => ?_)
    subst hr
    refine wpAny_passesOwn hp (thn h4 fun _ s5 ⟨x, H5, I5, r5, y5, st5, fr5⟩ => ?_)
    have I5' := I5.pinned (stat fr5) (T.obj _ _ st5)
    refine wpAny_passesOwn hp (thn (hg _ s5 σ3 H5 x u _ I5' r5 (step x H5 y5)) fun _ s6 ⟨σ6, H6, I6, q6⟩ => ?_)
    refine wpAny_passesOwn hp (thn (hb _ s6 σ6 H6 _ I6 q6) fun f s7 q7 => ?_)
    have again : ∀ {σ7 : St} {H7 : Hp}, Inv X (pins ++ pinsAt fp s5.heap) σ7 H7 s7 → N σ7 H7 → ∃ m, m < n ∧ ∃ i σ' H', Inv X pins σ' H' s7 ∧ tn i s7.heap ∧ (∀ b ∈ fp, H' b = none) ∧ W i m σ' H' := fun {σ7 H7} I7 n7 => by
      obtain ⟨m', hm, w7⟩ := hN σ7 H7 n7
      refine ⟨m', hm, i + 1, σ7, H7, I7.unpinned, T.keep _ _ _ st5 fun b hb o e => (I7.pin (b, o) (List.mem_append_right _ (List.mem_append_right _ (mem_pinsAt hb e)))).1, fun b hb => ?_, w7⟩
      obtain ⟨o, e, d⟩ := T.obj _ _ st5 b hb
      exact (I7.pin (b, o) (List.mem_append_right _ (List.mem_append_right _ (mem_pinsAt hb e)))).2.1
    cases f with
    | next => obtain ⟨σ7, H7, I7, n7⟩ := q7; exact again I7 n7
    | cont => obtain ⟨σ7, H7, I7, n7⟩ := q7; exact again I7 n7
    | brk => obtain ⟨σ7, H7, I7, q7⟩ := q7; exact ⟨σ7, H7, I7.unpinned, q7⟩
    | ret v => obtain ⟨x7, σ7, H7, I7, r7, q7⟩ := q7; exact ⟨x7, σ7, H7, I7.unpinned, r7, q7⟩
end

/-! ### the forms one uses -/
/-- over a list that the body leaves as it is -/
theorem for_list {K : PySem.W.Frag} {a : Addr} {xs : List V} {g : TG} {tb : TS} {D : Ends} {σ : St} {H : Hp} (Pv : Nat → St → Hp → Prop) (h0 : Pv 0 σ H) (hl : ∀ i σ H, i ≤ xs.length → Pv i σ H → SqL K H a xs)
    (hs : ∀ i x σ H, xs[i]? = some x → Pv i σ H → g x σ H fun σ2 H2 => tb { D with nx := Pv (i + 1), ct := Pv (i + 1), bk := D.nx } σ2 H2) (hd : ∀ σ H, Pv xs.length σ H → D.nx σ H) :
    ∃ W : Nat → Nat → St → Hp → Prop, (∃ m, W 0 m σ H) ∧ ∀ i m σ H, W i m σ H →
      ((Itl K a).stop i H ∧ D.nx σ H) ∨ ((Itl K a).go i H ∧ ∃ N : St → Hp → Prop, (∀ σ' H', N σ' H' → ∃ m', m' < m ∧ W (i + 1) m' σ' H') ∧ ∀ x H', (Itl K a).yld i H x H' → g x σ H' fun σ2 H2 => tb { D with nx := N, ct := N, bk := D.nx } σ2 H2) := by
  refine ⟨fun i m σ H => m = xs.length - i ∧ i ≤ xs.length ∧ Pv i σ H, ⟨xs.length, by simp, Nat.zero_le _, h0⟩, ?_⟩
  rintro i m σ H ⟨rfl, hi, p⟩
  have q := hl i σ H hi p
  by_cases hlt : i < xs.length
  · refine .inr ⟨⟨xs, xs[i], q, by simp [hlt]⟩, Pv (i + 1), fun σ' H' p' => ⟨xs.length - (i + 1), by omega, rfl, hlt, p'⟩, fun x H' y => ?_⟩
    obtain ⟨e, y⟩ := y
    subst e
    exact hs i x σ _ (y xs q) p
  · have e : i = xs.length := by omega
    subst e
    exact .inl ⟨⟨xs, q, Nat.le_refl _⟩, hd σ H p⟩
/-- while, by a word and a measure of the state -/
theorem while_by {c : TT} {tb : TS} {D : Ends} {σ : St} {H : Hp} (Pv : St → Hp → Prop) (μ : St → Hp → Nat) (h0 : Pv σ H)
    (hs : ∀ σ H, Pv σ H → c σ H fun b H1 => if b = true then tb { D with nx := fun σ' H' => Pv σ' H' ∧ μ σ' H' < μ σ H, ct := fun σ' H' => Pv σ' H' ∧ μ σ' H' < μ σ H, bk := D.nx } σ H1 else D.nx σ H1)
    (mono : ∀ σ H Q Q', (∀ b H1, Q b H1 → Q' b H1) → c σ H Q → c σ H Q') : tWhile c tb D σ H := by
  refine ⟨fun m σ H => m = μ σ H ∧ Pv σ H, ⟨_, rfl, h0⟩, ?_⟩
  rintro m σ H ⟨rfl, p⟩
  refine mono σ H _ _ (fun b H1 q => ?_) (hs σ H p)
  cases b with
  | true => exact ⟨_, fun σ' H' ⟨p', l⟩ => ⟨_, l, rfl, p'⟩, q⟩
  | false => exact q
end L2

namespace L2
open PySem PySem.Spec PyProof.Rows

abbrev R2 := V → V → Hp → VK → Prop
/-- a two-place operation on values: f is binaryOp op, inplaceOp op or compareOp op -/
def OpR (X : Cx) (f : Value → Value → Sem Value) (r : R2) : Prop :=
  ∀ (pins : List (Addr × Obj)) (s : Shared) (σ : St) (H : Hp) (x y : V) (v u : Value) (Q : VK), Inv X pins σ H s → RelV x v → RelV y u → r x y H Q →
    wpAny (model X.prog X.w) X.A (f v u) (EP X pins σ Q) X.xe s
/-- a one-place operation -/
def UnR (X : Cx) (f : Value → Sem Value) (r : V → Hp → VK → Prop) : Prop :=
  ∀ (pins : List (Addr × Obj)) (s : Shared) (σ : St) (H : Hp) (x : V) (v : Value) (Q : VK), Inv X pins σ H s → RelV x v → r x H Q →
    wpAny (model X.prog X.w) X.A (f v) (EP X pins σ Q) X.xe s
/-- a call of a value that is known (a builtin, a type) with values -/
def CallR (X : Cx) (f : Value) (r : List V → Hp → VK → Prop) : Prop :=
  ∀ (pins : List (Addr × Obj)) (s : Shared) (σ : St) (H : Hp) (xs : List V) (us : List Value) (Q : VK), Inv X pins σ H s → Vals xs us → r xs H Q →
    wpAny (model X.prog X.w) X.A (call f us) (EP X pins σ Q) X.xe s

def tOp (r : R2) (ta tb : TE) : TE := fun σ H Q => ta σ H fun x H1 => tb σ H1 fun y H2 => r x y H2 Q
def tUn (r : V → Hp → VK → Prop) (ta : TE) : TE := fun σ H Q => ta σ H fun x H1 => r x H1 Q
/-- ints in, under C, and a value out -/
def rI (C : Int → Int → Prop) (g : Int → Int → V) : R2 := fun x y H Q => ∃ i j, x = .int i ∧ y = .int j ∧ C i j ∧ Q (g i j) H
def rI0 (g : Int → Int → V) : R2 := fun x y H Q => ∃ i j, x = .int i ∧ y = .int j ∧ Q (g i j) H
def rU (g : Int → V) : V → Hp → VK → Prop := fun x H Q => ∃ i, x = .int i ∧ Q (g i) H

section
variable {X : Cx} {a b c : Expr} {ta tb tc : TE} {pos : Pos}

theorem binT (ha : PE X a ta) (hb : PE X b tb) {pins : List (Addr × Obj)} {s : Shared} {σ : St} {H : Hp} {R : V → V → Hp → Prop} (I : Inv X pins σ H s)
    (h : ta σ H fun x H1 => tb σ H1 fun y H2 => R x y H2) {Q : Value → Shared → Prop} {f : Value → Value → Sem Value}
    (hf : ∀ v u s2 x y H2, Inv X pins σ H2 s2 → RelV x v → RelV y u → R x y H2 → wpAny (model X.prog X.w) X.A (f v u) Q X.xe s2) :
    wpAny (model X.prog X.w) X.A (eval a X.env) (fun v s₁ => wpAny (model X.prog X.w) X.A (eval b X.env) (fun u s₂ => wpAny (model X.prog X.w) X.A (f v u) Q X.xe s₂) X.xe s₁) X.xe s := by
  refine thn (ha pins s σ H _ I h) fun v s1 ⟨x, H1, I1, r1, q1⟩ => ?_
  refine thn (hb pins s1 σ H1 _ I1 q1) fun u s2 ⟨y, H2, I2, r2, q2⟩ => ?_
  exact hf v u s2 x y H2 I2 r1 r2 q2

theorem pe_op {op : Operator} {r : R2} (ho : OpR X (binaryOp op) r) (ha : PE X a ta) (hb : PE X b tb) : PE X (.BinOp a op b pos) (tOp r ta tb) := by
  intro pins s σ H Q I h
  exact wpAny_BinOp (binT ha hb I h fun v u s2 x y H2 I2 rx ry q => ho pins s2 σ H2 x y v u Q I2 rx ry q)
theorem pe_un {op : UnaryOp} {r : V → Hp → VK → Prop} (ho : UnR X (unaryOp op) r) (ha : PE X a ta) : PE X (.UnaryOp op a pos) (tUn r ta) := by
  intro pins s σ H Q I h
  exact UnaryOp_ (thn (ha pins s σ H _ I h) fun v s1 ⟨x, H1, I1, r1, q1⟩ => ho pins s1 σ H1 x v Q I1 r1 q1)

/-! ### ints -/
theorem opI {f : Value → Value → Sem Value} {C : Int → Int → Prop} {g : Int → Int → Int}
    (rule : ∀ (i j : Int) (t u : Tok) (s : Shared) (Q : Value → Shared → Prop) (E : Value → Shared → Prop), C i j → Q (.int (g i j) s.toks) { s with toks := s.toks + 1 } → wpAny (model X.prog X.w) X.A (f (.int i t) (.int j u)) Q E s) :
    OpR X f (rI C fun i j => .int (g i j)) := by
  intro pins s σ H x y v u Q I rx ry h
  obtain ⟨i, j, rfl, rfl, hc, q⟩ := h
  obtain ⟨t, rfl⟩ := rx
  obtain ⟨t', rfl⟩ := ry
  exact rule i j t t' s _ _ hc ⟨.int (g i j), H, I.tok _, ⟨_, rfl⟩, q⟩
theorem opI0 {f : Value → Value → Sem Value} {g : Int → Int → Int}
    (rule : ∀ (i j : Int) (t u : Tok) (s : Shared) (Q : Value → Shared → Prop) (E : Value → Shared → Prop), Q (.int (g i j) s.toks) { s with toks := s.toks + 1 } → wpAny (model X.prog X.w) X.A (f (.int i t) (.int j u)) Q E s) :
    OpR X f (rI0 fun i j => .int (g i j)) := by
  intro pins s σ H x y v u Q I rx ry h
  obtain ⟨i, j, rfl, rfl, q⟩ := h
  obtain ⟨t, rfl⟩ := rx
  obtain ⟨t', rfl⟩ := ry
  exact rule i j t t' s _ _ ⟨.int (g i j), H, I.tok _, ⟨_, rfl⟩, q⟩
theorem opB0 {f : Value → Value → Sem Value} {g : Int → Int → Bool}
    (rule : ∀ (i j : Int) (t u : Tok) (s : Shared) (Q : Value → Shared → Prop) (E : Value → Shared → Prop), Q (.bool (g i j)) s → wpAny (model X.prog X.w) X.A (f (.int i t) (.int j u)) Q E s) :
    OpR X f (rI0 fun i j => .bl (g i j)) := by
  intro pins s σ H x y v u Q I rx ry h
  obtain ⟨i, j, rfl, rfl, q⟩ := h
  obtain ⟨t, rfl⟩ := rx
  obtain ⟨t', rfl⟩ := ry
  exact rule i j t t' s _ _ ⟨.bl (g i j), H, I, rfl, q⟩

def CDiv (i j : Int) : Prop := 0 < j ∧ j < 1073741824
def CPow (i j : Int) : Prop := 0 ≤ j ∧ j ≤ 1000000 ∧ i.natAbs < 2 ^ 64
def CMul (i j : Int) : Prop := (-(2 ^ 64) < i ∧ i < 2 ^ 64) ∨ (-(2 ^ 64) < j ∧ j < 2 ^ 64)
theorem CMul.ok {i j : Int} (h : CMul i j) : IntMulOk i j := by
  rcases h with ⟨h1, h2⟩ | ⟨h1, h2⟩
  · exact .of_left (intBits_le_64 h1 h2)
  · exact .of_right (intBits_le_64 h1 h2)

theorem op_add : OpR X (binaryOp .Add) (rI0 fun i j => .int (i + j)) := opI0 fun _ _ _ _ _ _ _ q => add_int q
theorem op_sub : OpR X (binaryOp .Sub) (rI0 fun i j => .int (i - j)) := opI0 fun _ _ _ _ _ _ _ q => sub_int q
theorem op_mul : OpR X (binaryOp .Mult) (rI CMul fun i j => .int (i * j)) := opI fun _ _ _ _ _ _ _ hc q => mul_int q hc.ok
/-- // by a positive divisor -/
theorem op_fdiv : OpR X (binaryOp .FloorDiv) (rI CDiv fun i j => .int (i / j)) := opI fun i j _ _ _ _ _ hc q => by
  have h1 : (0 : Int) < j := hc.1
  have h2 : j < 1073741824 := hc.2
  exact floordiv_int (by omega) (by rw [Int.fdiv_eq_ediv_of_nonneg i (by omega)]; exact q) (.inl (PyProof.noPylong_small (by omega)))
/-- % by a positive divisor of any size -/
theorem op_mod : OpR X (binaryOp .Mod) (rI (fun _ j => 0 < j) fun i j => .int (i % j)) := opI fun i j _ _ _ _ _ hc q => by
  have h1 : (0 : Int) < j := hc
  exact mod_int' (by omega) (by rw [Int.fmod_eq_emod_of_nonneg i (by omega)]; exact q)
theorem op_pow : OpR X (binaryOp .Pow) (rI CPow fun i j => .int (i ^ j.toNat)) := opI fun _ _ _ _ _ _ _ hc q => pow_int_small hc.1 hc.2.1 hc.2.2 q


theorem unI {f : Value → Sem Value} {g : Int → Int}
    (rule : ∀ (i : Int) (t : Tok) (s : Shared) (Q : Value → Shared → Prop) (E : Value → Shared → Prop), Q (.int (g i) s.toks) { s with toks := s.toks + 1 } → wpAny (model X.prog X.w) X.A (f (.int i t)) Q E s) :
    UnR X f (rU fun i => .int (g i)) := by
  intro pins s σ H x v Q I rx h
  obtain ⟨i, rfl, q⟩ := h
  obtain ⟨t, rfl⟩ := rx
  exact rule i t s _ _ ⟨.int (g i), H, I.tok _, ⟨_, rfl⟩, q⟩
theorem un_neg : UnR X (unaryOp .USub) (rU fun i => .int (-i)) := unI fun _ _ _ _ _ q => neg_int q

/-! ### bools among ints: n += (a < b) -/
end

/-! ### comparisons -/
/-- the scalars that == tells apart as data does -/
def scal : V → V → Bool
  | .non, .non => true | .non, .int _ => true | .int _, .non => true | .non, .bl _ => true | .bl _, .non => true | .non, .str _ => true | .str _, .non => true
  | .int _, .int _ => true | .bl _, .bl _ => true | .str _, .str _ => true | .byt _, .byt _ => true
  | .int _, .str _ => true | .str _, .int _ => true | .bl _, .str _ => true | .str _, .bl _ => true
  | _, _ => false
def rEq : R2 := fun x y H Q => scal x y = true ∧ Q (.bl (decide (x = y))) H
def rNe : R2 := fun x y H Q => scal x y = true ∧ Q (.bl (!decide (x = y))) H

theorem dec_int {i j : Int} : decide (V.int i = V.int j) = (i == j) := by
  rw [Bool.eq_iff_iff]
  simp
theorem dec_bl {i j : Bool} : decide (V.bl i = V.bl j) = (i == j) := by
  rw [Bool.eq_iff_iff]
  simp
theorem dec_str {i j : Str} : decide (V.str i = V.str j) = (i == j) := by
  rw [Bool.eq_iff_iff]
  simp
theorem dec_byt {i j : Array UInt8} : decide (V.byt i = V.byt j) = (i.toList == j.toList) := by
  rw [Bool.eq_iff_iff]
  cases i
  cases j
  simp

section
variable {X : Cx} {a b c : Expr} {ta tb tc : TE} {pos : Pos}
theorem fin_bl {pins : List (Addr × Obj)} {σ : St} {H : Hp} {s : Shared} {Q : VK} {k k' : Bool} (I : Inv X pins σ H s) (q : Q (.bl k) H) (e : k = k') : EP X pins σ Q (.bool k') s := by
  subst e
  exact ⟨.bl k, H, I, rfl, q⟩
theorem op_eq : OpR X (compareOp .Eq) rEq := by
  intro pins s σ H x y v u Q I rx ry h
  obtain ⟨hs, q⟩ := h
  cases x with
  | non =>
    cases rx
    cases y with
    | non => cases ry; exact PySem.EqNone.eq_none_none (fin_bl I q (by simp))
    | bl j => cases ry; exact PySem.EqNone.eq_none_bool (fin_bl I q (by simp))
    | int j => obtain ⟨t', rfl⟩ := ry; exact PySem.EqNone.eq_none_int (fin_bl I q (by simp))
    | str j => obtain ⟨t', rfl⟩ := ry; exact PySem.EqNone.eq_none_str (fin_bl I q (by simp))
    | _ => exact absurd (show false = true from hs) Bool.false_ne_true
  | bl i =>
    cases rx
    cases y with
    | non => cases ry; exact PySem.EqNone.eq_bool_none (fin_bl I q (by simp))
    | bl j => cases ry; exact eq_bool (fin_bl I q dec_bl)
    | str j => obtain ⟨t', rfl⟩ := ry; exact PySem.EqMixed.eq_bool_str (fin_bl I q (by simp))
    | _ => exact absurd (show false = true from hs) Bool.false_ne_true
  | int i =>
    obtain ⟨t, rfl⟩ := rx
    cases y with
    | non => cases ry; exact PySem.EqNone.eq_int_none (fin_bl I q (by simp))
    | int j => obtain ⟨t', rfl⟩ := ry; exact eq_int (fin_bl I q dec_int)
    | str j => obtain ⟨t', rfl⟩ := ry; exact PySem.EqMixed.eq_int_str (fin_bl I q (by simp))
    | _ => exact absurd (show false = true from hs) Bool.false_ne_true
  | str i =>
    obtain ⟨t, rfl⟩ := rx
    cases y with
    | non => cases ry; exact PySem.EqNone.eq_str_none (fin_bl I q (by simp))
    | bl j => cases ry; exact PySem.EqMixed.eq_str_bool (fin_bl I q (by simp))
    | int j => obtain ⟨t', rfl⟩ := ry; exact PySem.EqMixed.eq_str_int (fin_bl I q (by simp))
    | str j => obtain ⟨t', rfl⟩ := ry; exact eq_str (fin_bl I q dec_str)
    | _ => exact absurd (show false = true from hs) Bool.false_ne_true
  | byt i =>
    obtain ⟨t, rfl⟩ := rx
    cases y with
    | byt j => obtain ⟨t', rfl⟩ := ry; exact PySem.W.eq_bytes (fin_bl I q dec_byt)
    | _ => exact absurd (show false = true from hs) Bool.false_ne_true
  | _ => cases y <;> exact absurd (show false = true from hs) Bool.false_ne_true
theorem op_ne : OpR X (compareOp .NotEq) rNe := by
  intro pins s σ H x y v u Q I rx ry h
  obtain ⟨hs, q⟩ := h
  cases x with
  | non =>
    cases rx
    cases y with
    | non => cases ry; exact PySem.EqNone.ne_none_none (fin_bl I q (by simp))
    | bl j => cases ry; exact PySem.EqNone.ne_none_bool (fin_bl I q (by simp))
    | int j => obtain ⟨t', rfl⟩ := ry; exact PySem.EqNone.ne_none_int (fin_bl I q (by simp))
    | str j => obtain ⟨t', rfl⟩ := ry; exact PySem.EqNone.ne_none_str (fin_bl I q (by simp))
    | _ => exact absurd (show false = true from hs) Bool.false_ne_true
  | bl i =>
    cases rx
    cases y with
    | non => cases ry; exact PySem.EqNone.ne_bool_none (fin_bl I q (by simp))
    | bl j => cases ry; exact ne_bool (fin_bl I q (congrArg not dec_bl))
    | str j => obtain ⟨t', rfl⟩ := ry; exact PySem.EqMixed.ne_bool_str (fin_bl I q (by simp))
    | _ => exact absurd (show false = true from hs) Bool.false_ne_true
  | int i =>
    obtain ⟨t, rfl⟩ := rx
    cases y with
    | non => cases ry; exact PySem.EqNone.ne_int_none (fin_bl I q (by simp))
    | int j => obtain ⟨t', rfl⟩ := ry; exact ne_int (fin_bl I q (congrArg not dec_int))
    | str j => obtain ⟨t', rfl⟩ := ry; exact PySem.EqMixed.ne_int_str (fin_bl I q (by simp))
    | _ => exact absurd (show false = true from hs) Bool.false_ne_true
  | str i =>
    obtain ⟨t, rfl⟩ := rx
    cases y with
    | non => cases ry; exact PySem.EqNone.ne_str_none (fin_bl I q (by simp))
    | bl j => cases ry; exact PySem.EqMixed.ne_str_bool (fin_bl I q (by simp))
    | int j => obtain ⟨t', rfl⟩ := ry; exact PySem.EqMixed.ne_str_int (fin_bl I q (by simp))
    | str j => obtain ⟨t', rfl⟩ := ry; exact ne_str (fin_bl I q (congrArg not dec_str))
    | _ => exact absurd (show false = true from hs) Bool.false_ne_true
  | byt i =>
    obtain ⟨t, rfl⟩ := rx
    cases y with
    | byt j => obtain ⟨t', rfl⟩ := ry; exact PySem.W.ne_bytes (fin_bl I q (congrArg not dec_byt))
    | _ => exact absurd (show false = true from hs) Bool.false_ne_true
  | _ => cases y <;> exact absurd (show false = true from hs) Bool.false_ne_true

theorem op_lt : OpR X (compareOp .Lt) (rI0 fun i j => .bl (decide (i < j))) := opB0 fun _ _ _ _ _ _ _ q => lt_int q
theorem op_le : OpR X (compareOp .LtE) (rI0 fun i j => .bl (decide (i ≤ j))) := opB0 fun _ _ _ _ _ _ _ q => le_int q
theorem op_gt : OpR X (compareOp .Gt) (rI0 fun i j => .bl (decide (j < i))) := opB0 fun _ _ _ _ _ _ _ q => gt_int q

/-- is None, is not None: the right side a value none -/
theorem op_isN : OpR X (compareOp .Is) (fun x y H Q => y = .non ∧ Q (.bl (decide (x = .non))) H) := by
  intro pins s σ H x y v u Q I rx ry h
  obtain ⟨rfl, q⟩ := h
  cases ry
  refine is_none_gen (fin_bl I q ?_)
  cases x <;> first
    | (cases rx; rfl)
    | (obtain ⟨t, rfl⟩ := rx; rfl)
theorem op_notN : OpR X (compareOp .IsNot) (fun x y H Q => y = .non ∧ Q (.bl (!decide (x = .non))) H) := by
  intro pins s σ H x y v u Q I rx ry h
  obtain ⟨rfl, q⟩ := h
  cases ry
  refine isnot_none_gen (fin_bl I q ?_)
  cases x <;> first
    | (cases rx; rfl)
    | (obtain ⟨t, rfl⟩ := rx; rfl)



theorem nomark (b : Expr) {op : CmpOp} (h : op ≠ .In := by decide) (h2 : op ≠ .NotIn := by decide) : behindInMarks op b = false := by
  have e1 : (op == CmpOp.In) = false := by cases op <;> first | rfl | exact absurd rfl h
  have e2 : (op == CmpOp.NotIn) = false := by cases op <;> first | rfl | exact absurd rfl h2
  cases b <;> simp [behindInMarks, e1, e2]
/-- a comparison as a value; hm: nomark b, or (for in, not in) by with_unfolding_all rfl -/
theorem pe_cmpR {op : CmpOp} {r : R2} (ho : OpR X (compareOp op) r) (ha : PE X a ta) (hb : PE X b tb) (hm : behindInMarks op b = false) : PE X (.Compare a [op] [b] pos) (tOp r ta tb) := by
  intro pins s σ H Q I h
  exact wpAny_Compare1 (binT ha hb I h fun v u s2 x y H2 I2 rx ry q => ho pins s2 σ H2 x y v u Q I2 rx ry q) hm
/-- a reading of a value as a test -/
def tTest (t : TE) : TT := fun σ H Q => t σ H fun x H' => ∃ k, x = .bl k ∧ Q k H'
theorem pt_cmpR {op : CmpOp} {r : R2} (ho : OpR X (compareOp op) r) (ha : PE X a ta) (hb : PE X b tb) (hm : behindInMarks op b = false) : PT X (.Compare a [op] [b] pos) (tTest (tOp r ta tb)) := by
  intro pins s σ H Q I h
  refine wpAny_isTrue_Compare1 (thn (ha pins s σ H _ I h) fun v s1 ⟨x, H1, I1, r1, q1⟩ => thn (hb pins s1 σ H1 _ I1 q1) fun u s2 ⟨y, H2, I2, r2, q2⟩ =>
    thn (ho pins s2 σ H2 x y v u _ I2 r1 r2 q2) fun c s3 ⟨z, H3, I3, r3, k, e, q3⟩ => ?_) hm
  subst e
  cases r3
  exact wpAny_truthy_bool ⟨H3, I3, q3⟩

/-! ### truth -/
theorem line63 : (sizeLine : Nat) < 2 ^ 63 := by rw [sizeLine_eq]; decide

/-! ### strs and bytes -/
theorem op_add_str : OpR X (binaryOp .Add) (fun x y H Q => ∃ i j, x = .str i ∧ y = .str j ∧ i.length + j.length ≤ sizeLine ∧ Q (.str (i ++ j)) H) := by
  intro pins s σ H x y v u Q I rx ry h
  obtain ⟨i, j, rfl, rfl, hz, q⟩ := h
  obtain ⟨t, rfl⟩ := rx
  obtain ⟨t', rfl⟩ := ry
  exact add_str (fun t' tk => ⟨.str (i ++ j), H, I.tok _, ⟨_, rfl⟩, q⟩) hz


/-! ### scalar builtins, by CallR -/
theorem vals1 {x : V} {us : List Value} (r : Vals [x] us) : ∃ u, us = [u] ∧ RelV x u := by
  cases r with
  | cons r1 r2 => cases r2; exact ⟨_, rfl, r1⟩
theorem vals2 {x y : V} {us : List Value} (r : Vals [x, y] us) : ∃ u w', us = [u, w'] ∧ RelV x u ∧ RelV y w' := by
  cases r with
  | cons r1 r2 =>
    cases r2 with
    | cons r3 r4 => cases r4; exact ⟨_, _, rfl, r1, r3⟩
theorem call_min2 (hc : X.calm = true) : CallR X (.builtin "min") (fun xs H Q => ∃ i j, xs = [.int i, .int j] ∧ Q (.int (if j < i then j else i)) H) := by
  intro pins s σ H xs us Q I r h
  obtain ⟨i, j, rfl, q⟩ := h
  obtain ⟨u, w', rfl, ⟨t, rfl⟩, ⟨t', rfl⟩⟩ := vals2 r
  refine min_two_ints (I.ok.hd hc) fun h' tk k => ⟨_, H, I.kept k, ?_, q⟩
  by_cases hj : j < i
  · rw [if_pos hj, if_pos hj]; exact ⟨_, rfl⟩
  · rw [if_neg hj, if_neg hj]; exact ⟨_, rfl⟩
theorem call_int1 : CallR X (.type "int") (fun xs H Q => (∃ i, xs = [.int i] ∧ Q (.int i) H) ∨ ∃ k, xs = [.bl k] ∧ Q (.int (if k then 1 else 0)) H) := by
  intro pins s σ H xs us Q I r h
  rcases h with ⟨i, rfl, q⟩ | ⟨k, rfl, q⟩
  · obtain ⟨u, rfl, t, rfl⟩ := vals1 r
    exact call_int_int ⟨.int i, H, I, ⟨_, rfl⟩, q⟩
  · obtain ⟨u, rfl, r1⟩ := vals1 r
    cases r1
    exact call_int_bool ⟨.int (if k then 1 else 0), H, I.tok _, ⟨_, rfl⟩, q⟩
end
end L2

namespace L2
open PySem PySem.Spec PyProof.Rows

/-! ### an instance, its attributes a map -/
structure ObjM (h : Heap) (x dx C : Addr) (mA : Str → Option Value) : Prop where
  obj : h.get? x = some (PySem.W.instObj C dx)
  ns : h.Ns1 dx mA
  ne : dx ≠ x

theorem lookIn_ns {h : Heap} {dx : Addr} {mA : Str → Option Value} (n : h.Ns1 dx mA) : ∃ od, h.get? dx = some od ∧ ∀ name, PySem.W.lookIn name od = some (mA name) := by
  obtain ⟨o, es, ep, ho, hd, hk, _, hm⟩ := n
  refine ⟨o, ho, fun name => ?_⟩
  have e := hm name
  unfold nsFind findBy at e
  rw [← Array.find?_toList] at e
  unfold PySem.W.lookIn
  rw [hd]
  dsimp only
  split
  · rename_i y q
    rw [q] at e
    exact congrArg some e
  · rename_i q
    rw [q] at e
    have a : es.toList.any (·.refKey) = false := by
      rw [List.any_eq_false]
      intro y hy
      obtain ⟨z, t, hkey⟩ := hk y (Array.mem_toList_iff.mp hy)
      simp [DictEntry.refKey, hkey]
    have a' : ¬ es.toList.any (·.refKey) = true := by rw [a]; exact Bool.false_ne_true
    rw [if_neg a']
    exact congrArg some e

theorem ObjM.look {h : Heap} {x dx C : Addr} {mA : Str → Option Value} (I : ObjM h x dx C mA) : ∃ od, PySem.W.InstAt h x (PySem.W.instObj C dx) C (some od) ∧ ∀ name, PySem.W.lookIn name od = some (mA name) :=
  let ⟨od, ho, hl⟩ := lookIn_ns I.ns
  ⟨od, ⟨I.obj, rfl, rfl, ho⟩, hl⟩

section
variable {prog : Program} {w : World} {A : Around} {E : Value → Shared → Prop} {s : Shared} {K : PySem.W.Frag} {x dx C f : Addr} {mA : Str → Option Value} {name : Str} {v : Value}

theorem get_map {expr : Bool} {Q : Value → Shared → Prop} (X : K.In s.heap) (I : ObjM s.heap x dx C mA) (hg : PySem.W.plainGet K C name = true) (hh : PySem.W.hasDictIn K C = true)
    (ha : PySem.W.findIn K (.ref C) name = some none) (hv : mA name = some v) (hv' : PySem.W.handedIn v = true) (h : Q v { s with toks := s.toks + 1 }) :
    wpAny (model prog w) A (getAttr (.ref x) name expr) Q E s := by
  obtain ⟨od, J, hl⟩ := I.look
  exact PySem.W.get_value X J (PySem.W.plainGet_of hg).1 (PySem.W.findObj_own hh ha rfl (by rw [hl, hv])) hv' h



theorem set_map {ns : List Str} {Q : Unit → Shared → Prop} (X : K.In s.heap) (I : ObjM s.heap x dx C mA)
    (hs : PySem.W.findIn K (.ref C) "__setattr__" = some (some (.builtin "object.__setattr__"))) (hp : PySem.W.plainOver K C = true) (ht : PySem.W.takerIn K C name = some none) (hh : PySem.W.hasDictIn K C = true)
    (hw : PySem.Within mA ns) (hsz : ns.length ≤ sizeLine)
    (h : ∀ h', ObjM h' x dx C (fun y => if y = name then some v else mA y) → Heap.SameBut dx s.heap h' → Q () { s with heap := h', toks := s.toks + 2 }) :
    wpAny (model prog w) A (setAttr (.ref x) name v) Q E s := by
  obtain ⟨od, J, hl⟩ := I.look
  refine PySem.W.set_plain X J hs (PySem.W.osa_open (s := { s with toks := s.toks + 1 }) (r := none) X J hp ht fun b => ?_)
  obtain ⟨cd, hc, hd'⟩ := PySem.W.any_some hh
  have hx : s.heap.get? x = some ⟨.ref C, some dx, .plain, #[]⟩ := I.obj
  refine wpAny_bind (wpAny_pure (wpAny_bind (wpAny_bind (wpAny_loadPart hx (wpAny_bind (PySem.W.Looks.here (s := { s with toks := s.toks + 1 }) (PySem.W.looks_clsIn X hc) ?_))))))
  rw [hd']
  refine wpAny_pure (a := some dx) (wpAny_bind (wpAny_pure (wpAny_bind ?_)))
  refine wpAny_nsSet1 (s := { s with toks := s.toks + 1 }) I.ns fun h' hn2 hs2 => ?_
  obtain ⟨oD, esD, epD, hoD, hdD, hcD⟩ := hn2.count (PySem.Within.cons name v hw)
  refine wpAny_bind (wpAny_lookBehind hoD (by rw [hdD]; exact pastItsLine_dict (Nat.le_trans hcD (by rw [List.length_cons]; omega))) ?_)
  exact wpAny_pure (h _ ⟨(hs2.2 _ (Ne.symm I.ne)).trans I.obj, hn2, I.ne⟩ hs2)

/-- C(..): the dict at the heap's end, the instance behind it; then its __init__ -/
theorem make_map {R : Result → Shared → Prop} {vs : List Value} {kw : List (Str × Value)} (X : K.In s.heap) (hm : PySem.W.makesIn K C = true)
    (hi : PySem.W.findIn K (.ref C) "__init__" = some (some (.ref f))) (hf : PySem.W.typeIn K (.ref f) = some (.type "function"))
    (h : codeAny (model prog w) (A.under (.builtin "type.__call__" ⟨.ref C :: vs, kw⟩)) (.call (.ref f) ⟨.ref (s.heap.objs.size + 1) :: vs, kw⟩) (PySem.W.InitBack (s.heap.objs.size + 1) R)
      { s with heap := (s.heap.push PySem.W.emptyDict).push (PySem.W.instObj C s.heap.objs.size) }) :
    codeAny (model prog w) A (.call (.ref C) ⟨vs, kw⟩) R s := by
  obtain ⟨hh, g, d, t, os⟩ := s
  exact PySem.W.make_core (PySem.W.makes_of X hm) (PySem.W.looks_findIn X hi) (fun self => PySem.W.bind_fn X self hf) (.inl rfl) h
end

/-! ### the attributes as a list of pairs -/
def putF (f : Str) (v : V) : List (Str × V) → List (Str × V)
  | [] => [(f, v)]
  | (g, x) :: r => if g = f then (g, v) :: r else (g, x) :: putF f v r
theorem lookup_putF (f g : Str) (v : V) : ∀ fs : List (Str × V), (putF f v fs).lookup g = if g = f then some v else fs.lookup g
  | [] => by
    show List.lookup g [(f, v)] = _
    by_cases h : g = f
    · have hb : (g == f) = true := beq_iff_eq.mpr h
      simp only [List.lookup, hb, if_pos h]
    · have hb : (g == f) = false := beq_eq_false_iff_ne.mpr h
      simp only [List.lookup, hb, if_neg h]
  | (k, x) :: r => by
    have ih := lookup_putF f g v r
    rw [show putF f v ((k, x) :: r) = (if k = f then (k, v) :: r else (k, x) :: putF f v r) from rfl]
    by_cases hk : k = f
    · rw [if_pos hk]
      by_cases h : g = k
      · have hb : (g == k) = true := beq_iff_eq.mpr h
        simp only [List.lookup, hb, if_pos (h.trans hk)]
      · have hb : (g == k) = false := beq_eq_false_iff_ne.mpr h
        simp only [List.lookup, hb, if_neg (fun e : g = f => h (e.trans hk.symm))]
    · rw [if_neg hk]
      by_cases h : g = k
      · have hb : (g == k) = true := beq_iff_eq.mpr h
        simp only [List.lookup, hb, if_neg (fun e : g = f => hk (h.symm.trans e))]
      · have hb : (g == k) = false := beq_eq_false_iff_ne.mpr h
        simp only [List.lookup, hb]
        exact ih
theorem keys_putF (f : Str) (v : V) : ∀ fs : List (Str × V), f ∈ (putF f v fs).map (·.1) ∧ ∀ g, g ∈ fs.map (·.1) → g ∈ (putF f v fs).map (·.1)
  | [] => ⟨by simp [putF], fun g h => by simp at h⟩
  | (k, x) :: r => by
    obtain ⟨i1, i2⟩ := keys_putF f v r
    rw [show putF f v ((k, x) :: r) = (if k = f then (k, v) :: r else (k, x) :: putF f v r) from rfl]
    by_cases hk : k = f
    · rw [if_pos hk]
      subst hk
      exact ⟨by simp, fun g h => by simpa using h⟩
    · rw [if_neg hk]
      refine ⟨?_, fun g h => ?_⟩
      · rw [List.map_cons]
        exact List.mem_cons_of_mem _ i1
      · rw [List.map_cons] at h ⊢
        rcases List.mem_cons.mp h with e | e
        · exact List.mem_cons.mpr (.inl e)
        · exact List.mem_cons_of_mem _ (i2 g e)
theorem length_putF (f : Str) (v : V) : ∀ fs : List (Str × V), (putF f v fs).length ≤ fs.length + 1
  | [] => by simp [putF]
  | (k, x) :: r => by
    have ih := length_putF f v r
    rw [show putF f v ((k, x) :: r) = (if k = f then (k, v) :: r else (k, x) :: putF f v r) from rfl]
    by_cases hk : k = f
    · rw [if_pos hk, List.length_cons, List.length_cons]; omega
    · rw [if_neg hk, List.length_cons, List.length_cons]; omega

theorem RelO.some_of {v : V} {o : Option Value} (r : RelO (some v) o) : ∃ u, o = some u ∧ RelV v u := by
  cases o with
  | none => exact (show False from r).elim
  | some u => exact ⟨u, rfl, r⟩
theorem handed_of {v : V} {u : Value} (r : RelV v u) : PySem.W.handedIn u = true := by
  cases v with
  | non => cases (show u = Value.none from r); rfl
  | bl b => cases (show u = Value.bool b from r); rfl
  | int i => obtain ⟨t, e⟩ := (show ∃ t, u = Value.int i t from r); cases e; rfl
  | str x => obtain ⟨t, e⟩ := (show ∃ t, u = Value.str x t from r); cases e; rfl
  | byt b => obtain ⟨t, e⟩ := (show ∃ t, u = Value.bytes b t from r); cases e; rfl
  | flt b => obtain ⟨t, e⟩ := (show ∃ t, u = Value.float b t from r); cases e; rfl
  | ref a => cases (show u = Value.ref a from r); rfl
  | ty n => cases (show u = Value.type n from r); rfl

section
variable {P : Program} {w : World} {H H' : Hp} {h h' : Heap} {a C dx : Addr} {fs fs' : List (Str × V)}
theorem ins_get (hok : HOk P w H h) (e : H a = some (.ins C dx fs)) : ∃ mA, ObjM h a dx C mA ∧ (∀ f, RelO (fs.lookup f) (mA f)) ∧ PySem.Within mA (fs.map (·.1)) ∧ fs.length ≤ 1000 ∧ H dx = some (.own a) := by
  obtain ⟨d, z, ne, ob, mA, n, r, q⟩ := (show ObjOk P w H h a (.ins C dx fs) from hok a _ e)
  exact ⟨mA, ⟨ob, n, ne⟩, r, q, z, d⟩
end

/-! ### what of the text a class must have -/
structure Cls (K : PySem.W.Frag) (C : Addr) : Prop where
  pg : PySem.W.plainGet K C Str.empty = true
  hd : PySem.W.hasDictIn K C = true
  po : PySem.W.plainOver K C = true
  sa : PySem.W.findIn K (.ref C) "__setattr__" = some (some (.builtin "object.__setattr__"))
theorem Cls.get {K : PySem.W.Frag} {C : Addr} (c : Cls K C) (f : Str) : PySem.W.plainGet K C f = true := c.pg
/-- no class of it has the name -/
def NoAttr (K : PySem.W.Frag) (C : Addr) (f : Str) : Prop := PySem.W.findIn K (.ref C) f = some none
theorem NoAttr.taker {K : PySem.W.Frag} {C : Addr} {f : Str} (n : NoAttr K C f) : PySem.W.takerIn K C f = some none := by
  unfold PySem.W.takerIn
  rw [show PySem.W.findIn K (.ref C) f = some none from n]
  rfl

section
variable {X : Cx} {pins : List (Addr × Obj)} {σ : St} {H : Hp} {s : Shared} {a C dx : Addr} {fs : List (Str × V)} {f : Str} {v : V} {A : Around} {E : Value → Shared → Prop}

theorem getattr_ok {b : Bool} {Q : Value → Shared → Prop} (I : Inv X pins σ H s) (e : H a = some (.ins C dx fs)) (c : Cls X.K C) (n : NoAttr X.K C f) (l : fs.lookup f = some v)
    (h : ∀ u s', Inv X pins σ H s' → RelV v u → Q u s') : wpAny (model X.prog X.w) A (getAttr (.ref a) f b) Q E s := by
  obtain ⟨mA, O, r, _, _, _⟩ := ins_get I.hok e
  obtain ⟨u, hu, ru⟩ := RelO.some_of (v := v) (o := mA f) (by rw [← l]; exact r f)
  exact get_map I.kIn O (c.get f) c.hd n hu (handed_of ru) (h u _ (I.tok _) ru)



theorem setattr_ok {y : V} {u : Value} {Q : Unit → Shared → Prop} (I : Inv X pins σ H s) (e : H a = some (.ins C dx fs)) (c : Cls X.K C) (n : NoAttr X.K C f) (hl : fs.length < 1000) (ry : RelV y u)
    (h : ∀ s', Inv X pins σ (upd H a (.ins C dx (putF f y fs))) s' → Q () s') : wpAny (model X.prog X.w) A (setAttr (.ref a) f u) Q E s := by
  obtain ⟨mA, O, r, wi, _, ho⟩ := ins_get I.hok e
  have hz : (fs.map (·.1)).length ≤ sizeLine := by rw [List.length_map, sizeLine_eq]; omega
  refine set_map I.kIn O c.sa c.po n.taker c.hd wi hz fun h' O' sb => h _ ?_
  have hd : ∃ o, h'.get? dx = some o := let ⟨o, _, _, e', _⟩ := O'.ns; ⟨o, e'⟩
  refine I.write (x := a) (e := dx) (by rw [e]; exact True.intro) (.inr ho) (fun b q hb z => (sb.2 b hb).trans z) hd ?_
  refine ⟨by rw [upd_ne O.ne]; exact ho, ?_, O.ne, O'.obj, _, O'.ns, fun g => ?_, fun g hg => ?_⟩
  · have := length_putF f y fs; omega
  · show RelO ((putF f y fs).lookup g) (if g = f then some u else mA g)
    rw [lookup_putF]
    by_cases q : g = f
    · rw [if_pos q, if_pos q]; exact ry
    · rw [if_neg q, if_neg q]; exact r g
  · by_cases q : g = f
    · rw [q]; exact (keys_putF f y fs).1
    · refine (keys_putF f y fs).2 g (wi g fun z => hg ?_)
      show (if g = f then some u else mA g) = none
      rw [if_neg q]; exact z

/-- a new instance, tracked, without attributes -/
theorem Inv.made (I : Inv X pins σ H s) : Inv X pins σ (upd (upd H s.heap.objs.size (.own (s.heap.objs.size + 1))) (s.heap.objs.size + 1) (.ins C s.heap.objs.size []))
    { s with heap := (s.heap.push PySem.W.emptyDict).push (PySem.W.instObj C s.heap.objs.size) } := by
  have e1 : (s.heap.push PySem.W.emptyDict).get? s.heap.objs.size = some PySem.W.emptyDict := Heap.get?_push_size s.heap rfl
  have e2 : ((s.heap.push PySem.W.emptyDict).push (PySem.W.instObj C s.heap.objs.size)).get? (s.heap.objs.size + 1) = some (PySem.W.instObj C s.heap.objs.size) := by
    have := Heap.get?_push_size (s.heap.push PySem.W.emptyDict) (o := PySem.W.instObj C s.heap.objs.size) rfl
    rwa [Heap.size_push] at this
  have e3 : (s.heap.push PySem.W.emptyDict).Ns s.heap.objs.size (fun _ => none) := ⟨PySem.W.emptyDict, #[], _, e1, rfl, (fun e he => absurd he (by simp)), fun _ => rfl⟩
  have I1 := I.laid (a := s.heap.objs.size) (o := .own (s.heap.objs.size + 1)) (h' := s.heap.push PySem.W.emptyDict) (t' := s.toks) (fun b u q => Heap.get?_push_of_some _ q) (Nat.le_refl _) ⟨_, e1⟩
  refine I1.laid (a := s.heap.objs.size + 1) (o := .ins C s.heap.objs.size []) (t' := s.toks) (fun b u q => Heap.get?_push_of_some _ q) (Nat.le_of_eq (Heap.size_push _ _)) ?_
  have ne : s.heap.objs.size ≠ s.heap.objs.size + 1 := Nat.ne_of_lt (Nat.lt_succ_self _)
  refine ⟨by rw [upd_ne ne, upd_same], Nat.zero_le _, ne, e2, fun _ => none, (Heap.Ns1.of_empty e3).at fun o q => Heap.get?_push_of_some _ q, fun _ => True.intro, fun y hy => absurd rfl hy⟩

/-- e.f where nothing but the object is asked: through attributeBase (super) and the last hold -/
theorem attr_of {prog : Program} {w : World} {env : Env} {e : Expr} {f : Str} {pos : Pos} {s : Shared} {Q : Value → Shared → Prop} (hb : attributeBase e f env (eval e env) = eval e env)
    (h : wpAny (model prog w) A (eval e env) (fun o s₁ => wpAny (model prog w) A (getAttr o f true) Q E s₁) E s) : wpAny (model prog w) A (eval (.Attribute e f pos) env) Q E s :=
  Attribute_any_ h (by rw [arm_eval_Attribute, hb])
end

/-! ### readings and rules -/
/-- e.f, an attribute of the instance -/
def tFld (K : PySem.W.Frag) (ta : TE) (f : Str) : TE := fun σ H Q => ta σ H fun x H1 => ∃ a C dx fs v, x = .ref a ∧ H1 a = some (.ins C dx fs) ∧ Cls K C ∧ NoAttr K C f ∧ fs.lookup f = some v ∧ Q v H1
/-- e.f = value -/
def sFld (K : PySem.W.Frag) (ta tv : TE) (f : Str) : TS := fun D σ H => tv σ H fun y H1 => ta σ H1 fun x H2 => ∃ a C dx fs, x = .ref a ∧ H2 a = some (.ins C dx fs) ∧ Cls K C ∧ NoAttr K C f ∧ fs.length < 1000 ∧
  D.nx σ (upd H2 a (.ins C dx (putF f y fs)))

section
variable {X : Cx} {o e value : Expr} {f : Str} {pos pos' tpos : Pos} {ta tv : TE}
theorem pe_fld (he : PE X e ta) (hb : attributeBase e f X.env (eval e X.env) = eval e X.env) : PE X (.Attribute e f pos) (tFld X.K ta f) := by
  intro pins s σ H Q I h
  refine attr_of hb (thn (he pins s σ H _ I h) fun u s1 ⟨x, H1, I1, rx, a, C, dx, fs, v, ex, ea, c, n, l, q⟩ => ?_)
  subst ex
  obtain rfl : u = Value.ref a := rx
  exact getattr_ok I1 ea c n l fun u' s2 I2 ru => ⟨v, H1, I2, ru, q⟩
theorem ps_fld (ha : PE X o ta) (hv : PE X value tv) (hs : swapsWith value (some (.Attribute o f pos')) pos.line X.env = pure false) : PS X (.Assign [.Attribute o f pos'] value pos) (sFld X.K ta tv f) := by
  intro pins s σ H D I h
  refine plainObj_wpAny_Assign_Attribute (thn (hv pins s σ H _ I h) fun u s1 ⟨y, H1, I1, ry, q⟩ => thn (ha pins s1 σ H1 _ I1 q) fun ov s2 ⟨x, H2, I2, rx, a, C, dx, fs, ex, ea, c, n, l, q2⟩ => ?_) hs
  subst ex
  obtain rfl : ov = Value.ref a := rx
  exact setattr_ok I2 ea c n l ry fun s3 I3 => ⟨σ, _, I3, q2⟩

end

/-! ### isinstance -/
section
variable {X : Cx} {pins : List (Addr × Obj)} {σ : St} {H : Hp} {s : Shared} {A : Around} {E : Value → Shared → Prop} {Q : Value → Shared → Prop} {c : Value} {b : Bool}
/-- the type of a value, as the fragment's deciders take it; for an instance its class -/
inductive TyOf (K : PySem.W.Frag) (H : Hp) : V → Value → Prop where
  | non : TyOf K H .non (.type "NoneType")
  | bl (x : Bool) : TyOf K H (.bl x) (.type "bool")
  | int (i : Int) : TyOf K H (.int i) (.type "int")
  | str (x : Str) : TyOf K H (.str x) (.type "str")
  | flt (x : UInt64) : TyOf K H (.flt x) (.type "float")
  | lst {a : Addr} {xs : List V} (e : H a = some (.lst xs)) : TyOf K H (.ref a) (.type "list")
  | frz {a : Addr} {o : Obj} {xs : List V} (e : H a = some (.frz o (.lst xs))) : TyOf K H (.ref a) (.type "list")
  | tup {a : Addr} {xs : List V} (e : H a = some (.tup xs)) : TyOf K H (.ref a) (.type "tuple")
  | dK {a : Addr} {kvs : List (Key × V)} (e : H a = some (.dK kvs)) : TyOf K H (.ref a) (.type "dict")
  | dT {a : Addr} {kvs : List (List Key × V)} (e : H a = some (.dT kvs)) : TyOf K H (.ref a) (.type "dict")
  | ins {a C dx : Addr} {fs : List (Str × V)} (e : H a = some (.ins C dx fs)) (cl : Cls K C) (ha : PySem.W.findIn K (.ref C) "__class__" = some (some (.builtin "object.__class__")))
      (hn : PySem.W.specialIn K (.builtin "object.__class__") "__get__" = some (some (.builtin "getset_descriptor.__get__"))) (htk : PySem.W.takesIn K (.builtin "object.__class__") = some true)
      (hm : PySem.W.mroIn K C (.type "object") = some true) : TyOf K H (.ref a) (.ref C)
/-- isinstance(x, c) for one class c, a built-in or an own one: kitOne's answer -/
theorem isinst_ok {x : V} {u t : Value} (I : Inv X pins σ H s) (rx : RelV x u) (ty : TyOf X.K H x t) (e : PySem.W.kitOne X.K t c = some b) (h : ∀ tk, Q (.bool b) { s with toks := tk }) :
    wpAny (model X.prog X.w) A (call (.builtin "isinstance") [u, c]) Q E s := by
  cases ty with
  | non => cases (show u = Value.none from rx); exact PySem.W.kia_one PySem.W.kitx_none I.kIn True.intro e (fun z => nomatch z) h
  | bl y => cases (show u = Value.bool y from rx); exact PySem.W.kia_one PySem.W.kitx_bool I.kIn True.intro e (fun z => nomatch z) h
  | int i => obtain ⟨t, q⟩ := (show ∃ t, u = Value.int i t from rx); cases q; exact PySem.W.kia_one PySem.W.kitx_int I.kIn True.intro e (fun z => nomatch z) h
  | str y => obtain ⟨t, q⟩ := (show ∃ t, u = Value.str y t from rx); cases q; exact PySem.W.kia_one PySem.W.kitx_str I.kIn True.intro e (fun z => nomatch z) h
  | flt y => obtain ⟨t, q⟩ := (show ∃ t, u = Value.float y t from rx); cases q; exact PySem.W.kia_one PySem.W.kitx_float I.kIn True.intro e (fun z => nomatch z) h
  | @lst a xs ea =>
    cases (show u = Value.ref a from rx)
    obtain ⟨_, _, n, _, h1⟩ := (show ObjOk X.prog X.w H s.heap a (.lst xs) from I.hok a _ ea)
    exact PySem.W.kia_one PySem.W.kitx_list I.kIn ⟨_, h1, rfl⟩ e (fun z => nomatch z) h
  | @frz a ob xs ea =>
    cases (show u = Value.ref a from rx)
    obtain ⟨_, _, _, n, _, h1⟩ := (show ObjOk X.prog X.w H s.heap a (.frz ob (.lst xs)) from I.hok a _ ea)
    exact PySem.W.kia_one PySem.W.kitx_list I.kIn ⟨_, h1, rfl⟩ e (fun z => nomatch z) h
  | @tup a xs ea =>
    cases (show u = Value.ref a from rx)
    obtain ⟨_, _, _, p⟩ := (show ObjOk X.prog X.w H s.heap a (.tup xs) from I.hok a _ ea)
    obtain ⟨o, h1, h2, _⟩ := p
    exact PySem.W.kia_one PySem.W.kitx_tuple I.kIn ⟨o, h1, h2⟩ e (fun z => nomatch z) h
  | @dK a kvs ea =>
    cases (show u = Value.ref a from rx)
    obtain ⟨_, _, vs, _, p⟩ := (show ObjOk X.prog X.w H s.heap a (.dK kvs) from I.hok a _ ea)
    obtain ⟨o, es, ep, h1, h2, _⟩ := p
    exact PySem.W.kia_one PySem.W.kitx_dict I.kIn ⟨o, h1, h2.1⟩ e (fun z => nomatch z) h
  | @dT a kvs ea =>
    cases (show u = Value.ref a from rx)
    obtain ⟨_, _, xs, _, o, es, ep, h1, h2, _⟩ := (show ObjOk X.prog X.w H s.heap a (.dT kvs) from I.hok a _ ea)
    exact PySem.W.kia_one PySem.W.kitx_dict I.kIn ⟨o, h1, h2.1⟩ e (fun z => nomatch z) h
  | @ins a C dx fs ea cl ha hn htk hm =>
    cases (show u = Value.ref a from rx)
    obtain ⟨mA, O, _⟩ := ins_get I.hok ea
    obtain ⟨od, J, _⟩ := O.look
    exact PySem.W.kia_one (PySem.W.kitx_own (cl.get _) cl.hd ha hn htk hm) I.kIn J e (fun z => nomatch z) h
end
end L2

namespace L2
open PySem PySem.Spec PyProof.Rows

/-! ### room -/
structure Room (k : Nat) (A : Around) : Prop where
  hd : A.handled = none
  dp : A.depth + 3 * k + 5 < recursionLimit
  un : A.units + 16 * k + 200 < cLine
theorem Room.mono {j k : Nat} {A : Around} (r : Room k A) (h : j ≤ k) : Room j A := ⟨r.hd, by have := r.dp; omega, by have := r.un; omega⟩
theorem Room.deeper {k : Nat} {A : Around} (r : Room (k + 1) A) (env : Env) : Room k (A.deeper env) :=
  ⟨r.hd, by have := r.dp; show A.depth + 1 + 3 * k + 5 < _; omega, by have := r.un; show A.units + 3 + 16 * k + 200 < _; omega⟩
theorem make_depth {A : Around} {C : Addr} {us : List Value} {kw : List (Str × Value)} : (A.under (.builtin "type.__call__" ⟨.ref C :: us, kw⟩)).depth = A.depth + 1 := by
  first | rfl | simp [Around.under, Code.weight, Code.isCreation, Code.isGuard, Code.isCaller, Code.frames, Code.isFrame, guardIds]
theorem make_units {A : Around} {C : Addr} {us : List Value} {kw : List (Str × Value)} : (A.under (.builtin "type.__call__" ⟨.ref C :: us, kw⟩)).units = A.units + 1 := by
  first | rfl | simp [Around.under, Code.cUnits, Code.frames, Code.isFrame]
theorem Room.make {k : Nat} {A : Around} (r : Room (k + 1) A) (C : Addr) (us : List Value) (kw : List (Str × Value)) : Room k (A.under (.builtin "type.__call__" ⟨.ref C :: us, kw⟩)) :=
  ⟨r.hd, by have := r.dp; rw [make_depth]; omega, by have := r.un; rw [make_units]; omega⟩
theorem Room.depth {k : Nat} {A : Around} (r : Room k A) : A.depth < recursionLimit := by have := r.dp; omega
theorem Room.units {k : Nat} {A : Around} (r : Room k A) : A.units + 64 < cLine := by have := r.un; omega

/-! ### argument lists and displays -/
def tNil : TA := fun _ H Q => Q [] H
def tCons (ta : TE) (tr : TA) : TA := fun σ H Q => ta σ H fun x H1 => tr σ H1 fun xs H2 => Q (x :: xs) H2
section
variable {X : Cx} {e : Expr} {es : List Expr} {te : TE} {t : TA} {pos : Pos}
theorem pa_nil : PA X [] tNil := fun _ _ _ _ H Q I h => Calls.spliced_nil ⟨[], H, I, .nil, h⟩
theorem pa_cons (ha : PE X e te) (hr : PA X es t) (hs : starEach (e :: es) X.env = (false, eval e X.env) :: starEach es X.env := by rfl) : PA X (e :: es) (tCons te t) := by
  intro pos pins s σ H Q I h
  rw [hs]
  show wpAny _ _ (spliced ((false, eval e X.env) :: backTo pos (starEach es X.env))) _ _ s
  refine Calls.spliced_cons (thn (ha pins s σ H _ I h) fun u s1 ⟨x, H1, I1, r1, q1⟩ => ?_)
  exact thn (hr pos pins s1 σ H1 _ I1 q1) fun us s2 ⟨xs, H2, I2, r2, q2⟩ => ⟨x :: xs, H2, I2, .cons r1 r2, q2⟩

/-- a tuple, a list of written items -/
def tTup (t : TA) : TE := fun σ H Q => t σ H fun xs H1 => xs.length ≤ sizeLine ∧ ∀ p, H1 p = none → Q (.ref p) (upd H1 p (.tup xs))
def tLst (t : TA) : TE := fun σ H Q => t σ H fun xs H1 => xs.length ≤ sizeLine ∧ ∀ p, H1 p = none → Q (.ref p) (upd H1 p (.lst xs))
theorem pe_tup {x1} (h : PA X es t) : PE X (.Tuple es x1 pos) (tTup t) := by
  intro pins s σ H Q I hq
  refine wpAny_Tuple_spliced (thn (h pos pins s σ H _ I hq) fun us s1 ⟨xs, H1, I1, r, z, q⟩ => ⟨by rw [← r.length]; exact z, ?_⟩)
  have hf : H1 s1.heap.objs.size = none := I1.hok.fresh (Nat.le_refl _)
  refine ⟨.ref s1.heap.objs.size, upd H1 s1.heap.objs.size (.tup xs), I1.laid (t' := s1.toks) (fun b u e => Heap.get?_push_of_some _ e) (Nat.le_refl _) ?_, rfl, q _ hf⟩
  exact ⟨z, us, r, TupN.new _ _⟩
theorem pe_lst (h : PA X es t) : PE X (.List es pos) (tLst t) := by
  intro pins s σ H Q I hq
  refine wpAny_List_spliced (thn (h pos pins s σ H _ I hq) fun us s1 ⟨xs, H1, I1, r, z, q⟩ => ⟨by rw [← r.length]; exact z, ?_⟩)
  have hf : H1 s1.heap.objs.size = none := I1.hok.fresh (Nat.le_refl _)
  refine ⟨.ref s1.heap.objs.size, upd H1 s1.heap.objs.size (.lst xs), I1.laid (t' := s1.toks) (fun b u e => Heap.get?_push_of_some _ e) (Nat.le_refl _) ?_, rfl, q _ hf⟩
  exact ⟨z, us, 0, r, Heap.get?_push_size _ rfl⟩
end

/-! ### what a def promises -/
/-- a def's promise: the bound arguments in the parameters' order, the heap, the wanted end, the wanted exception -/
abbrev Sp := List V → Hp → VK → XK → Prop
/-- how an exception lies behind a call (file 08 gives it): the callers' frames, abstract heap and state ahead of the call, the wish, the exception, the state -/
abbrev CXT := List Env → Hp → Shared → XK → Value → Shared → Prop

/-- the state at a call -/
structure Env0 (P : Program) (w : World) (K : PySem.W.Frag) (mg : Str → Option Value) (base : Heap) (A : Around) (outer : List Env) (s : Shared) (H : Hp) : Prop where
  frames : A.frames = some outer
  mod : Mod K mg base
  bs : ∀ b o, base.get? b = some o → s.heap.get? b = some o ∧ H b = none
  bsz : base.objs.size ≤ s.heap.objs.size
  funs : s.heap.FunFrames base outer
  frf : ∀ b ∈ frs outer, H b = none
  hok : HOk P w H s.heap
  bare : AllBare s.gens
/-- a call's end -/
def CE (outer : List Env) (P : Program) (w : World) (H : Hp) (s : Shared) (Q : VK) (u : Value) (s' : Shared) : Prop :=
  ∃ v H', s'.os = s.os ∧ AllBare s'.gens ∧ Un (frs outer) [] H H' s.heap s'.heap ∧ HOk P w H' s'.heap ∧ RelV v u ∧ Q v H'
def CR (CX : CXT) (outer : List Env) (P : Program) (w : World) (H : Hp) (s : Shared) (Q : VK) (E : XK) (r : Result) (s' : Shared) : Prop :=
  match r with
  | .ok (.ret u) => CE outer P w H s Q u s'
  | .ok _ => False
  | .error e => CX outer H s E e s'
structure FnOk (P : Program) (w : World) (K : PySem.W.Frag) (mg : Str → Option Value) (base : Heap) (CX : CXT) (k : Nat) (f : Addr) (fd : FuncData) (ps : List Str) (sp : Sp) : Prop where
  len : ∀ vs H Q E, sp vs H Q E → vs.length = ps.length
  run : ∀ (A : Around) (outer : List Env) (s : Shared) (H : Hp) (args : Args) (us : List Value) (vs : List V) (Q : VK) (E : XK), Room k A → Env0 P w K mg base A outer s H → BindsTo s fd args (ps.zip us) → Vals vs us → sp vs H Q E →
    codeAny (model P w) A (.call (.ref f) args) (CR CX outer P w H s Q E) s

theorem Env0.make {P : Program} {w : World} {K : PySem.W.Frag} {mg : Str → Option Value} {base : Heap} {A : Around} {outer : List Env} {s : Shared} {H : Hp} (e : Env0 P w K mg base A outer s H) (C : Addr) (us : List Value) (kw : List (Str × Value)) :
    Env0 P w K mg base (A.under (.builtin "type.__call__" ⟨.ref C :: us, kw⟩)) outer s H := ⟨by first | exact e.frames | (simpa [Around.under, Code.envs, Code.isFrame, pushEnvs] using e.frames), e.mod, e.bs, e.bsz, e.funs, e.frf, e.hok, e.bare⟩

section
variable {X : Cx} {pins : List (Addr × Obj)} {σ : St} {H : Hp} {s s' : Shared}
/-- from a body: what a callee wants -/
theorem Inv.env0 (I : Inv X pins σ H s) : Env0 X.prog X.w X.K X.mg X.base X.A X.stack s H :=
  ⟨I.ok.frames, I.ok.mod, I.bs, Nat.le_trans I.ok.bsz I.sz, I.stack, I.stkFree, I.hok, I.bare⟩
/-- behind a call -/
theorem Inv.after {Q : VK} {u : Value} (I : Inv X pins σ H s) (h : CE X.stack X.prog X.w H s Q u s') : EP X pins σ Q u s' := by
  obtain ⟨v, H', os, bare, un, hok, r, q⟩ := h
  obtain ⟨hh, g, d, t, os'⟩ := s'
  obtain rfl : os' = s.os := os
  exact ⟨v, H', I.call (h' := hh) (g' := g) (d' := d) (t' := t) (ch := []) un hok bare (fun b z => absurd z (by simp)), r, q⟩
end

/-! ### calls -/
/-- f(..): the written arguments, then the defaults dvs; E: what is wanted of an exception -/
def tCall (sp : Sp) (dvs : List V) (E : XK) (t : TA) : TE := fun σ H Q => t σ H fun vs H1 => sp (vs ++ dvs) H1 Q E
/-- C(..): a new instance and its dict, then __init__ -/
def tMake (C : Addr) (sp : Sp) (dvs : List V) (E : XK) (t : TA) : TE := fun σ H Q => t σ H fun vs H1 => ∀ x dx, H1 x = none → H1 dx = none → dx ≠ x →
  sp (.ref x :: (vs ++ dvs)) (upd (upd H1 dx (.own x)) x (.ins C dx [])) (fun v H2 => v = .non ∧ Q (.ref x) H2) E

/-- how the parameters are bound: us the positional arguments, kw the keywords' values by name, ds the defaults that fill up -/
def Binds (K : PySem.W.Frag) (fd : FuncData) (ps : List Str) (ds : List Value) : Prop :=
  ∀ (s : Shared) (us : List Value), K.In s.heap → (us ++ ds).length = ps.length → BindsTo s fd ⟨us, []⟩ (ps.zip (us ++ ds))
/-- every parameter is given -/
theorem Binds.all {K : PySem.W.Frag} {fd : FuncData} {ps : List Str} (h : ∀ us : List Value, us.length = ps.length → bindArgs fd ⟨us, []⟩ = pure (ps.zip us)) : Binds K fd ps [] := fun s us _ hl => by
  rw [List.append_nil] at hl ⊢
  exact .of_eq (h us hl)

/-- an exception of a callee reaches what this body wants of exceptions -/
def Passes (CX : CXT) (X : Cx) (E : XK) : Prop := ∀ (pins : List (Addr × Obj)) (σ : St) (H : Hp) (s : Shared) (e : Value) (s' : Shared), Inv X pins σ H s → CX X.stack H s E e s' → X.xe e s'

section
variable {X : Cx} {CX : CXT} {k : Nat} {f C : Addr} {fd : FuncData} {ps : List Str} {sp : Sp} {dvs : List V} {ds : List Value} {E : XK} {x m : Str} {p pos apos : Pos} {e o : Expr} {es : List Expr} {ta : TE} {t : TA}

/-- the callee runs -/
theorem run_fn {pins : List (Addr × Obj)} {σ : St} {H : Hp} {s : Shared} {Q : VK} {us : List Value} {vs : List V} (F : FnOk X.prog X.w X.K X.mg X.base CX k f fd ps sp) (hr : Room k X.A) (hb : Binds X.K fd ps ds) (hd : Vals dvs ds) (hx : Passes CX X E)
    (I : Inv X pins σ H s) (r : Vals vs us) (h : sp (vs ++ dvs) H Q E) : wpAny (model X.prog X.w) X.A (call (.ref f) us) (EP X pins σ Q) X.xe s := by
  have r2 : Vals (vs ++ dvs) (us ++ ds) := r.append hd
  have hl : (us ++ ds).length = ps.length := by rw [← r2.length]; exact F.len _ _ _ _ h
  refine wpAny_call (codeAny_mono (F.run X.A X.stack s H ⟨us, []⟩ (us ++ ds) (vs ++ dvs) Q E hr I.env0 (hb s us I.kIn hl) r2 h) fun r s' hq => ?_)
  cases r with
  | error e => exact hx pins σ H s e s' I hq
  | ok fl =>
    cases fl with
    | ret u => exact I.after hq
    | next => exact False.elim hq
    | brk => exact False.elim hq
    | cont => exact False.elim hq

theorem pe_call (F : FnOk X.prog X.w X.K X.mg X.base CX k f fd ps sp) (hr : Room k X.A) (hg : Gl X x) (hm : X.mg x = some (.ref f)) (hk : PySem.W.keepIn X.K (.ref f) = true) (hb : Binds X.K fd ps ds) (hd : Vals dvs ds) (hx : Passes CX X E)
    (ha : PA X (e :: es) t) (hdb : (x == ("__debug__" : Str)) = false := by decide) (he : starEach (e :: es) X.env = (false, eval e X.env) :: starEach es X.env := by rfl) (hpl : (backTo pos (starEach es X.env)).any (·.1) = false := by rfl) :
    PE X (.Call (.Name x p) (e :: es) [] pos) (tCall sp dvs E t) := by
  intro pins s σ H Q I h
  refine wpAny_Call_Name_kw (ld_glob I hg hm ?_ hdb)
  refine PySem.W.callWith_K (h₀ := X.base) I.ok.mod.kin hk (thn (ha pos pins s σ H _ I h) fun us s1 ⟨vs, H1, I1, r, q⟩ => ⟨I1.kIn, ?_⟩) he hpl
  exact run_fn F hr hb hd hx I1 r q


/-- what a class must have to be made -/
structure Mk (K : PySem.W.Frag) (C f : Addr) : Prop where
  makes : PySem.W.makesIn K C = true
  init : PySem.W.findIn K (.ref C) "__init__" = some (some (.ref f))
  fn : PySem.W.isFn K (.ref f) = true
  kp : PySem.W.keepIn K (.ref C) = true

theorem run_make {pins : List (Addr × Obj)} {σ : St} {H : Hp} {s : Shared} {Q : VK} {us : List Value} {vs : List V} (M : Mk X.K C f) (F : FnOk X.prog X.w X.K X.mg X.base CX k f fd ps sp) (hr : Room (k + 1) X.A) (hb : Binds X.K fd ps ds) (hd : Vals dvs ds)
    (hx : Passes CX X E) (I : Inv X pins σ H s) (r : Vals vs us)
    (h : ∀ x dx, H x = none → H dx = none → dx ≠ x → sp (.ref x :: (vs ++ dvs)) (upd (upd H dx (.own x)) x (.ins C dx [])) (fun v H2 => v = .non ∧ Q (.ref x) H2) E) :
    wpAny (model X.prog X.w) X.A (call (.ref C) us) (EP X pins σ Q) X.xe s := by
  have hq := h (s.heap.objs.size + 1) s.heap.objs.size (I.hok.fresh (Nat.le_succ _)) (I.hok.fresh (Nat.le_refl _)) (Nat.ne_of_lt (Nat.lt_succ_self _))
  have I2 := Inv.made (C := C) I
  have r2 : Vals (V.ref (s.heap.objs.size + 1) :: (vs ++ dvs)) (Value.ref (s.heap.objs.size + 1) :: (us ++ ds)) := .cons rfl (r.append hd)
  have hl : (Value.ref (s.heap.objs.size + 1) :: us ++ ds).length = ps.length := by
    have e := r2.length
    rw [F.len _ _ _ _ hq] at e
    exact e.symm
  refine wpAny_call (make_map (f := f) I.kIn M.makes M.init (beq_iff_eq.mp M.fn) (codeAny_mono (F.run _ X.stack _ _ ⟨Value.ref (s.heap.objs.size + 1) :: us, []⟩ (Value.ref (s.heap.objs.size + 1) :: (us ++ ds)) _ _ E (hr.make C us [])
    (I2.env0.make C us []) (hb _ (Value.ref (s.heap.objs.size + 1) :: us) I2.kIn hl) r2 hq) fun r s' hq' => ?_))
  cases r with
  | error e => exact hx pins σ _ _ e s' I2 hq'
  | ok fl =>
    cases fl with
    | ret u =>
      obtain ⟨v, H', I3, rv, ev, q3⟩ := I2.after hq'
      subst ev
      exact ⟨rv, ⟨V.ref (s.heap.objs.size + 1), H', I3, rfl, q3⟩⟩
    | next => exact False.elim hq'
    | brk => exact False.elim hq'
    | cont => exact False.elim hq'
theorem pe_make (M : Mk X.K C f) (F : FnOk X.prog X.w X.K X.mg X.base CX k f fd ps sp) (hr : Room (k + 1) X.A) (hg : Gl X x) (hm : X.mg x = some (.ref C)) (hb : Binds X.K fd ps ds) (hd : Vals dvs ds) (hx : Passes CX X E)
    (ha : PA X (e :: es) t) (hdb : (x == ("__debug__" : Str)) = false := by decide) (he : starEach (e :: es) X.env = (false, eval e X.env) :: starEach es X.env := by rfl) (hpl : (backTo pos (starEach es X.env)).any (·.1) = false := by rfl) :
    PE X (.Call (.Name x p) (e :: es) [] pos) (tMake C sp dvs E t) := by
  intro pins s σ H Q I h
  refine wpAny_Call_Name_kw (ld_glob I hg hm ?_ hdb)
  refine PySem.W.callWith_K (h₀ := X.base) I.ok.mod.kin M.kp (thn (ha pos pins s σ H _ I h) fun us s1 ⟨vs, H1, I1, r, q⟩ => ⟨I1.kIn, ?_⟩) he hpl
  exact run_make M F hr hb hd hx I1 r q
end

/-! ### keywords -/
/-- the values of the keywords, from the left -/
def PK (X : Cx) (kws : List Keyword) (t : TA) : Prop :=
  ∀ (pos : Pos) (pins : List (Addr × Obj)) (s : Shared) (σ : St) (H : Hp) (Q : List V → Hp → Prop), Inv X pins σ H s → t σ H Q → wpAny (model X.prog X.w) X.A (evalAll ((backToKw pos (keywordEach kws X.env)).map (·.2))) (AP X pins σ Q) X.xe s
section
variable {X : Cx} {CX : CXT} {k : Nat} {f C : Addr} {fd : FuncData} {ps ks : List Str} {sp : Sp} {E : XK} {x m : Str} {p pos apos kpos : Pos} {e o : Expr} {es : List Expr} {kws : List Keyword} {te ta : TE} {t tk : TA} {nm : Option Str}
theorem pk_nil : PK X [] tNil := fun _ _ _ _ H Q I h => wpAny_evalAll_nil ⟨[], H, I, .nil, h⟩
theorem pk_cons (ha : PE X e te) (hr : PK X kws t) : PK X (⟨nm, e, kpos⟩ :: kws) (tCons te t) := by
  intro pos pins s σ H Q I h
  show wpAny _ _ (evalAll ((do let v ← eval e X.env; standAt pos; pure v) :: (backToKw pos (keywordEach kws X.env)).map (·.2))) _ _ s
  refine wpAny_evalAll_cons (wpAny_bind (thn (ha pins s σ H _ I h) fun u s1 ⟨x, H1, I1, r1, q1⟩ => wpAny_bind (wpAny_standAt (wpAny_pure ?_))))
  exact thn (hr pos pins s1 σ H1 _ I1 q1) fun us s2 ⟨xs, H2, I2, r2, q2⟩ => ⟨x :: xs, H2, I2, .cons r1 r2, q2⟩

variable {g : List Value → List Value → List Value} {gV : List V → List V → List V}
end

/-! ### a def's body keeps its promise -/
/-- names: the parameters first -/
structure FnScope (N P : List Str) (sc : Scope) : Prop where
  kind : sc.kind = .function
  co : sc.isCoroutine = false
  gen : sc.isGenerator = false
  nd : N.Nodup
  pre : N.take P.length = P
  par : ∀ x ∈ P, sc.names.lookup x = some .local ∨ sc.names.lookup x = some .cell
  nofree : ∀ y ∈ sc.names, y.2 ≠ .free

theorem bindL_out {kindOf : Str → Option NameKind} {x : Str} : ∀ {binds : List (Str × Value)} {m : Str → Option Value}, (∀ v, (x, v) ∉ binds) → bindL kindOf binds m x = m x
  | [], _, _ => rfl
  | (n, v) :: r, m, h => by
    unfold bindL
    rw [bindL_out fun w hw => h w (List.mem_cons_of_mem _ hw)]
    split
    · have : x ≠ n := by rintro rfl; exact h v List.mem_cons_self
      simp [this]
    · rfl
theorem bindC_out {kindOf : Str → Option NameKind} {x : Str} : ∀ {binds : List (Str × Value)} {m : Str → Option Value}, (∀ v, (x, v) ∉ binds) → bindC kindOf binds m x = m x
  | [], _, _ => rfl
  | (n, v) :: r, m, h => by
    unfold bindC
    rw [bindC_out fun w hw => h w (List.mem_cons_of_mem _ hw)]
    split
    · rfl
    · have : x ≠ n := by rintro rfl; exact h v List.mem_cons_self
      simp [this]
theorem bindL_get {kindOf : Str → Option NameKind} {x : Str} {v : Value} : ∀ {P : List Str} {vs : List Value} {i : Nat} {m : Str → Option Value}, P.Nodup → P[i]? = some x → vs[i]? = some v → kindOf x = some .local →
    bindL kindOf (P.zip vs) m x = some v
  | [], _, _, _, _, h, _, _ => by simp at h
  | _ :: _, [], _, _, _, _, h, _ => by simp at h
  | p :: P, w :: vs, 0, m, nd, h1, h2, hk => by
    simp at h1 h2; subst h1; subst h2
    show bindL kindOf ((p, w) :: P.zip vs) m p = _
    unfold bindL
    rw [bindL_out fun v hv => (List.nodup_cons.mp nd).1 (List.of_mem_zip hv).1, if_pos hk]
    simp
  | p :: P, w :: vs, i + 1, m, nd, h1, h2, hk => by
    show bindL kindOf ((p, w) :: P.zip vs) m x = _
    unfold bindL
    exact bindL_get (i := i) (List.nodup_cons.mp nd).2 (by simpa using h1) (by simpa using h2) hk
theorem bindC_get {kindOf : Str → Option NameKind} {x : Str} {v : Value} : ∀ {P : List Str} {vs : List Value} {i : Nat} {m : Str → Option Value}, P.Nodup → P[i]? = some x → vs[i]? = some v → kindOf x ≠ some .local →
    bindC kindOf (P.zip vs) m x = some v
  | [], _, _, _, _, h, _, _ => by simp at h
  | _ :: _, [], _, _, _, _, h, _ => by simp at h
  | p :: P, w :: vs, 0, m, nd, h1, h2, hk => by
    simp at h1 h2; subst h1; subst h2
    show bindC kindOf ((p, w) :: P.zip vs) m p = _
    unfold bindC
    rw [bindC_out fun v hv => (List.nodup_cons.mp nd).1 (List.of_mem_zip hv).1, if_neg hk]
    simp
  | p :: P, w :: vs, i + 1, m, nd, h1, h2, hk => by
    show bindC kindOf ((p, w) :: P.zip vs) m x = _
    unfold bindC
    exact bindC_get (i := i) (List.nodup_cons.mp nd).2 (by simpa using h1) (by simpa using h2) hk

/-- the names' values at the entry -/
def start (N : List Str) (vs : List V) : St := vs.map some ++ List.replicate (N.length - vs.length) none

/-- the context of a def's body, at its entry; an exception leaves the frame, then lies as CX says -/
def cxOf (CX : CXT) (P : Program) (w : World) (K : PySem.W.Frag) (mg : Str → Option Value) (base : Heap) (N : List Str) (qual : Str) (scope : Scope) (f : Addr) (cd : Value) (A : Around) (outer : List Env) (s : Shared) (H : Hp) (E : XK) : Cx where
  prog := P
  w := w
  K := K
  mg := mg
  base := base
  A := A.deeper (envOfC qual scope s.heap.objs.size f cd)
  N := N
  s₀ := s
  H₀ := H
  env := envOfC qual scope s.heap.objs.size f cd
  outer := outer
  stack := envOfC qual scope s.heap.objs.size f cd :: outer
  ex := []
  calm := true
  fn := fun _ => true
  pn := []
  xe := fun e s' => wpAny (model P w) (A.deeper (envOfC qual scope s.heap.objs.size f cd)) (leaving (envOfC qual scope s.heap.objs.size f cd) e) (fun _ s'' => CX outer H s E e s'') (fun e' s'' => CX outer H s E e' s'') s'

theorem cell_has {sc : Scope} {n : Nat} {x : Str} (h : sc.names.lookup x = some .cell) : ∃ c, (cellsFrom n sc.names []).lookup x = some c := by
  have q := PySem.W.cellsFrom_some sc.names n [] (.inl h)
  exact Option.isSome_iff_exists.mp q

theorem inv_start {CX : CXT} {P : Program} {w : World} {K : PySem.W.Frag} {mg : Str → Option Value} {base : Heap} {N ps : List Str} {qual : Str} {scope : Scope} {f : Addr} {cd : Value} {A : Around} {outer : List Env} {s s1 : Shared} {H : Hp} {E : XK} {us : List Value} {vs : List V}
    (S : FnScope N ps scope) (hd : A.handled = none) (e0 : Env0 P w K mg base A outer s H) (hl : vs.length = ps.length) (r : Vals vs us)
    (x : InCallC s s.heap.objs.size (bindL (envOfC qual scope s.heap.objs.size f cd).kindOf (ps.zip us) fun _ => none) (cellsFrom (s.heap.objs.size + 1) scope.names []) (bindC (envOfC qual scope s.heap.objs.size f cd).kindOf (ps.zip us) fun _ => none) s1) :
    Inv (cxOf CX P w K mg base N qual scope f cd A outer s H E) [] (start N vs) H s1 := by
  have hpl : ps.length ≤ N.length := by have := congrArg List.length S.pre; rw [List.length_take] at this; omega
  obtain ⟨h1, tk, rfl, hk⟩ := x.done
  have noA : ∀ b : Addr, b ∉ (cxOf CX P w K mg base N qual scope f cd A outer s H E).ex := fun b z => absurd (show b ∈ ([] : List Addr) from z) (by simp)
  refine ⟨⟨e0.mod, S.kind, rfl, rfl, Nat.le_refl _, fun y z c h1 h2 => ?_, fun y hy => ?_, fun y c _ h => ?_, fun _ => hd, Around.frames_deeper e0.frames, .inr ⟨rfl, rfl⟩, fun b z => absurd z (noA b), e0.bs, e0.bsz, fun b _ _ => noA b, fun b z => absurd z (noA b), e0.funs, e0.frf⟩,
    rfl, e0.bare, Un.kept hk, ⟨_, x.toInCall.ns, fun i y v h1 h2 h3 => ?_⟩, fun y c h => ⟨_, x.cell y c h⟩, e0.hok.fresh (Nat.le_refl _), fun y c h => ?_, fun p hp => absurd (show p ∈ ([] : List (Addr × Obj)) from hp) (by simp), e0.hok.kept hk, ?_⟩
  · exact name_of_addr x.apart (PySem.mem_of_lookup h1) (PySem.mem_of_lookup h2)
  · have hy : scope.names.lookup y = some .cell ∨ scope.names.lookup y = some .free := hy
    rcases hy with hy | hy
    · exact cell_has hy
    · exact absurd rfl (S.nofree _ (PySem.mem_of_lookup hy))
  · exact Nat.le_of_lt (x.above y c (PySem.mem_of_lookup h))
  · have hi : i < vs.length := by
      unfold start at h2
      by_cases hi : i < vs.length
      · exact hi
      · rw [List.getElem?_append_right (by simpa using hi)] at h2
        rw [List.getElem?_replicate] at h2
        split at h2 <;> cases h2
    have ha : vs[i]? = some v := by
      unfold start at h2
      rw [List.getElem?_append_left (by simpa using hi), List.getElem?_map] at h2
      cases e : vs[i]? with
      | none => rw [e] at h2; cases h2
      | some a => rw [e] at h2; cases h2; rfl
    obtain ⟨u, hu, rv⟩ := r.get ha
    have hp : ps[i]? = some y := by
      rw [← S.pre, List.getElem?_take_of_lt (by omega)]; exact h1
    have ndP : ps.Nodup := by rw [← S.pre]; exact S.nd.sublist (List.take_sublist _ _)
    refine ⟨u, rv, ?_⟩
    rcases S.par y (List.mem_of_getElem? hp) with k | k
    · exact .inl ⟨k, bindL_get ndP hp hu k⟩
    · obtain ⟨c, e⟩ := cell_has (n := s.heap.objs.size + 1) k
      refine .inr ⟨.inl k, c, e, ?_⟩
      have q := x.cell y c e
      rw [bindC_get ndP hp hu (by show scope.names.lookup y ≠ _; rw [k]; decide)] at q
      exact q
  · exact e0.hok.fresh (Nat.le_of_lt (x.above y c (PySem.mem_of_lookup h)))
  · unfold start
    show _ = N.length
    rw [List.length_append, List.length_map, List.length_replicate]
    omega

/-- THE RULE: a def (or a method) of the text, by its body. The body's reading t is chosen for each entry; it is run at the parameters' values -/
theorem fn_of {CX : CXT} {P : Program} {w : World} {K : PySem.W.Frag} {mg : Str → Option Value} {base : Heap} {k : Nat} {f : Addr} {name qual : Str} {params : Arguments} {body : List Stmt} {scope : Scope} {dV kV doc pm cdv ct oc : Value} {an od : Option Addr}
    {osl : Array (Option Value)} {N ps : List Str} {sp : Sp} (lk : K.lookup f = some ⟨oc, od, .func (PySem.W.fnOf name qual params body scope dV kV doc pm an cdv ct), osl⟩) (hcd : PySem.W.codeIn K cdv qual = true) (S : FnScope N ps scope)
    (len : ∀ vs H Q E, sp vs H Q E → vs.length = ps.length)
    (hbody : ∀ (A : Around) (outer : List Env) (s : Shared) (H : Hp) (vs : List V) (Q : VK) (E : XK), Room k (A.deeper (envOfC qual scope s.heap.objs.size f cdv)) → sp vs H Q E →
      ∃ t, PSs (cxOf CX P w K mg base N qual scope f cdv A outer s H E) body t ∧ t { nx := fun _ H' => Q .non H', rt := Q } (start N vs) H) :
    FnOk P w K mg base CX (k + 1) f (PySem.W.fnOf name qual params body scope dV kV doc pm an cdv ct) ps sp := by
  refine ⟨len, fun A outer s H args us vs Q E hr e0 hb r hsp => ?_⟩
  have hl := len _ _ _ _ hsp
  have KX : K.In s.heap := e0.mod.kin.keeps fun b o e => (e0.bs b o e).1
  have lim : s.heap.NoLimit := e0.mod.nolimit.keeps fun b o e => (e0.bs b o e).1
  have hkind : ∀ y ∈ ps.zip us, scope.names.lookup y.1 = some .local ∨ (scope.names.lookup y.1 = some .cell ∧ ((cellsFrom (s.heap.objs.size + 1) scope.names []).lookup y.1).isSome = true) := fun ⟨n, v⟩ hy => by
    rcases S.par n (List.of_mem_zip hy).1 with q | q
    · exact .inl q
    · exact .inr ⟨q, PySem.W.cellsFrom_some _ _ _ (.inl q)⟩
  refine codeAny_call_function hr.depth (KX _ _ lk) rfl S.co S.gen rfl (PySem.W.codeRec_of KX hcd) (hb _ _ _ _ ?_)
  refine wpAny_newFunctionEnv_cells S.kind hkind fun env he s1 x => ?_
  subst he
  refine ⟨lim.keeps x.toInCall.keep, codeAny_func ?_⟩
  obtain ⟨t, ht, hq⟩ := hbody A outer s H vs Q E (hr.deeper _) hsp
  have I : Inv (cxOf CX P w K mg base N qual scope f cdv A outer s H E) [] (start N vs) H s1 := inv_start S hr.hd e0 hl r x
  refine wpAny_mono (ht [] s1 (start N vs) H _ I hq) (fun fl s' hs => ?_) fun e s' hs => hs
  have fin : ∀ {σ' : St} {H' : Hp} {v : V} {u : Value}, Inv (cxOf CX P w K mg base N qual scope f cdv A outer s H E) [] σ' H' s' → RelV v u → Q v H' → CE outer P w H s Q u s' :=
    fun {σ' H' v u} J rv q => ⟨v, H', J.os, J.bare, J.base, J.hok, rv, q⟩
  cases fl with
  | ret u =>
    obtain ⟨v, σ', H', J, rv, q⟩ := hs
    exact fin J rv q
  | next =>
    obtain ⟨σ', H', J, q⟩ := hs
    exact fin (v := V.non) (u := Value.none) J rfl q
  | brk =>
    obtain ⟨_, _, _, q⟩ := hs
    exact False.elim q
  | cont =>
    obtain ⟨_, _, _, q⟩ := hs
    exact False.elim q
end L2

namespace L2
open PySem PySem.Spec PyProof.Rows
section
variable {X : Cx} {x : Str} {p pos : Pos} {e : Expr} {es : List Expr} {t : TA} {id T : String} {r : List V → Hp → VK → Prop}

def tCB (r : List V → Hp → VK → Prop) (t : TA) : TE := fun σ H Q => t σ H fun vs H1 => r vs H1 Q
/-- f(e, ..), f a built-in function -/
theorem pe_callB (hc : CallR X (.builtin id) r) (hg : Gl X x) (hm : X.mg x = none) (hv : bootBuiltins x = some (.builtin id)) (ha : PA X (e :: es) t) (hn : x ≠ "__name__" := by decide) (hdb : (x == ("__debug__" : Str)) = false := by decide)
    (he : starEach (e :: es) X.env = (false, eval e X.env) :: starEach es X.env := by rfl) (hpl : (backTo pos (starEach es X.env)).any (·.1) = false := by rfl) : PE X (.Call (.Name x p) (e :: es) [] pos) (tCB r t) := by
  intro pins s σ H Q I h
  refine wpAny_Call_Name_kw (ld_blt I hg hm hv ?_ hn hdb)
  exact PyProof.Rows.callWith_builtin1 (thn (ha pos pins s σ H _ I h) fun us s1 ⟨vs, H1, I1, r1, q1⟩ => hc pins s1 σ H1 vs us Q I1 r1 q1) he hpl
/-- T(e, ..), T a built-in type -/
theorem pe_callTy (hc : CallR X (.type T) r) (hg : Gl X x) (hm : X.mg x = none) (hv : bootBuiltins x = some (.type T)) (ha : PA X (e :: es) t) (hn : x ≠ "__name__" := by decide) (hdb : (x == ("__debug__" : Str)) = false := by decide)
    (he : starEach (e :: es) X.env = (false, eval e X.env) :: starEach es X.env := by rfl) (hpl : (backTo pos (starEach es X.env)).any (·.1) = false := by rfl) : PE X (.Call (.Name x p) (e :: es) [] pos) (tCB r t) := by
  intro pins s σ H Q I h
  refine wpAny_Call_Name_kw (ld_blt I hg hm hv ?_ hn hdb)
  exact PyProof.Rows.callWith_type1 (thn (ha pos pins s σ H _ I h) fun us s1 ⟨vs, H1, I1, r1, q1⟩ => hc pins s1 σ H1 vs us Q I1 r1 q1) he hpl
end
end L2

namespace HT
open PySem PyProof.Rows



section
open PySem.SeqAt
open PySem.AutoSeq1 (wpAny_loadPart')
open PySem.MeetsSeq PySem.MeetsSeq2 PySem.MeetsSeq3

end

section
variable {prog : Program} {w : World} {A : Around} {E : Value → Shared → Prop} {s : Shared}



/-! ### t[a:b], not the whole -/
/-- a slice's bound as a place among n (d where it is left out) -/
def sIx (n d : Nat) : Option Int → Nat
  | none => d
  | some v => if v < 0 then (v + (n : Int)).toNat else min v.toNat n
theorem sIx_none (n d : Nat) : sIx n d none = d := rfl
theorem sIx_nat (n d k : Nat) : sIx n d (some (k : Int)) = min k n := by
  show (if (k : Int) < 0 then ((k : Int) + (n : Int)).toNat else min (k : Int).toNat n) = min k n
  rw [if_neg (by omega), Int.toNat_natCast]
theorem sIx_le (n d : Nat) (hd : d ≤ n) (o : Option Int) : sIx n d o ≤ n := by
  cases o with
  | none => exact hd
  | some v =>
    show (if v < 0 then (v + (n : Int)).toNat else min v.toNat n) ≤ n
    by_cases hv : v < 0
    · rw [if_pos hv]; omega
    · rw [if_neg hv]; exact Nat.min_le_right _ _
theorem clip_eq (v : Int) (n d : Nat) : (if v < 0 then max (v + (n : Int)) 0 else min v (n : Int)) = ((sIx n d (some v) : Nat) : Int) := by
  show (if v < 0 then max (v + (n : Int)) 0 else min v (n : Int)) = (((if v < 0 then (v + (n : Int)).toNat else min v.toNat n) : Nat) : Int)
  by_cases hv : v < 0
  · simp only [if_pos hv]; omega
  · simp only [if_neg hv]; omega
theorem adjust_gen (lo hi : Option Int) (n : Nat) : Builtin.Slice.sliceAdjust lo hi 1 (n : Int) = (((sIx n 0 lo : Nat) : Int), ((sIx n n hi : Nat) : Int)) := by
  have h1 : ¬ ((1 : Int) < 0) := by omega
  unfold Builtin.Slice.sliceAdjust
  simp only [h1, if_false]
  refine Prod.ext ?_ ?_
  · cases lo with
    | none => rfl
    | some v => exact clip_eq v n 0
  · cases hi with
    | none => rfl
    | some v => exact clip_eq v n n
theorem places_gen (i j : Nat) : Builtin.Slice.slicePlaces (i : Int) (j : Int) 1 = j - i := by
  unfold Builtin.Slice.slicePlaces
  have h1 : (1 : Int) > 0 := by omega
  simp only [h1, if_true, Int.ediv_one]
  split <;> omega
theorem slicePart_ {v : Value} {o : Option Int} {Q : Option Int → Shared → Prop} (p : IsPart v o) (h : Q o s) : wpAny (model prog w) A (Builtin.Slice.slicePartIndex v) Q E s := by
  cases p with
  | none => exact slicePart_none h
  | int i t => exact slicePart_int h
theorem sliceApplied_gen {sl : Addr} {vl vu : Value} {lo hi : Option Int} {n : Nat} {Q : Int × Int × Nat → Shared → Prop} (hs : s.heap.IsSliceOf sl vl vu .none) (pl : IsPart vl lo) (pu : IsPart vu hi)
    (h : Q (((sIx n 0 lo : Nat) : Int), 1, sIx n n hi - sIx n 0 lo) s) : wpAny (model prog w) A (Builtin.Slice.sliceApplied (.ref sl) (pure (n : Int))) Q E s := by
  obtain ⟨os, hos, hcs, hds⟩ := id hs
  unfold Builtin.Slice.sliceApplied Builtin.Slice.sliceFields
  refine wpAny_bind (wpAny_bind (wpAny_field hos hds (x := vl) rfl (wpAny_bind (wpAny_field hos hds (x := vu) rfl (wpAny_bind (wpAny_field hos hds (x := .none) rfl (wpAny_pure ?_)))))))
  refine wpAny_bind (slicePart_none ?_)
  show wpAny _ _ (if ((1 : Int) == 0) = true then _ else _) _ _ s
  rw [if_neg (by decide)]
  refine wpAny_bind (slicePart_ pl (wpAny_bind (slicePart_ pu (wpAny_bind (wpAny_pure ?_)))))
  show wpAny _ _ (match Builtin.Slice.sliceAdjust lo hi 1 (n : Int) with | (lo, hi) => pure (lo, (1 : Int), Builtin.Slice.slicePlaces lo hi 1)) _ _ s
  rw [adjust_gen lo hi n]
  show wpAny _ _ (pure (((sIx n 0 lo : Nat) : Int), (1 : Int), Builtin.Slice.slicePlaces ((sIx n 0 lo : Nat) : Int) ((sIx n n hi : Nat) : Int) 1)) _ _ s
  rw [places_gen]
  exact wpAny_pure h
theorem pick_gen (xs : Array Value) (i k : Nat) : ((List.range k).filterMap fun (m : Nat) => xs[((i : Int) + (m : Int) * 1).toNat]?).toArray = ((xs.toList.drop i).take k).toArray := by
  have e : (fun (m : Nat) => xs[((i : Int) + (m : Int) * 1).toNat]?) = fun m => xs[i + m]? := by
    funext m
    have : ((i : Int) + (m : Int) * 1).toNat = i + m := by omega
    rw [this]
  rw [e]
  have := pick_run xs i k
  rw [List.filterMap_map] at this
  have e2 : ((fun x => xs[x]?) ∘ fun x => i + x) = fun m => xs[i + m]? := rfl
  rw [e2] at this
  rw [this]

theorem getItem_tuple_cut {t sl : Addr} {items : Array Value} {vl vu : Value} {lo hi : Option Int} {Q : Value → Shared → Prop} (ht : IsTup s.heap t items) (hs : s.heap.IsSliceOf sl vl vu .none) (pl : IsPart vl lo) (pu : IsPart vu hi)
    (hw : ¬ (sIx items.size 0 lo = 0 ∧ sIx items.size items.size hi = items.size))
    (h : Q (.ref s.heap.objs.size) { s with heap := s.heap.push { cls := .type "tuple", data := .seq ((items.toList.drop (sIx items.size 0 lo)).take (sIx items.size items.size hi - sIx items.size 0 lo)).toArray } })
    (hsz : items.size ≤ sizeLine) : wpAny (model prog w) A (getItem (.ref t) (.ref sl)) Q E s := by
  have htake : sizeOk (.seq ((items.toList.drop (sIx items.size 0 lo)).take (sIx items.size items.size hi - sIx items.size 0 lo)).toArray) := by
    show ((items.toList.drop (sIx items.size 0 lo)).take (sIx items.size items.size hi - sIx items.size 0 lo)).toArray.size ≤ sizeLine
    rw [List.size_toArray, List.length_take, List.length_drop, Array.length_toList]
    omega
  have hj : sIx items.size items.size hi ≤ items.size := sIx_le _ _ (Nat.le_refl _) hi
  obtain ⟨os, hos, hcs, hds⟩ := id hs
  have hTs : s.TypeIs (.ref sl) "slice" := ⟨os, hos, hcs⟩
  unfold getItem
  try with_reducible refine wpAny_holding ?_
  first | refine wpAny_bind (wpAny_pure ?_) | skip
  refine wpAny_bind (wpAny_sequenceKey ht.typeIs (by decide) ?_)
  refine wpAny_bind (wpAny_callSpecial?_slot (name := Str.ofString "__getitem__") ht.typeIs PyProof.Rows.slot_tuple_getitem
    (wpAny_call_entry PyProof.Rows.slot_tuple_getitem ht.typeIs entry_tuple_getitem ?_ (args_tuple_getitem _ _)))
  show wpAny _ _ (Builtin.Tuple.tupleItemsOf (.ref t) >>= _) _ _ s
  refine wpAny_bind (tupleItemsOf_ ht ?_)
  refine wpAny_bind (wpAny_typeOf hTs ?_)
  rw [if_pos (by decide)]
  refine wpAny_bind (sliceApplied_gen hs pl pu ?_)
  have hno : ¬ ((((sIx items.size 0 lo : Nat) : Int) == 0 && (1 : Int) == 1 && (sIx items.size items.size hi - sIx items.size 0 lo) == items.size) = true) := by
    intro q
    rw [Bool.and_eq_true, Bool.and_eq_true] at q
    have q1 : ((sIx items.size 0 lo : Nat) : Int) = 0 := eq_of_beq q.1.1
    have q2 : sIx items.size items.size hi - sIx items.size 0 lo = items.size := eq_of_beq q.2
    exact hw ⟨by omega, by omega⟩
  show wpAny _ _ (if (((sIx items.size 0 lo : Nat) : Int) == 0 && (1 : Int) == 1 && (sIx items.size items.size hi - sIx items.size 0 lo) == items.size) = true then _ else _) _ _ s
  rw [if_neg hno, pick_gen]
  first
    | exact wpAny_bind (m := Builtin.Tuple.tupleExact _) (wpAny_newObj_type (wpAny_pure ⟨_, rfl, wpAny_pure h⟩) htake)
    | exact wpAny_bind (m := Builtin.Tuple.tupleExact _) (wpAny_newObj_type (wpAny_bind (wpAny_pure (wpAny_pure ⟨_, rfl, wpAny_pure h⟩))) htake)
    | exact wpAny_bind (wpAny_bind (m := Builtin.Tuple.tupleExact _) (wpAny_newObj_type (wpAny_pure (wpAny_pure ⟨_, rfl, wpAny_pure h⟩)) htake))
    | exact wpAny_bind (wpAny_bind (m := Builtin.Tuple.tupleExact _) (wpAny_newObj_type (wpAny_pure ⟨_, rfl, wpAny_pure h⟩) htake))
end
end HT

namespace L2
open PySem PySem.Spec PyProof.Rows

/-! ### the parts of a slice -/
abbrev TO := St → Hp → (Option Int → Hp → Prop) → Prop
/-- a slice's part (left out, or an int) -/
def PO (X : Cx) (e : Option Expr) (t : TO) : Prop :=
  ∀ (pins : List (Addr × Obj)) (s : Shared) (σ : St) (H : Hp) (Q : Option Int → Hp → Prop), Inv X pins σ H s → t σ H Q →
    wpAny (model X.prog X.w) X.A (evalPart e X.env) (fun u s' => ∃ o H', Inv X pins σ H' s' ∧ IsPart u o ∧ Q o H') X.xe s
def tNoPart : TO := fun _ H Q => Q none H
def tPart (t : TE) : TO := fun σ H Q => t σ H fun x H1 => ∃ i, x = .int i ∧ Q (some i) H1

theorem intsAre_of {ns : List Int} : ∀ {us : List Value}, Vals (ns.map V.int) us → IntsAre us ns := by
  induction ns with
  | nil => intro us r; rw [List.map_nil] at r; cases r; exact .nil
  | cons n ns ih =>
    intro us r
    rw [List.map_cons] at r
    cases r with
    | cons r1 r2 =>
      obtain ⟨t, e⟩ := r1
      subst e
      exact .cons n t (ih r2)

section
variable {X : Cx} {e : Expr} {te : TE} {lo hi : Option Expr} {tl th : TO} {pos p2 : Pos}

theorem po_none : PO X none tNoPart := by
  intro pins s σ H Q I h
  rw [evalPart_none]
  exact wpAny_pure ⟨none, H, I, .none, h⟩
theorem po_some (h : PE X e te) : PO X (some e) (tPart te) := by
  intro pins s σ H Q I hw
  rw [evalPart_some]
  refine thn (h pins s σ H _ I hw) fun u s1 ⟨x, H1, I1, r1, q1⟩ => ?_
  obtain ⟨i, rfl, q⟩ := q1
  obtain ⟨t, rfl⟩ := r1
  exact ⟨some i, H1, I1, .int i t, q⟩

/-- what a slice of a value is, by values: the slice object stands at sl -/
def SlR (X : Cx) (r : V → Option Int → Option Int → Hp → VK → Prop) : Prop :=
  ∀ (pins : List (Addr × Obj)) (s : Shared) (σ : St) (H : Hp) (x : V) (v vl vu : Value) (lo hi : Option Int) (sl : Addr) (Q : VK), Inv X pins σ H s → RelV x v → s.heap.IsSliceOf sl vl vu .none → IsPart vl lo → IsPart vu hi → r x lo hi H Q →
    ∃ T id, typeLookup (.type T) "__getitem__" = pure (some (.builtin id)) ∧ s.TypeIs v T ∧ wpAny (model X.prog X.w) X.A (getItem v (.ref sl)) (EP X pins σ Q) X.xe s
def tSl (r : V → Option Int → Option Int → Hp → VK → Prop) (te : TE) (tl th : TO) : TE := fun σ H Q => te σ H fun x H1 => tl σ H1 fun l H2 => th σ H2 fun u H3 => r x l u H3 Q
/-- a[lo:hi], any a -/
theorem pe_slice {r : V → Option Int → Option Int → Hp → VK → Prop} (hr : SlR X r) (he : PE X e te) (hl : PO X lo tl) (hu : PO X hi th) : PE X (.Subscript e (.Slice lo hi none p2) pos) (tSl r te tl th) := by
  intro pins s σ H Q I h
  refine Subscript_ (thn (he pins s σ H _ I h) fun v s1 ⟨x, H1, I1, r1, q1⟩ => ?_)
  refine wpAny_Slice (thn (hl pins s1 σ H1 _ I1 q1) fun vl s2 ⟨l, H2, I2, pl, q2⟩ => thn (hu pins s2 σ H2 _ I2 q2) fun vu s3 ⟨u, H3, I3, pu, q3⟩ => ?_)
  rw [evalPart_none]
  refine wpAny_pure ?_
  have I4 : Inv X pins σ H3 { s3 with heap := s3.heap.push { cls := .type "slice", data := .fields #[vl, vu, .none] } } := I3.kept (t' := s3.toks) fun b ob q => Heap.get?_push_of_some _ q
  obtain ⟨T, id, hT, ht, hg⟩ := hr pins { s3 with heap := s3.heap.push { cls := .type "slice", data := .fields #[vl, vu, .none] } } σ H3 x v vl vu l u s3.heap.objs.size Q I4 r1 (Heap.IsSliceOf.new ..) pl pu q3
  show wpAny (model X.prog X.w) X.A (subscriptTail e (.Slice lo hi none p2) v (.ref s3.heap.objs.size)) (EP X pins σ Q) X.xe { s3 with heap := s3.heap.push { cls := .type "slice", data := .fields #[vl, vu, .none] } }
  exact tail_any (ops := [.ref s3.heap.objs.size, v]) ht hT hg (by with_unfolding_all rfl)

/-- the items of xs[lo:hi] -/
def cutV (xs : List V) (lo hi : Option Int) : List V := (xs.drop (HT.sIx xs.length 0 lo)).take (HT.sIx xs.length xs.length hi - HT.sIx xs.length 0 lo)
theorem cutV_length (xs : List V) (lo hi : Option Int) : (cutV xs lo hi).length ≤ xs.length := by
  unfold cutV
  rw [List.length_take, List.length_drop]
  omega
/-- t[lo:hi], not the whole of it (the whole would be t itself) -/
def rSlT (K : PySem.W.Frag) : V → Option Int → Option Int → Hp → VK → Prop := fun x lo hi H Q => ∃ a xs, x = .ref a ∧ SqT K H a xs ∧
  ¬ (HT.sIx xs.length 0 lo = 0 ∧ HT.sIx xs.length xs.length hi = xs.length) ∧ ∀ p, H p = none → Q (.ref p) (upd H p (.tup (cutV xs lo hi)))
theorem sl_tup : SlR X (rSlT X.K) := by
  intro pins s σ H x v vl vu lo hi sl Q I rx hs pl pu h
  obtain ⟨a, xs, rfl, hx, hw, q⟩ := h
  cases rx
  obtain ⟨its, r, ht, hz⟩ := I.tuple hx
  have hlen : its.toArray.size = xs.length := by rw [List.size_toArray]; exact r.length.symm
  refine ⟨"tuple", _, PyProof.Rows.slot_tuple_getitem.lookup, ht.typeIs, ?_⟩
  refine HT.getItem_tuple_cut ht hs pl pu (by rw [hlen]; exact hw) ?_ (by rw [hlen]; exact hz)
  rw [hlen]
  refine ⟨.ref s.heap.objs.size, _, I.laid (t' := s.toks) (o := .tup (cutV xs lo hi)) (fun b ob q => Heap.get?_push_of_some _ q) (Nat.le_refl _) ?_, rfl, q _ (I.hok.fresh (Nat.le_refl _))⟩
  exact ⟨Nat.le_trans (cutV_length xs lo hi) hz, _, (r.drop (HT.sIx xs.length 0 lo)).take (HT.sIx xs.length xs.length hi - HT.sIx xs.length 0 lo), TupN.new _ _⟩

/-! ### t < u, t + u -/
end
end L2

namespace L2
open PySem PySem.Spec PyProof.Rows

/-! ### places -/
/-- the place that an index of any sign means -/
def ixN (n : Nat) (i : Int) : Option Nat := if 0 ≤ i then (if i < n then some i.toNat else none) else if -(n : Int) ≤ i then some (i + n).toNat else none
def atI {α : Type} (xs : List α) (i : Int) : Option α := (ixN xs.length i).bind fun j => xs[j]?
theorem ixN_seq {n : Nat} {i : Int} {j : Nat} (h : ixN n i = some j) : seqIndex? i n = some j ∧ j < n ∧ -(n : Int) ≤ i ∧ i < n := by
  unfold ixN at h
  by_cases h0 : 0 ≤ i
  · rw [if_pos h0] at h
    by_cases h1 : i < n
    · rw [if_pos h1] at h
      have e : i.toNat = j := Option.some.inj h
      exact ⟨by rw [seqIndex_of h0 h1, e], by omega, by omega, h1⟩
    · rw [if_neg h1] at h; cases h
  · rw [if_neg h0] at h
    by_cases h1 : -(n : Int) ≤ i
    · rw [if_pos h1] at h
      have e : (i + n).toNat = j := Option.some.inj h
      exact ⟨by rw [seqIndex_neg (by omega) h1, e], by omega, h1, by omega⟩
    · rw [if_neg h1] at h; cases h
theorem atI_get {α : Type} {xs : List α} {i : Int} {v : α} (h : atI xs i = some v) : ∃ j, seqIndex? i xs.length = some j ∧ xs[j]? = some v ∧ j < xs.length ∧ -(xs.length : Int) ≤ i ∧ i < xs.length := by
  unfold atI at h
  cases e : ixN xs.length i with
  | none => rw [e] at h; cases h
  | some j =>
    rw [e] at h
    obtain ⟨h1, h2, h3, h4⟩ := ixN_seq e
    exact ⟨j, h1, h, h2, h3, h4⟩

/-! ### what may be subscripted -/
/-- what stands as an index of a plain subscript -/
def PlainIx (b : Expr) : Prop := ∀ o i, subscripted b false o i = operate [o, i] (getItem o i)
/-- a subscript by values -/
def IxR (X : Cx) (r : R2) : Prop :=
  ∀ (value slice : Expr) (pins : List (Addr × Obj)) (s : Shared) (σ : St) (H : Hp) (x y : V) (v u : Value) (Q : VK), Inv X pins σ H s → RelV x v → RelV y u → r x y H Q →
    subscripted slice false v u = operate [v, u] (getItem v u) → wpAny (model X.prog X.w) X.A (subscriptTail value slice v u) (EP X pins σ Q) X.xe s
/-- a call of a builtin's method by values: the receiver, the arguments -/
def MtR (X : Cx) (id : String) (r : V → List V → Hp → VK → Prop) : Prop :=
  ∀ (pins : List (Addr × Obj)) (s : Shared) (σ : St) (H : Hp) (x : V) (xs : List V) (v : Value) (us : List Value) (Q : VK), Inv X pins σ H s → RelV x v → Vals xs us → r x xs H Q →
    wpAny (model X.prog X.w) X.A (call (.builtin id) (v :: us)) (EP X pins σ Q) X.xe s
section
variable {X : Cx} {a b : Expr} {ta tb : TE} {pos : Pos}
/-- a[b] -/
theorem pe_ix {r : R2} (hr : IxR X r) (ha : PE X a ta) (hb : PE X b tb) (hs : PlainIx b) : PE X (.Subscript a b pos) (tOp r ta tb) := by
  intro pins s σ H Q I h
  exact Subscript_ (binT ha hb I h fun v u s2 x y H2 I2 rx ry q => hr a b pins s2 σ H2 x y v u Q I2 rx ry q (hs _ _))

def rIxL (K : PySem.W.Frag) : R2 := fun x y H Q => ∃ p xs i v, x = .ref p ∧ y = .int i ∧ SqL K H p xs ∧ atI xs i = some v ∧ Q v H
def rIxT (K : PySem.W.Frag) : R2 := fun x y H Q => ∃ p xs i v, x = .ref p ∧ y = .int i ∧ SqT K H p xs ∧ atI xs i = some v ∧ Q v H
def rIxS : R2 := fun x y H Q => ∃ z i c, x = .str z ∧ y = .int i ∧ z.length ≤ sizeLine ∧ atI z.cps.toList i = some c ∧ Q (.str ⟨#[c]⟩) H
theorem ix_list : IxR X (rIxL X.K) := by
  intro value slice pins s σ H x y v u Q I rx ry h hs
  obtain ⟨p, xs, i, z, rfl, rfl, hq, he, q⟩ := h
  cases rx
  obtain ⟨t, rfl⟩ := ry
  obtain ⟨its, r, pl, hz⟩ := I.list hq
  obtain ⟨j, h1, h2, h3, h4, h5⟩ := atI_get he
  obtain ⟨w, ew, rw'⟩ := r.get h2
  have hl := r.length
  have hn := line63
  have fin : EP X pins σ Q w s := ⟨z, H, I, rw', q⟩
  by_cases h0 : 0 ≤ i
  · have hj : i.toNat = j := by
      rw [seqIndex_of h0 h5] at h1
      exact Option.some.inj h1
    exact item_listR pl.isList h0 (by omega) (by rw [hj]; simpa using ew) fin hs
  · have hj : (i + (its.toArray.size : Int)).toNat = j := by
      rw [seqIndex_neg (by omega) h4] at h1
      rw [List.size_toArray, ← hl]
      exact Option.some.inj h1
    exact subscriptTail_builtinR (x := w) pl.isList.typeIs slot_list_getitem.lookup
      (wpAny_getItem_list_neg (Q := fun r s' => r = w ∧ EP X pins σ Q r s') pl.isList (by omega) (by rw [List.size_toArray] <;> omega) (by omega) (by rw [hj]; simpa using ew) ⟨rfl, fin⟩) hs
theorem ix_tup : IxR X (rIxT X.K) := by
  intro value slice pins s σ H x y v u Q I rx ry h hs
  obtain ⟨p, xs, i, z, rfl, rfl, hq, he, q⟩ := h
  cases rx
  obtain ⟨t, rfl⟩ := ry
  obtain ⟨its, r, pl, hz⟩ := I.tuple hq
  obtain ⟨j, h1, h2, h3, h4, h5⟩ := atI_get he
  obtain ⟨w, ew, rw'⟩ := r.get h2
  have hl := r.length
  have hn := line63
  have fin : EP X pins σ Q w s := ⟨z, H, I, rw', q⟩
  exact subscriptTail_builtinR (x := w) pl.typeIs slot_tuple_getitem.lookup
    (getItem_tuple (j := j) (Q := fun r s' => r = w ∧ EP X pins σ Q r s') pl (by omega) (by omega) (by rw [List.size_toArray, ← hl]; exact h1) (by simpa using ew) ⟨rfl, fin⟩) hs
theorem ix_str : IxR X rIxS := by
  intro value slice pins s σ H x y v u Q I rx ry h hs
  obtain ⟨z, i, c, rfl, rfl, hz, he, q⟩ := h
  obtain ⟨t, rfl⟩ := rx
  obtain ⟨t', rfl⟩ := ry
  obtain ⟨j, h1, h2, h3, h4, h5⟩ := atI_get he
  have hl : z.cps.toList.length = z.length := by simp [Str.length]
  rw [hl] at h1 h4 h5
  have hn := line63
  exact tail_any (typeIs_str s z t) slot_str_getitem.lookup (getItem_str (c := c) (by
    have e1 : decide (i < -(2 ^ 63 : Int)) = false := decide_eq_false (by omega)
    have e2 : decide (i ≥ 2 ^ 63) = false := decide_eq_false (by omega)
    rw [e1, e2, Bool.or_false]) (by rw [h1]; simpa using h2) ⟨.str ⟨#[c]⟩, H, I.tok _, ⟨_, rfl⟩, q⟩) hs

/-! ### xs[i] = v, any sign -/
/-- the list's object behind a store -/
theorem mapSeq_set (its : List Value) (n j : Nat) (u : Value) : Obj.mapSeq (·.setIfInBounds j u) { cls := .type "list", data := .seq its.toArray n } = { cls := .type "list", data := .seq (its.set j u).toArray n } := by
  simp [Obj.mapSeq]
theorem Inv.lst {pins : List (Addr × Obj)} {σ : St} {H : Hp} {s : Shared} {p : Addr} {xs : List V} (I : Inv X pins σ H s) (h : H p = some (.lst xs)) :
    ∃ (its : List Value) (n : Nat), Vals xs its ∧ s.heap.get? p = some { cls := .type "list", data := .seq its.toArray n } ∧ xs.length ≤ sizeLine := by
  obtain ⟨z, its, n, r, e⟩ := I.hok p _ h
  exact ⟨its, n, r, e, z⟩
/-- the list at p is written by an update of its object -/
theorem Inv.lstUpd {pins : List (Addr × Obj)} {σ : St} {H : Hp} {s : Shared} {p : Addr} {xs ys : List V} {its its' : List Value} {n n' : Nat} {f : Obj → Obj} (I : Inv X pins σ H s) (h : H p = some (.lst xs))
    (ho : s.heap.get? p = some { cls := .type "list", data := .seq its.toArray n }) (hf : f { cls := .type "list", data := .seq its.toArray n } = { cls := .type "list", data := .seq its'.toArray n' }) (r : Vals ys its') (hz : ys.length ≤ sizeLine) (t : Nat) :
    Inv X pins σ (upd H p (.lst ys)) { s with heap := s.heap.update p f, toks := t } := by
  have e : (s.heap.update p f).get? p = some { cls := .type "list", data := .seq its'.toArray n' } := by
    rw [Heap.get?_update_self f ho (by rw [hf] <;> rfl), hf]
  refine I.write (x := p) (e := p) (by rw [h]; trivial) (.inl rfl) (fun b u hb q => (Heap.get?_update_other _ _ (Ne.symm hb)).trans q) ⟨_, e⟩ ?_
  exact ⟨hz, its', n', r, e⟩
def rSetL : V → V → V → Hp → (Hp → Prop) → Prop := fun o i v H Q => ∃ p xs k j, o = .ref p ∧ i = .int k ∧ H p = some (.lst xs) ∧ ixN xs.length k = some j ∧ Q (upd H p (.lst (xs.set j v)))
theorem set_list : PSet X rSetL := by
  intro pins s σ H o i v ov iv u Q I ro ri rv h
  obtain ⟨p, xs, k, j, rfl, rfl, hp, hj, q⟩ := h
  cases ro
  obtain ⟨t, rfl⟩ := ri
  obtain ⟨its, n, r, ho, hz⟩ := I.lst hp
  obtain ⟨h1, h2, h3, h4⟩ := ixN_seq hj
  have hl := r.length
  have hn := line63
  have I' : Inv X pins σ (upd H p (.lst (xs.set j v))) { s with heap := s.heap.update p (Obj.mapSeq (·.setIfInBounds j u)) } :=
    I.lstUpd hp ho (mapSeq_set its n j u) (r.set rv j) (by rw [List.length_set]; exact hz) s.toks
  by_cases h0 : 0 ≤ k
  · have hk : k.toNat = j := by
      rw [seqIndex_of h0 h4] at h1
      exact Option.some.inj h1
    exact PySem.W.ki_setAt ho h0 (by omega) (by rw [List.size_toArray, ← hl]; exact h4) (by rw [hk]; exact ⟨_, I', q⟩)
  · have hk : (k + (its.toArray.size : Int)).toNat = j := by
      rw [seqIndex_neg (by omega) h3] at h1
      rw [List.size_toArray, ← hl]
      exact Option.some.inj h1
    exact PySem.W.ki_setBack ho (by omega) (by rw [List.size_toArray, ← hl]; exact h3) (by omega) (by rw [hk]; exact ⟨_, I', q⟩)

/-! ### slices -/
theorem slice_bounds (lo hi : Option Int) (n : Nat) : (sliceBounds lo hi none n).1 = ((HT.sIx n 0 lo : Nat) : Int) ∧ (sliceBounds lo hi none n).2.1 = ((HT.sIx n n hi : Nat) : Int) ∧ (sliceBounds lo hi none n).2.2 = 1 := by
  refine ⟨?_, ?_, rfl⟩
  · cases lo with
    | none => simp [sliceBounds, HT.sIx]
    | some i =>
      simp only [sliceBounds, HT.sIx, Option.getD_none, show (1 : Int) > 0 by decide, if_true]
      by_cases h : i < 0
      · simp only [h, if_true] <;> omega
      · simp only [h, if_false] <;> omega
  · cases hi with
    | none => simp [sliceBounds, HT.sIx]
    | some i =>
      simp only [sliceBounds, HT.sIx, Option.getD_none, show (1 : Int) > 0 by decide, if_true]
      by_cases h : i < 0
      · simp only [h, if_true] <;> omega
      · simp only [h, if_false] <;> omega
theorem slicePick_cut (its : List Value) (lo hi : Option Int) : slicePick its.toArray lo hi none = ((its.drop (HT.sIx its.length 0 lo)).take (HT.sIx its.length its.length hi - HT.sIx its.length 0 lo)).toArray := by
  obtain ⟨h1, h2, h3⟩ := slice_bounds lo hi its.toArray.size
  unfold slicePick
  rw [h1, h2, h3]
  simp only [sliceRange_one, pick_run, List.size_toArray] <;> rfl
/-- xs[lo:hi] of a list: a new list -/
def rSlL (K : PySem.W.Frag) : V → Option Int → Option Int → Hp → VK → Prop := fun x lo hi H Q => ∃ a xs, x = .ref a ∧ SqL K H a xs ∧ ∀ p, H p = none → Q (.ref p) (upd H p (.lst (cutV xs lo hi)))
theorem sl_list : SlR X (rSlL X.K) := by
  intro pins s σ H x v vl vu lo hi sl Q I rx hs pl pu h
  obtain ⟨a, xs, rfl, hx, q⟩ := h
  cases rx
  obtain ⟨its, r, ht, hz⟩ := I.list hx
  have hlen := r.length
  refine ⟨"list", _, slot_list_getitem.lookup, ht.isList.typeIs, ?_⟩
  refine wpAny_getItem_list_slice ht.isList hs pl pu .none (by simp) ?_ (by rw [List.size_toArray] <;> omega)
  rw [slicePick_cut, ← hlen]
  refine ⟨.ref s.heap.objs.size, _, I.laid (t' := s.toks) (o := .lst (cutV xs lo hi)) (fun b ob q => Heap.get?_push_of_some _ q) (Nat.le_refl _) ?_, rfl, q _ (I.hok.fresh (Nat.le_refl _))⟩
  exact ⟨Nat.le_trans (cutV_length xs lo hi) hz, _, 0, (r.drop (HT.sIx xs.length 0 lo)).take (HT.sIx xs.length xs.length hi - HT.sIx xs.length 0 lo), Heap.get?_push_size _ rfl⟩

/-! ### in, not in: flat items -/
def flatV : V → Bool
  | .non => true
  | .bl _ => true
  | .int _ => true
  | .str _ => true
  | _ => false
/-- == of flat values -/
def eqV : V → V → Bool
  | .non, .non => true
  | .bl a, .bl b => a == b
  | .bl a, .int b => (if a then 1 else 0) == b
  | .int a, .bl b => a == (if b then 1 else 0)
  | .int a, .int b => a == b
  | .str a, .str b => a == b
  | _, _ => false
theorem eqAt_V {A : Around} {s : Shared} {y x : V} {u v : Value} (ry : RelV y u) (rx : RelV x v) (fy : flatV y = true) (fx : flatV x = true) : SeqAt.EqAt A s u v (eqV y x) := by
  cases y with
  | non =>
    cases ry
    cases x with
    | non => cases rx; exact SeqAt.EqAt.same _
    | bl b => cases rx; exact SeqAt.EqAt.none_bool b
    | int b => obtain ⟨t, rfl⟩ := rx; exact SeqAt.EqAt.none_int b t
    | str b => obtain ⟨t, rfl⟩ := rx; exact SeqAt.EqAt.none_str b t
    | _ => exact absurd (show false = true from fx) Bool.false_ne_true
  | bl a =>
    cases ry
    cases x with
    | non => cases rx; exact SeqAt.EqAt.bool_none a
    | bl b => cases rx; exact SeqAt.EqAt.bool_bool a b
    | int b => obtain ⟨t, rfl⟩ := rx; exact SeqAt.EqAt.bool_int a b t
    | str b => obtain ⟨t, rfl⟩ := rx; exact SeqAt.EqAt.bool_str a b t
    | _ => exact absurd (show false = true from fx) Bool.false_ne_true
  | int a =>
    obtain ⟨t', rfl⟩ := ry
    cases x with
    | non => cases rx; exact SeqAt.EqAt.int_none a t'
    | bl b => cases rx; exact SeqAt.EqAt.int_bool a t' b
    | int b => obtain ⟨t, rfl⟩ := rx; exact SeqAt.EqAt.int_int a t' b t
    | str b => obtain ⟨t, rfl⟩ := rx; exact SeqAt.EqAt.int_str a t' b t
    | _ => exact absurd (show false = true from fx) Bool.false_ne_true
  | str a =>
    obtain ⟨t', rfl⟩ := ry
    cases x with
    | non => cases rx; exact SeqAt.EqAt.str_none a t'
    | bl b => cases rx; exact SeqAt.EqAt.str_bool a t' b
    | int b => obtain ⟨t, rfl⟩ := rx; exact SeqAt.EqAt.str_int a t' b t
    | str b => obtain ⟨t, rfl⟩ := rx; exact SeqAt.EqAt.str_str a t' b t
    | _ => exact absurd (show false = true from fx) Bool.false_ne_true
  | _ => exact absurd (show false = true from fy) Bool.false_ne_true
/-- the items' answers, read off the values (a value's own answer does not lean on its token) -/
def eqU (x : V) (u : Value) : Bool := match u with
  | .none => eqV .non x
  | .bool b => eqV (.bl b) x
  | .int i _ => eqV (.int i) x
  | .str z _ => eqV (.str z) x
  | _ => false
theorem eqU_of {x y : V} {u : Value} (r : RelV y u) (f : flatV y = true) : eqU x u = eqV y x := by
  cases y with
  | non => cases r; rfl
  | bl b => cases r; rfl
  | int i => obtain ⟨t, rfl⟩ := r; rfl
  | str z => obtain ⟨t, rfl⟩ := r; rfl
  | _ => exact absurd (show false = true from f) Bool.false_ne_true
theorem any_eqU {x : V} : ∀ {xs : List V} {us : List Value}, Vals xs us → xs.all flatV = true → us.any (eqU x) = xs.any fun y => eqV y x
  | _, _, .nil, _ => rfl
  | y :: xs, u :: us, .cons r t, f => by
    rw [List.all_cons, Bool.and_eq_true] at f
    rw [List.any_cons, List.any_cons, eqU_of r f.1, any_eqU t f.2]
theorem mem_eqAt {A : Around} {s : Shared} {x : V} {v : Value} (rx : RelV x v) (fx : flatV x = true) : ∀ {xs : List V} {us : List Value}, Vals xs us → xs.all flatV = true → ∀ u ∈ us, SeqAt.EqAt A s u v (eqU x u)
  | _, _, .nil, _ => fun u hu => by cases hu
  | y :: xs, u :: us, .cons r t, f => fun u' hu => by
    rw [List.all_cons, Bool.and_eq_true] at f
    rcases List.mem_cons.mp hu with rfl | hu
    · rw [eqU_of r f.1]; exact eqAt_V r rx f.1 fx
    · exact mem_eqAt rx fx t f.2 u' hu
def inV (x : V) (xs : List V) : Bool := xs.any fun y => eqV y x
/-- x in a list or tuple of flat items -/
def rIn (K : PySem.W.Frag) (neg : Bool) : R2 := fun x y H Q => ∃ p xs, y = .ref p ∧ (SqL K H p xs ∨ SqT K H p xs) ∧ flatV x = true ∧ xs.all flatV = true ∧ Q (.bl (if neg then !inV x xs else inV x xs)) H
theorem op_notIn_seq : OpR X (compareOp .NotIn) (rIn X.K true) := by
  intro pins s σ H x y v u Q I rx ry h
  obtain ⟨p, xs, rfl, hq, fx, fs, q⟩ := h
  cases ry
  rcases hq with hq | hq
  · obtain ⟨its, r, pl, hz⟩ := I.list hq
    refine SeqAt.notIn_listAt (eqU x) pl.isList (fun w hw => mem_eqAt rx fx r fs w (by simpa using hw)) ⟨.bl _, H, I, rfl, ?_⟩
    rw [show its.toArray.any (eqU x) = its.any (eqU x) by simp, any_eqU r fs]
    exact q
  · obtain ⟨its, r, pl, hz⟩ := I.tuple hq
    refine SeqAt.notIn_tupleAt (eqU x) pl (fun w hw => mem_eqAt rx fx r fs w (by simpa using hw)) ⟨.bl _, H, I, rfl, ?_⟩
    rw [show its.toArray.any (eqU x) = its.any (eqU x) by simp, any_eqU r fs]
    exact q

/-! ### len, list(x), tuple(x) of any list or tuple that is read -/
theorem call_len_seq : CallR X (.builtin "len") (fun xs H Q => ∃ p ys, xs = [.ref p] ∧ (SqL X.K H p ys ∨ SqT X.K H p ys) ∧ Q (.int ys.length) H) := by
  intro pins s σ H xs us Q I r h
  obtain ⟨p, ys, rfl, hq, q⟩ := h
  obtain ⟨u, rfl, rx⟩ := vals1 r
  cases rx
  have hn := line63
  rcases hq with hq | hq
  · obtain ⟨its, r', pl, hz⟩ := I.list hq
    have hlen := r'.length
    exact Calls.call_len_list pl.isList (by simp only [List.size_toArray] <;> omega) ⟨.int ys.length, H, I.tok _, ⟨s.toks + 1, by rw [List.size_toArray, hlen]⟩, q⟩
  · obtain ⟨its, r', pl, hz⟩ := I.tuple hq
    have hlen := r'.length
    exact len_tuple pl (by simp only [List.size_toArray] <;> omega) ⟨.int ys.length, H, I.tok _, ⟨s.toks + 1, by rw [List.size_toArray, hlen]⟩, q⟩
theorem call_list_of : CallR X (.type "list") (fun xs H Q => ∃ p ys, xs = [.ref p] ∧ (SqL X.K H p ys ∨ SqT X.K H p ys) ∧ ∀ l, H l = none → Q (.ref l) (upd H l (.lst ys))) := by
  intro pins s σ H xs us Q I r h
  obtain ⟨p, ys, rfl, hq, q⟩ := h
  obtain ⟨u, rfl, rx⟩ := vals1 r
  cases rx
  have fin : ∀ (its : List Value), Vals ys its → ys.length ≤ sizeLine → ∀ (h' : Heap) (c' : Nat), (∀ b o', s.heap.get? b = some o' → h'.get? b = some o') →
      h'.get? s.heap.objs.size = some { cls := .type "list", dict := none, data := .seq its.toArray c', slots := #[] } → EP X pins σ Q (.ref s.heap.objs.size) { s with heap := h' } := fun its r' hz h' c' kp e =>
    ⟨.ref s.heap.objs.size, _, I.laid (t' := s.toks) kp (Nat.le_refl _) (show ObjOk X.prog X.w _ h' _ (.lst ys) from ⟨hz, its, c', r', e⟩), rfl, q _ (I.hok.fresh (Nat.le_refl _))⟩
  rcases hq with hq | hq
  · obtain ⟨its, r', pl, hz⟩ := I.list hq
    have hlen := r'.length
    obtain ⟨o, ho, hc, n, hd⟩ := pl.isList
    exact call_list_seq p (.inl rfl) ho hc hd (fun h' c' kp e => fin its r' hz h' c' kp e) (by simp only [List.size_toArray] <;> omega)
  · obtain ⟨its, r', pl, hz⟩ := I.tuple hq
    have hlen := r'.length
    obtain ⟨o, ho, hc, n, hd⟩ := pl
    exact call_list_seq p (.inr rfl) ho hc hd (fun h' c' kp e => fin its r' hz h' c' kp e) (by simp only [List.size_toArray] <;> omega)

/-! ### the call of a builtin's method: o.m(..) -/
/-- the value is of that builtin type -/
def tyV (K : PySem.W.Frag) (T : String) (x : V) (H : Hp) : Prop := match x with
  | .str _ => T = "str"
  | .int _ => T = "int"
  | .ref p => (T = "list" ∧ ∃ xs, SqL K H p xs) ∨ (T = "tuple" ∧ ∃ o, K.lookup p = some o ∧ o.cls = .type "tuple" ∧ o.dict = none) ∨
      (T = "dict" ∧ ((∃ kvs, H p = some (.dK kvs)) ∨ ∃ kvs, H p = some (.dT kvs))) ∨ (T = "set" ∧ ∃ S n, H p = some (.set S n))
  | _ => False
theorem tyV_is {pins : List (Addr × Obj)} {σ : St} {H : Hp} {s : Shared} {T : String} {x : V} {v : Value} (I : Inv X pins σ H s) (r : RelV x v) (ty : tyV X.K T x H) :
    s.TypeIs v T ∧ ∀ a, v = .ref a → ∃ ob, s.heap.get? a = some ob ∧ ob.dict = none := by
  cases x with
  | str z =>
    obtain ⟨t, rfl⟩ := r
    cases (show T = "str" from ty)
    exact ⟨typeIs_str s z t, fun _ e => nomatch e⟩
  | int i =>
    obtain ⟨t, rfl⟩ := r
    cases (show T = "int" from ty)
    exact ⟨typeIs_int s i t, fun _ e => nomatch e⟩
  | ref p =>
    cases r
    rcases ty with ⟨rfl, xs, hq⟩ | ⟨rfl, o, hk, hc, hd⟩ | ⟨rfl, hk⟩ | ⟨rfl, S, n, hk⟩
    · obtain ⟨its, _, pl, _⟩ := I.list hq
      refine ⟨pl.isList.typeIs, fun a e => ?_⟩
      cases e
      obtain ⟨o, n, e, c, hd, _⟩ := pl
      exact ⟨o, e, hd⟩
    · refine ⟨⟨o, I.kIn p o hk, hc⟩, fun a e => ?_⟩
      cases e
      exact ⟨o, I.kIn _ o hk, hd⟩
    · have z : ∃ o, s.heap.get? p = some o ∧ o.ExactDict := by
        rcases hk with ⟨kvs, hk⟩ | ⟨kvs, hk⟩
        · obtain ⟨_, _, _, _, o, _, _, e, ex, _⟩ := I.hok p _ hk
          exact ⟨o, e, ex⟩
        · obtain ⟨_, _, _, _, o, _, _, e, ex, _⟩ := I.hok p _ hk
          exact ⟨o, e, ex⟩
      obtain ⟨o, e, ex⟩ := z
      refine ⟨⟨o, e, ex.1⟩, fun a e2 => ?_⟩
      cases e2
      exact ⟨o, e, ex.2.1⟩
    · obtain ⟨o, _, _, _, e, ex, _⟩ := I.hok p _ hk
      refine ⟨⟨o, e, ex.1⟩, fun a e2 => ?_⟩
      cases e2
      exact ⟨o, e, ex.2.1⟩
  | _ => exact False.elim ty
def tBM (K : PySem.W.Frag) (T : String) (r : V → List V → Hp → VK → Prop) (to : TE) (t : TA) : TE := fun σ H Q => to σ H fun x H1 => tyV K T x H1 ∧ t σ H1 fun xs H2 => r x xs H2 Q
variable {o e : Expr} {es : List Expr} {to : TE} {t : TA} {name : Str} {apos cpos : Pos} {T id : String} {r : V → List V → Hp → VK → Prop}
theorem pe_bm (pa : PlainAttrs T) (slot : Slot T name id) (hty : typeOf (.builtin id) = pure (.type "method_descriptor")) (hm : MtR X id r) (ho : PE X o to) (ha : PA X (e :: es) t)
    (hbase : attributeBase o name X.env (eval o X.env) = eval o X.env := by rfl)
    (hfew : ((backTo cpos (starEach (e :: es) X.env)).all (fun x => !x.1) && (backToKw cpos (keywordEach [] X.env)).all (fun x => x.1.isSome)
      && decide ((e :: es).length + ([] : List Keyword).length + (if ([] : List Keyword).isEmpty then 0 else 1) < 30)) = true := by rfl)
    (hline : (apos.endLine == cpos.line) = true := by rfl) (hs : starEach (e :: es) X.env = (false, eval e X.env) :: starEach es X.env := by rfl) (hplain : (backTo cpos (starEach es X.env)).any (·.1) = false := by rfl) :
    PE X (.Call (.Attribute o name apos) (e :: es) [] cpos) (tBM X.K T r to t) := by
  intro pins s σ H Q I h
  refine wpAny_Call_method_late hbase hfew hline rfl (thn (ho pins s σ H _ I h) fun v s1 ⟨x, H1, I1, r1, ty, q1⟩ => ?_)
  obtain ⟨h1, h2⟩ := tyV_is I1 r1 ty
  refine ⟨T, id, pa, slot, hty, h1, h2, ?_⟩
  have hA := ha cpos pins s1 σ H1 _ I1 q1
  rw [hs] at hA ⊢
  refine Calls.callWith_builtin (by show (false || (backTo cpos (starEach es X.env)).any (·.1)) = false; rw [hplain] <;> rfl) (Calls.evalArgs_plain ?_)
  exact thn hA fun us s2 ⟨vs, H2, I2, r2, q2⟩ => hm pins s2 σ H2 x vs v us Q I2 r1 r2 q2
/- xs.append(e), list.index on a module's tuple .. are MtR facts of 06m -/
end
end L2

namespace L2
open PySem PySem.Spec PyProof.Rows

def MtM (X : Cx) (id : String) (r : V → List V → Hp → VK → Prop) : Prop :=
  ∀ (pins : List (Addr × Obj)) (s : Shared) (σ : St) (H : Hp) (x : V) (xs : List V) (v : Value) (us : List Value) (Q : VK), Inv X pins σ H s → RelV x v → Vals xs us → r x xs H Q →
    wpAny (model X.prog X.w) X.A (call (.builtin id) (v :: us)) (EP X pins σ Q) X.xe s

/-! ### lists of values -/
theorem Vals.one : ∀ {x : V} {us : List Value}, Vals [x] us → ∃ u, us = [u] ∧ RelV x u
  | _, _, .cons r .nil => ⟨_, rfl, r⟩

section
variable {X : Cx} {pins : List (Addr × Obj)} {σ : St} {H : Hp} {s : Shared} {l b : Addr} {xs ys zs : List V}

/-! ### the two steps: a tracked list is rewritten, a new list is laid -/
theorem Inv.lset {its its' : List Value} {n : Nat} {f : Array Value → Array Value} {t' : Nat} (I : Inv X pins σ H s) (hH : H l = some (.lst xs))
    (e : s.heap.get? l = some { cls := .type "list", data := .seq its.toArray n }) (hf : f its.toArray = its'.toArray) (hv : Vals ys its') (hz : ys.length ≤ sizeLine) :
    Inv X pins σ (upd H l (.lst ys)) { s with heap := s.heap.update l (Obj.mapSeq f), toks := t' } := by
  have q := PySem.IsL.update e f
  rw [hf] at q
  refine I.write (x := l) (e := l) (by rw [hH]; exact trivial) (.inl rfl) (fun b' u hb hu => (Heap.get?_update_other s.heap (Obj.mapSeq f) (Ne.symm hb)).trans hu) ⟨_, q⟩ ?_
  exact ⟨hz, its', _, hv, q⟩
theorem Inv.lnew {its : List Value} {t' : Nat} (I : Inv X pins σ H s) (hv : Vals ys its) (hz : ys.length ≤ sizeLine) :
    Inv X pins σ (upd H s.heap.objs.size (.lst ys)) { s with heap := s.heap.push { cls := .type "list", data := .seq its.toArray }, toks := t' } :=
  I.laid (fun _ _ q => Heap.get?_push_of_some _ q) (Nat.le_refl _) ⟨hz, its, 0, hv, Heap.get?_push_size _ rfl⟩
theorem Inv.fresh (I : Inv X pins σ H s) : H s.heap.objs.size = none := I.hok.fresh (Nat.le_refl _)
theorem Inv.lstM (I : Inv X pins σ H s) (hH : H l = some (.lst xs)) : xs.length ≤ sizeLine ∧ ∃ (its : List Value) (n : Nat), Vals xs its ∧ xs.length = its.length ∧ s.heap.get? l = some { cls := .type "list", data := .seq its.toArray n } := by
  obtain ⟨z, its, n, r, e⟩ := I.hok l _ hH
  exact ⟨z, its, n, r, r.length, e⟩

theorem notLongL {n : Nat} (h : n ≤ sizeLine) : Builtin.List.listTooLong n = false := by
  unfold Builtin.List.listTooLong
  exact decide_eq_false (by omega)
end

section
variable {X : Cx}

/-! ### methods -/
def rAppend : V → List V → Hp → VK → Prop := fun x vs H Q => ∃ l xs y, x = .ref l ∧ vs = [y] ∧ H l = some (.lst xs) ∧ xs.length < sizeLine ∧ Q .non (upd H l (.lst (xs ++ [y])))
theorem mt_append : MtM X "list.append" rAppend := by
  intro pins s σ H x vs v us Q I rx rv h
  obtain ⟨l, xs, y, rfl, rfl, hH, hz, q⟩ := h
  cases rx
  obtain ⟨u, rfl, ru⟩ := rv.one
  obtain ⟨z, its, n, r, hl, e⟩ := I.lstM hH
  refine call_meets F.slot_list_append ⟨_, e, rfl⟩ F.entry_list_append (F.args_list_append_2 _ _) (PySem.list_append l its.toArray n u (by rw [List.size_toArray]; omega)) ⟨e, ?_⟩
  refine ⟨.non, _, I.lset (its' := its ++ [u]) hH e (by simp) (r.append (.cons ru .nil)) ?_, rfl, q⟩
  rw [List.length_append, List.length_singleton]
  omega

def rExtend : V → List V → Hp → VK → Prop := fun x vs H Q => ∃ l b xs zs, x = .ref l ∧ vs = [.ref b] ∧ H l = some (.lst xs) ∧ H b = some (.lst zs) ∧ xs.length + zs.length ≤ sizeLine ∧ Q .non (upd H l (.lst (xs ++ zs)))
theorem mt_extend : MtM X "list.extend" rExtend := by
  intro pins s σ H x vs v us Q I rx rv h
  obtain ⟨l, b, xs, zs, rfl, rfl, hH, hB, hz, q⟩ := h
  cases rx
  obtain ⟨u, rfl, ru⟩ := rv.one
  cases ru
  obtain ⟨z, its, n, r, hl, e⟩ := I.lstM hH
  obtain ⟨z2, its2, n2, r2, hl2, e2⟩ := I.lstM hB
  have hsz : its.toArray.size + its2.toArray.size ≤ sizeLine := by rw [List.size_toArray, List.size_toArray]; omega
  have hlong : ¬ (!its.toArray.isEmpty && Builtin.List.listTooLong (its.toArray.size + its2.toArray.size)) = true := by
    rw [notLongL hsz, Bool.and_false]
    exact Bool.false_ne_true
  refine call_meets F.slot_list_extend ⟨_, e, rfl⟩ F.entry_list_extend (F.args_list_extend_2 _ _)
    (AutoSeq1.list_extend_list_list_0 l its.toArray n b its2.toArray n2 hlong (by rw [List.size_toArray]; omega) (by omega)) ⟨e, e2, ?_⟩
  refine ⟨.non, _, I.lset (its' := its ++ its2) hH e (by simp) (r.append r2) ?_, rfl, q⟩
  rw [List.length_append]
  omega





/-! ### list + list, list += list, list * int -/
def rCat : R2 := fun x y H Q => ∃ l b xs zs, x = .ref l ∧ y = .ref b ∧ H l = some (.lst xs) ∧ H b = some (.lst zs) ∧ xs.length + zs.length ≤ sizeLine ∧ ∀ p, H p = none → Q (.ref p) (upd H p (.lst (xs ++ zs)))
theorem op_cat : OpR X (binaryOp .Add) rCat := by
  intro pins s σ H x y v u Q I rx ry h
  obtain ⟨l, b, xs, zs, rfl, rfl, hH, hB, hz, q⟩ := h
  cases rx
  cases ry
  obtain ⟨z, its, n, r, hl, e⟩ := I.lstM hH
  obtain ⟨z2, its2, n2, r2, hl2, e2⟩ := I.lstM hB
  refine PySem.P.add_list e e2 ?_ (by rw [List.size_toArray, List.size_toArray]; omega)
  have ea : its.toArray ++ its2.toArray = (its ++ its2).toArray := by simp
  rw [ea]
  exact ⟨.ref _, _, I.lnew (t' := s.toks) (r.append r2) (by rw [List.length_append]; omega), rfl, q _ I.fresh⟩

/-! ### del xs[i] -/
end

/-! ### xs[a:b] = ys -/
section
variable {prog : Program} {w : World} {A : Around} {E : Value → Shared → Prop} {s : Shared}
end

section
variable {X : Cx}
end
end L2

namespace Att
open PySem PySem.W PySem.Calls PyProof.Rows

/-! ### the script -/
theorem ints_of_wellAll {P : Params} {h : Heap} : ∀ (ns : List Int) (vs : List Value), WellAll P h vs (ns.map WData.int) → IntsAre vs ns := by
  intro ns
  induction ns with
  | nil =>
    intro vs w
    rw [List.map_nil] at w
    cases w
    exact .nil
  | cons n ns ih =>
    intro vs w
    rw [List.map_cons] at w
    cases w with
    | cons a b =>
      cases a
      exact .cons _ _ (ih _ b)

theorem script_of {l : OpenLaw} {n : Nat} (hn : l.most = some n) {P : Params} {h : Heap} {args : List WData} {vals : List Value}
    (hpre : l.row.toRowW.claim.pre args = true) (hwl : WellAll P h vals args) :
    ∃ a vs ns, vals = [Value.ref a] ∧ args = [WData.list (ns.map WData.int)] ∧ h.get? a = some { cls := .type "list", data := .seq vs.toArray } ∧ IntsAre vs ns ∧ ns.length ≤ n := by
  have hsh : WShape.hasAll [] args [.list .int] = true := (pre_splitW hpre).1
  have hc : l.pre.holds [] { args := args } = true := (pre_splitW hpre).2
  obtain ⟨d, r, rfl, h1, h2⟩ := hasAllW_cons hsh
  obtain rfl := hasAllW_nil h2
  obtain ⟨xs, rfl, h3⟩ := hasW_list h1
  obtain ⟨ns, rfl⟩ := items_int h3
  have hlen : ns.length ≤ n := by
    unfold OpenLaw.pre at hc
    have h4 : (WTm.not (.lt (.lit (.int (n : Int))) (.len (.arg 0)))).holds [] { args := [.list (ns.map .int)] } = true := by
      have h4 := (holds_andW hc).1
      rw [hn] at h4
      exact h4
    have h5 := condW_of h4 (w_not (w_lt w_lit (w_len_list (w_arg rfl))))
    rw [List.length_map] at h5
    refine Nat.le_of_not_lt fun q => ?_
    have q' : (n : Int) < ((ns.length : Nat) : Int) := by omega
    first
      | (rw [decide_eq_true q'] at h5; exact absurd h5 (by decide))
      | (simp at h5; omega)
  cases hwl with
  | cons w1 w2 =>
    cases w2
    cases w1 with
    | list ho hall => exact ⟨_, _, ns, rfl, rfl, ho, ints_of_wellAll ns _ hall, hlen⟩

theorem post_true (l : OpenLaw) (args : List WData) : l.row.toRowW.claim.post args (.bool true) args = true :=
  postW_of (r := l.row.toRowW) (X := (true == true))
    (show WShape.has [] (.bool true) .bool = true by first | rfl | decide | simp [WShape.has, WShape.arms, WShape.armsAll])
    (show (WTm.eq .res (.lit (.bool true))).value [] { args := args, res := some (.bool true), after := args } = some (.bool (true == true)) from w_eq_bool (w_res rfl) w_lit) rfl

/-! ### the attachment: holds_open's last premise (the goal 'hc' behind k_head) from a wpAny of the law's body -/

/-- the same from a codeAny of the CALL (for a layer whose function contracts speak of calls) -/
theorem attach_call {l : OpenLaw} {n : Nat} {q : Program} {loose : List Str} {XP : (Str → Option Value) → Heap → Prop} {YP : World → Heap → Prop} {d : DefRec}
    (hn : l.most = some n) (hdf : d.params.defaults = [])
    (call : ∀ (w : World) (s₀ s₁ : Shared) (mg mb : Str → Option Value) (fa : Addr) (o : Obj) (pm cd doc : Value) (a : Addr) (vs : List Value) (ns : List Int),
      Ground q loose [] XP w s₀ mg mb s₁.heap → YP w s₁.heap →
      s₁.heap.get? fa = some o → o.data = .func (docDef d.name d.params d.body d.scope pm cd doc) → s₁.heap.CodeRec cd d.name → mg d.name = some (.ref fa) →
      s₁.heap.get? a = some { cls := .type "list", data := .seq vs.toArray } → IntsAre vs ns → ns.length ≤ n → s₁.gens = #[] →
      codeAny (model l.prog w) callerA (.call (.ref fa) ⟨[.ref a], []⟩) (fun r s' => r = .ok (.ret (.bool true)) ∧ OldK s₁.heap s'.heap ∧ s'.os = s₁.os ∧ AllBare s'.gens) s₁) :
    WalkO q loose XP YP l.row.toRowW d [] (fun f vs => PySem.call f vs) := by
  intro w s₀ s₁ mg mb G Y fa o pm cd doc dV kV ho hd hcd hD hmg hg args vals as hpre hlay hrd hwl hlo
  obtain rfl : dV = .none := Dflts.none hD hdf
  obtain rfl : kV = .none := Dflts.noKw hD
  obtain ⟨a, vs, ns, rfl, rfl, hobj, hints, hlen⟩ := script_of hn hpre hwl
  refine enter_call (codeAny_mono (call w s₀ s₁ mg mb fa o pm cd doc a vs ns G Y ho (fd_plain hd) hcd hmg hobj hints hlen hg) fun r s' hq => ?_)
  obtain ⟨rfl, h2, h3, h4⟩ := hq
  exact ⟨.inl ⟨.bool true, .bool true, [], rfl, fun _ => rfl, .bool true, post_true l _, fun _ => ⟨List.Pairwise.nil, fun _ hm => (nomatch hm)⟩⟩, h2, h3, h4⟩


/-! ### rules over ANY heap (no ledger) from facts about the written part K: the library's own take a ledger (News) for what they write -/
section
variable {prog : Program} {w : World} {A : Around} {E : Value → Shared → Prop} {s : Shared} {K : Frag}





/-! the whole heap as the ledger: makes every rule that writes through a ledger a rule over any heap -/
def ledger (h : Heap) (L d : Addr) : List (Addr × Obj) := (List.range h.objs.size).filterMap fun a => if a = L ∨ a = d then none else (h.get? a).map fun o => (a, o)

end
end Att

namespace L2
open PySem PySem.Spec PyProof.Rows

theorem vals_ints : ∀ {vs : List Value} {ns : List Int}, IntsAre vs ns → Vals (ns.map V.int) vs
  | _, _, .nil => .nil
  | _, _, .cons n t h => .cons ⟨t, rfl⟩ (vals_ints h)

/-- nothing is tracked but the script, known to the object (or it is an object of the module) -/
def Only (H : Hp) : Prop := ∀ b, H b = none ∨ ∃ o xs, H b = some (.frz o (.lst xs))

/-- THE HEAD: the law's promise, at the heap behind the top. F, the promise of the law's def, may use that base is part of the heap (so K.In base, base.Ns mainGlobals mg stand in Mod) -/
theorem law_call {P : Program} {w : World} {K : PySem.W.Frag} {mg mb : Str → Option Value} {CX : CXT} {k : Nat} {fa a : Addr} {fd : FuncData} {x : Str} {sp : Sp} {s₁ : Shared} {vs : List Value} {ns : List Int}
    (KX : K.In s₁.heap) (hns : s₁.heap.Ns mainGlobals mg) (hb : s₁.heap.Ns builtinsNs mb) (hbb : ∀ x : Str, x ≠ "__name__" → mb x = bootBuiltins x) (hlim : s₁.heap.NoLimit) (hg : s₁.gens = #[])
    (ha : s₁.heap.get? a = some { cls := .type "list", data := .seq vs.toArray }) (hi : IntsAre vs ns) (hl : ns.length ≤ sizeLine) (hr : Room k callerA)
    (F : ∀ base : Heap, K.In base → base.Ns mainGlobals mg → FnOk P w K mg base CX k fa fd [x] sp) (hbind : ∀ (s : Shared) (u : Value), BindsTo s fd ⟨[u], []⟩ [(x, u)])
    (hsp : ∀ H : Hp, Only H → SqL K H a (ns.map V.int) → sp [.ref a] H (fun v _ => v = .bl true) fun _ _ _ => False)
    (hCX : ∀ H e s', CX [] H s₁ (fun _ _ _ => False) e s' → False) :
    codeAny (model P w) callerA (.call (.ref fa) ⟨[.ref a], []⟩) (fun r s' => r = .ok (.ret (.bool true)) ∧ OldK s₁.heap s'.heap ∧ s'.os = s₁.os ∧ AllBare s'.gens) s₁ := by
  have rv := vals_ints hi
  have lenV := hi.length
  -- from an abstract heap in which nothing but the script may be tracked
  have core : ∀ H : Hp, Only H → SqL K H a (ns.map V.int) → HOk P w H s₁.heap → (∀ b, H b ≠ none → b = a) → (H a ≠ none → K.lookup a = none) →
      codeAny (model P w) callerA (.call (.ref fa) ⟨[.ref a], []⟩) (fun r s' => r = .ok (.ret (.bool true)) ∧ OldK s₁.heap s'.heap ∧ s'.os = s₁.os ∧ AllBare s'.gens) s₁ := by
    intro H hO hS hok hA hK
    have base_of : ∀ {b : Addr} {o : Obj}, s₁.heap.get? b = some o → H b = none → (hidT s₁.heap H).get? b = some o := fun e n => hidT_get e n
    have noA : ∀ {b : Addr} {o : Obj} {es : Array DictEntry} {ep : Nat}, s₁.heap.get? b = some o → o.data = .dict es ep → H b = none := fun {b o es ep} e d => by
      cases q : H b with
      | none => rfl
      | some u =>
        have e' : b = a := hA b (by rw [q]; simp)
        subst e'
        rw [ha] at e; cases e
        have d' : Data.seq vs.toArray _ = Data.dict es ep := d
        cases d'
    have nsK : ∀ {b : Addr} {m : Str → Option Value}, s₁.heap.Ns b m → (hidT s₁.heap H).Ns b m := fun {b m} ⟨o, es, ep, e, d, r⟩ => ⟨o, es, ep, base_of e (noA e d), d, r⟩
    have hKb : K.In (hidT s₁.heap H) := fun b o e => base_of (KX b o e) (by
      cases q : H b with
      | none => rfl
      | some u =>
        have e' : b = a := hA b (by rw [q]; simp)
        subst e'
        rw [hK (by rw [q]; simp)] at e; cases e)
    have hM : Mod K mg (hidT s₁.heap H) := ⟨hKb, nsK hns, ⟨mb, nsK hb, hbb⟩, let ⟨mc, h1, h2⟩ := hlim; ⟨mc, nsK h1, h2⟩⟩
    have e0 : Env0 P w K mg (hidT s₁.heap H) callerA [] s₁ H := ⟨rfl, hM, fun b o e => of_hidT e, Nat.le_of_eq (hidT_size _ _), trivial, fun b hb => absurd (show b ∈ ([] : List Addr) from hb) (by simp), hok, .of_eq hg⟩
    refine codeAny_mono ((F _ hKb (nsK hns)).run callerA [] s₁ H ⟨[.ref a], []⟩ [.ref a] [.ref a] _ _ hr e0 (hbind s₁ (.ref a)) (.cons rfl .nil) (hsp H hO hS)) fun r s' h => ?_
    cases r with
    | error e => exact (hCX H e s' h).elim
    | ok fl =>
      cases fl with
      | next => exact False.elim h
      | brk => exact False.elim h
      | cont => exact False.elim h
      | ret u =>
        obtain ⟨v, H', os, bare, un, hok', r', q⟩ := h
        have q' : v = .bl true := q
        subst q'
        obtain rfl : u = Value.bool true := r'
        refine ⟨rfl, OldK.of_keep fun b o e => ?_, os, bare⟩
        cases q : H b with
        | none => exact un.keep b o e q (by intro z; exact absurd (show b ∈ ([] : List Addr) from z) (by simp)) (by simp)
        | some u =>
          rcases hO b with z | ⟨ob, xs, z⟩
          · rw [q] at z; cases z
          · have z2 := un.frzs b ob _ z
            obtain ⟨e1, _⟩ := hok b _ z
            obtain ⟨e2, _⟩ := hok' b _ z2
            rw [e] at e1; cases e1
            exact e2
  cases hk : K.lookup a with
  | some o =>
    -- the script is one of the module's own objects
    have e := KX a o hk
    rw [ha] at e
    cases e
    refine core (fun _ => none) (fun _ => .inl rfl) (.inr ⟨_, vs.toArray, _, hk, rfl, rfl, rfl, by rw [List.size_toArray, lenV]; exact hl, by simpa using rv⟩) (fun b u z => by have z' : (none : Option HO) = some u := z; cases z') (fun b z => absurd rfl z) fun z => absurd rfl z
  | none =>
    refine core (fun b => if b = a then some (.frz { cls := .type "list", data := .seq vs.toArray } (.lst (ns.map V.int))) else none) (fun b => ?_) (.inl (.inr ⟨{ cls := .type "list", data := .seq vs.toArray }, if_pos rfl⟩)) (fun b u z => ?_) (fun b z => ?_) fun _ => hk
    · by_cases hb : b = a
      · exact .inr ⟨_, _, if_pos hb⟩
      · exact .inl (if_neg hb)
    · by_cases hb : b = a
      · have z' := (if_pos hb).symm.trans z
        cases z'
        subst hb
        exact ⟨ha, by rw [List.length_map]; exact hl, vs, _, rv, ha⟩
      · have z' := (if_neg hb).symm.trans z
        cases z'
    · by_cases hb : b = a
      · exact hb
      · exact absurd (if_neg hb) z
end L2

namespace L2
open PySem PySem.Spec PyProof.Rows


/-- the goal that k_head leaves (case hc), from the law's promise. F gives the function object fd (K's own) once, then the promise over every base -/
theorem walk_of {l : PySem.W.OpenLaw} {n k : Nat} {q : Program} {loose : List Str} {XP : (Str → Option Value) → Heap → Prop} {YP : World → Heap → Prop} {d : DefRec} {K : Params → PySem.W.Frag} {CX : World → CXT} {sp : World → Sp} {x : Str}
    (hn : l.most = some n) (hn2 : n ≤ sizeLine) (hdf : d.params.defaults = []) (hr : Room k callerA)
    (hY : ∀ (w : World) (h : Heap), YP w h → (K w.params).In h)
    (F : ∀ (w : World) (mg : Str → Option Value) (fa : Addr) (h : Heap), (K w.params).In h → h.Ns mainGlobals mg → mg d.name = some (.ref fa) →
      ∃ fd : FuncData, (∀ (s : Shared) (u : Value), BindsTo s fd ⟨[u], []⟩ [(x, u)]) ∧
        ∀ base : Heap, (K w.params).In base → base.Ns mainGlobals mg → FnOk l.prog w (K w.params) mg base (CX w) k fa fd [x] (sp w))
    (hsp : ∀ (w : World) (H : Hp) (a : Addr) (ns : List Int), ns.length ≤ n → Only H → SqL (K w.params) H a (ns.map V.int) → sp w [.ref a] H (fun v _ => v = .bl true) fun _ _ _ => False)
    (hCX : ∀ (w : World) (H : Hp) (s : Shared) (e : Value) (s' : Shared), CX w [] H s (fun _ _ _ => False) e s' → False) :
    PySem.W.WalkO q loose XP YP l.row.toRowW d [] (fun f vs => PySem.call f vs) := by
  refine Att.attach_call hn hdf fun w s₀ s₁ mg mb fa o pm cd doc a vs ns G Y ho hd hcd hmg hobj hints hlen hg => ?_
  have KX := hY w _ Y
  obtain ⟨fd, hb, hF⟩ := F w mg fa _ KX G.T.g hmg
  exact law_call KX G.T.g G.T.b G.T.builtins G.T.nolimit hg hobj hints (Nat.le_trans hlen hn2) hr hF hb (fun H hO hS => hsp w H a ns hlen hO hS) fun H e s' => hCX w H s₁ e s'
end L2



/-! SHORT WORDS over the layer: a def of the text, its body, what a loop and a test want. -/
namespace L2
open PySem PySem.Spec PyProof.Rows

/-! ### the text by places -/
/-- the j-th statement of a class's body -/
def inClass (s : Stmt) (j : Nat) : Stmt := match s with
  | .ClassDef _ _ _ body _ _ _ _ _ _ _ => body.getD j (.Pass ⟨0, 0, 0, 0⟩)
  | _ => .Pass ⟨0, 0, 0, 0⟩
def defArgs (s : Stmt) : Arguments := match s with
  | .FunctionDef _ a _ _ _ _ _ _ _ _ => a
  | _ => { posonlyargs := [], args := [], vararg := none, kwonlyargs := [], kw_defaults := [], kwarg := none, defaults := [] }
def defBody (s : Stmt) : List Stmt := match s with
  | .FunctionDef _ _ b _ _ _ _ _ _ _ => b
  | _ => []
def defScope (s : Stmt) : Scope := match s with
  | .FunctionDef _ _ _ _ _ _ sc _ _ _ => sc
  | _ => { kind := .function, names := [], isGenerator := false, isCoroutine := false }

/-! ### no exception leaves a def -/
abbrev CX0 : CXT := fun _ _ _ _ _ _ => False
abbrev E0 : XK := fun _ _ _ => False
theorem pass0 {X : Cx} : Passes CX0 X E0 := fun _ _ _ _ _ _ _ h => h.elim

/-! ### a def (or method) of the text as it stands behind the top -/
structure Fun (K : PySem.W.Frag) (x qual : Str) (st : Stmt) (f : Addr) (fd : FuncData) : Prop where
  ex : ∃ (oc : Value) (od : Option Addr) (kV doc pm : Value) (an : Option Addr) (cdv ct : Value) (osl : Array (Option Value)),
    fd = PySem.W.fnOf x qual (defArgs st) (defBody st) (defScope st) .none kV doc pm an cdv ct ∧ K.lookup f = some ⟨oc, od, .func fd, osl⟩ ∧ PySem.W.codeIn K cdv qual = true
  kp : PySem.W.keepIn K (.ref f) = true
section
variable {P : Program} {w : World} {K : PySem.W.Frag} {mg : Str → Option Value} {base : Heap}
/-- THE RULE for a def: its body as a term of rules, and the reading of that term -/
theorem Fun.ok {x qual : Str} {st : Stmt} {f : Addr} {fd : FuncData} {N ps : List Str} {k : Nat} {sp : Sp} (F : Fun K x qual st f fd) (S : FnScope N ps (defScope st)) (len : ∀ vs H Q E, sp vs H Q E → vs.length = ps.length)
    (hbody : ∀ (cdv : Value) (A : Around) (outer : List Env) (s : Shared) (H : Hp) (vs : List V) (Q : VK) (E : XK), Room k (A.deeper (envOfC qual (defScope st) s.heap.objs.size f cdv)) → sp vs H Q E →
      ∃ t, PSs (cxOf CX0 P w K mg base N qual (defScope st) f cdv A outer s H E).nox (defBody st) t ∧ t { nx := fun _ H' => Q .non H', rt := Q } (start N vs) H) : FnOk P w K mg base CX0 (k + 1) f fd ps sp := by
  obtain ⟨oc, od, kV, doc, pm, an, cdv, ct, osl, rfl, lk, hcd⟩ := F.ex
  refine fn_of lk hcd S len fun A outer s H vs Q E hr hsp => ?_
  obtain ⟨t, h, q⟩ := hbody cdv A outer s H vs Q E hr hsp
  exact ⟨t, h.nox, q⟩
/-- how its arguments bind (no defaults): h is «fun _ _ _ _ _ _ us hl => match us, hl with | [_, _], _ => rfl», one _ a parameter -/
theorem Fun.binds {x qual : Str} {st : Stmt} {f : Addr} {fd : FuncData} {ps : List Str} (F : Fun K x qual st f fd)
    (h : ∀ (kV doc pm : Value) (an : Option Addr) (cdv ct : Value) (us : List Value), us.length = ps.length → bindArgs (PySem.W.fnOf x qual (defArgs st) (defBody st) (defScope st) .none kV doc pm an cdv ct) ⟨us, []⟩ = pure (ps.zip us)) : Binds K fd ps [] := by
  obtain ⟨oc, od, kV, doc, pm, an, cdv, ct, osl, rfl, lk, hcd⟩ := F.ex
  exact .all (h kV doc pm an cdv ct)
theorem fun_mk {x qual : Str} {st : Stmt} {f : Addr} {oc : Value} {od an : Option Addr} {osl : Array (Option Value)} {kV doc pm cdv ct : Value} (l : K.lookup f = some ⟨oc, od, .func (PySem.W.fnOf x qual (defArgs st) (defBody st) (defScope st) .none kV doc pm an cdv ct), osl⟩)
    (c : PySem.W.codeIn K cdv qual = true) (k : PySem.W.keepIn K (.ref f) = true) : Fun K x qual st f (PySem.W.fnOf x qual (defArgs st) (defBody st) (defScope st) .none kV doc pm an cdv ct) := ⟨⟨oc, od, kV, doc, pm, an, cdv, ct, osl, rfl, l, c⟩, k⟩
end
theorem hu_of {A : Around} {k : Nat} (hr : Room k A) : A.units + 1 < cLine := Nat.lt_of_le_of_lt (Nat.add_le_add_left (by decide : 1 ≤ 64) _) hr.units

/-! ### expressions in short: the name that stands in the i-th slot -/
section
variable {X : Cx}
theorem pv (i : Nat) {x : Str} {pos : Pos} (hN : X.N[i]? = some x := by rfl) (hv : Vis X.env.scope x := by first | exact Or.inl rfl | exact Or.inr (Or.inl rfl) | exact Or.inr (Or.inr rfl)) (hd : (x == ("__debug__" : Str)) = false := by decide)
    (hcd : (x == ("__classdict__" : Str)) = false := by decide) : PE X (.Name x pos) (tVar i) := pe_var hN hv hd hcd
end

/-! ### tests -/
theorem iteF {A B : Prop} (h : B) : if false = true then A else B := by
  rw [if_neg Bool.false_ne_true]
  exact h
theorem iteT {A B : Prop} (h : A) : if true = true then A else B := by
  rw [if_pos rfl]
  exact h
theorem ite2 {c A B : Prop} [Decidable c] (h1 : c → A) (h2 : ¬ c → B) : if c then A else B := by
  by_cases h : c
  · rw [if_pos h]
    exact h1 h
  · rw [if_neg h]
    exact h2 h

/-! ### heaps -/
/-- all that was tracked is as it was -/
def Same (H H' : Hp) : Prop := ∀ b o, H b = some o → H' b = some o
theorem Same.refl (H : Hp) : Same H H := fun _ _ h => h
theorem Same.trans {H H1 H2 : Hp} (a : Same H H1) (b : Same H1 H2) : Same H H2 := fun c o h => b c o (a c o h)
theorem Same.free {H H' : Hp} (e : Same H H') {l : Addr} (h : H' l = Option.none) : H l = Option.none := by
  cases q : H l with
  | none => rfl
  | some o =>
    rw [e l o q] at h
    cases h
theorem Same.seq {K : PySem.W.Frag} {H H' : Hp} {a : Addr} {xs : List V} (e : Same H H') (h : SqL K H a xs) : SqL K H' a xs := by
  rcases h with (h | ⟨o, h⟩) | h
  · exact .inl (.inl (e _ _ h))
  · exact .inl (.inr ⟨o, e _ _ h⟩)
  · exact .inr h

end L2

set_option Elab.async false
set_option linter.all false
set_option maxRecDepth 100000
set_option maxHeartbeats 4000000
/-! A list comprehension of one clause over the hand layer: own work. -/
namespace L2
open PySem PySem.Spec PyProof.Rows

section
variable {prog : Program} {w : World} {A : Around} {R : Result → Shared → Prop} {s : Shared}
/-- the loop of a comprehension, its owned tuple let go, no exception within -/
theorem compLoop_own {elt target iter : Expr} {ifs : List Expr} {scope : Scope} {pos : Pos} {it acc : Value} {env : Env} (I : Nat → Shared → Prop)
    (turn : ∀ n s, I n s → wpAny (model prog w) A (pyNext it) (fun r s₁ => match r with
      | none => R (.ok .next) s₁
      | some v => wpAny (model prog w) A (letOwnedTupleGo target it v) (fun _ s₁' => wpAny (model prog w) A (assign target env v) (fun _ s₂ =>
          wpAny (model prog w) A (forIn ifs true fun c r => if r = true then do let ok ← isTrue c env (eval c env); pure (ForInStep.yield ok) else pure (ForInStep.yield r)) (fun ok s₃ =>
            if ok = true then wpAny (model prog w) A (eval elt env) (fun x s₄ =>
              wpAny (model prog w) A (call (.builtin "list.append") [acc, x]) (fun _ s₅ => ∃ m, m < n ∧ I m s₅) (fun _ _ => False) s₄) (fun _ _ => False) s₃
            else ∃ m, m < n ∧ I m s₃) (fun _ _ => False) s₂) (fun _ _ => False) s₁') (fun _ _ => False) s₁) (fun _ _ => False) s)
    (n : Nat) (h : I n s) : codeAny (model prog w) A (.compLoop (.ListComp elt [⟨target, iter, ifs, 0⟩] scope pos) 0 it acc env) R s := by
  refine codeAny_loop rfl I (fun n s hI => ?_) n h
  show wpAny _ A ((compTurn (.ListComp elt [⟨target, iter, ifs, 0⟩] scope pos) 0 it acc env).onRaise (fun x => do noteFrame x env; theTreesLotGoes x)) _ _ s
  refine wpAny_noted ?_
  rw [compTurn_list]
  refine wpAny_bind (wpAny_standAt (wpAny_bind (wpAny_mono (turn n s hI) (fun r s₁ h₁ => ?_) fun _ _ h' => h'.elim)))
  cases r with
  | none => exact wpAny_pure h₁
  | some v =>
    refine wpAny_bind (wpAny_mono h₁ (fun _ s₁' h₁' => wpAny_bind (wpAny_mono h₁' (fun _ s₂ h₂ => wpAny_bind (wpAny_mono h₂ (fun ok s₃ h₃ => ?_) fun _ _ h' => h'.elim)) fun _ _ h' => h'.elim)) fun _ _ h' => h'.elim)
    cases ok with
    | false => exact wpAny_pure ⟨rfl, h₃⟩
    | true =>
      exact wpAny_bind (wpAny_bind (wpAny_mono h₃ (fun x s₄ h₄ => wpAny_bind (wpAny_mono h₄ (fun _ s₅ h₅ => wpAny_pure (wpAny_pure ⟨rfl, h₅⟩)) fun _ _ h' => h'.elim)) fun _ _ h' => h'.elim))
end

/-- the cells that a comprehension's block takes from around it -/
theorem closure_of {scope : Scope} {env : Env} (h : ∀ y ∈ scope.names, y.2 = .free → ∃ c, env.cells.lookup y.1 = some c) :
    ∃ cl, closureFor scope env = pure cl ∧ (∀ x c, cl.lookup x = some c → env.cells.lookup x = some c) ∧ (∀ x, (x, NameKind.free) ∈ scope.names → ∃ c, cl.lookup x = some c) := by
  have key : ∀ (l : List (Str × NameKind)) (cs : List (Str × Addr)), (∀ y ∈ l, y.2 = .free → ∃ c, env.cells.lookup y.1 = some c) → (∀ x c, cs.lookup x = some c → env.cells.lookup x = some c) →
      ∃ cl, (forIn l cs (fun (p : Str × NameKind) (r : List (Str × Addr)) => (do
          if p.2 == NameKind.free then do
            let a ← cellOf env p.1
            pure (ForInStep.yield ((p.1, a) :: r))
          else pure (ForInStep.yield r) : Sem (ForInStep (List (Str × Addr)))))) = pure cl ∧ (∀ x c, cl.lookup x = some c → env.cells.lookup x = some c) ∧ (∀ x, ((x, NameKind.free) ∈ l ∨ ∃ c, cs.lookup x = some c) → ∃ c, cl.lookup x = some c) := by
    intro l
    induction l with
    | nil => intro cs _ hc; exact ⟨cs, rfl, hc, fun x hx => hx.elim (fun z => by cases z) id⟩
    | cons p r ih =>
      intro cs hl hc
      obtain ⟨n, k⟩ := p
      by_cases hk : k = .free
      · subst hk
        obtain ⟨c, e⟩ := hl (n, .free) List.mem_cons_self rfl
        obtain ⟨cl, e1, e2, e3⟩ := ih ((n, c) :: cs) (fun y hy => hl y (List.mem_cons_of_mem _ hy)) (fun x c' q => by
          rw [List.lookup_cons] at q
          by_cases hx : x == n
          · rw [hx] at q; cases q; rw [eq_of_beq hx]; exact e
          · have hx' : (x == n) = false := by simpa using hx
            rw [hx'] at q; exact hc x c' q)
        refine ⟨cl, ?_, e2, fun x hx => e3 x ?_⟩
        · rw [List.forIn_cons]
          have : (cellOf env n) = pure c := by unfold cellOf; rw [e]
          simp only [beq_self_eq_true, if_true, this, pure_bind]
          exact e1
        · rcases hx with hx | ⟨c', hx⟩
          · rcases List.mem_cons.mp hx with z | z
            · cases z; exact .inr ⟨c, by simp⟩
            · exact .inl z
          · by_cases q : x == n
            · exact .inr ⟨c, by rw [List.lookup_cons, q]⟩
            · have q' : (x == n) = false := by simpa using q
              exact .inr ⟨c', by rw [List.lookup_cons, q']; exact hx⟩
      · obtain ⟨cl, e1, e2, e3⟩ := ih cs (fun y hy => hl y (List.mem_cons_of_mem _ hy)) hc
        refine ⟨cl, ?_, e2, fun x hx => e3 x ?_⟩
        · rw [List.forIn_cons]
          have hb : (k == NameKind.free) = false := by simpa using hk
          simp only [hb, Bool.false_eq_true, if_false, pure_bind]
          exact e1
        · rcases hx with hx | hx
          · rcases List.mem_cons.mp hx with z | z
            · cases z; exact absurd rfl hk
            · exact .inl z
          · exact .inr hx
  obtain ⟨cl, e1, e2, e3⟩ := key scope.names [] h (fun x c q => by cases q)
  refine ⟨cl, ?_, e2, fun x hx => e3 x (.inl hx)⟩
  unfold closureFor
  have e1' := e1
  simp only [bind_pure] at e1' ⊢
  first
    | exact e1'
    | (rw [← e1']; rfl)
    | (show (forIn scope.names [] _ >>= fun r => pure r) = _; rw [bind_pure]; exact e1')
end L2

namespace L2
open PySem PySem.Spec PyProof.Rows

/-- what a comprehension's scope must be, over the def's own scope (outer), the def's names N; ks: which of N the block sees -/
structure LcS (outer names : List (Str × NameKind)) (N : List Str) (ks : List Bool) : Prop where
  fv : ∀ y ∈ names, y.2 = .free → outer.lookup y.1 = some .cell ∨ outer.lookup y.1 = some .free
  nocell : ∀ y ∈ names, y.2 ≠ .cell
  loc : ∀ y ∈ names, y.2 = .local → names.lookup y.1 = some .local
  free : ∀ y ∈ names, y.2 = .free → names.lookup y.1 = some .free
  vis : ∀ p ∈ N.zip ks, p.2 = true → names.lookup p.1 = some .free
  len : ks.length = N.length

/-- the values that the block sees -/
def mask (ks : List Bool) (σ : St) : St := List.zipWith (fun k v => if k then v else none) ks σ
theorem mask_get {ks : List Bool} {σ : St} {i : Nat} {v : V} (h : (mask ks σ)[i]? = some (some v)) : ks[i]? = some true ∧ σ[i]? = some (some v) := by
  unfold mask at h
  rw [List.getElem?_zipWith] at h
  cases e1 : ks[i]? with
  | none => rw [e1] at h; cases h
  | some k =>
    cases e2 : σ[i]? with
    | none => rw [e1, e2] at h; cases h
    | some u =>
      rw [e1, e2] at h
      cases k with
      | true => simp at h; subst h; exact ⟨rfl, rfl⟩
      | false => simp at h
theorem mask_len {ks : List Bool} {σ : St} (h : ks.length = σ.length) : (mask ks σ).length = σ.length := by
  unfold mask; rw [List.length_zipWith, h, Nat.min_self]

/-- the block's context -/
def cxLC (X : Cx) (scope : Scope) (cl : List (Str × Addr)) (ext : List Str) (C : Addr) (fp : List Addr) (s₀ : Shared) (H₀ : Hp) : Cx :=
  { X with N := X.N ++ ext, env := compEnvC scope cl C X.env, s₀ := s₀, H₀ := H₀, outer := X.stack, ex := fp, fn := fun _ => false, pn := [], xe := fun _ _ => False }

theorem relabel_kind {env : Env} : ∀ {names : List (Str × NameKind)} {x : Str} {k' : NameKind},
    (names.map fun (n, k) => if (k == NameKind.free && env.scope.kind == .function && env.kindOf n == some .cell) then (n, NameKind.cell) else (n, k)).lookup x = some k' →
    names.lookup x = some k' ∨ (k' = .cell ∧ names.lookup x = some .free)
  | [], _, _, h => by simp at h
  | (n, k) :: r, x, k', h => by
    have h : List.lookup x ((if (k == NameKind.free && env.scope.kind == .function && env.kindOf n == some .cell) = true then (n, NameKind.cell) else (n, k)) :: (r.map fun (n, k) => if (k == NameKind.free && env.scope.kind == .function && env.kindOf n == some .cell) then (n, NameKind.cell) else (n, k))) = some k' := h
    cases hx : x == n with
    | true =>
      by_cases hc : (k == NameKind.free && env.scope.kind == .function && env.kindOf n == some .cell) = true
      · rw [if_pos hc] at h
        simp only [List.lookup_cons, hx] at h
        cases h
        simp only [Bool.and_eq_true, beq_iff_eq] at hc
        exact .inr ⟨rfl, by simp only [List.lookup_cons, hx]; rw [hc.1.1]⟩
      · rw [if_neg hc] at h
        simp only [List.lookup_cons, hx] at h
        cases h
        exact .inl (by simp only [List.lookup_cons, hx])
    | false =>
      have h' : (r.map fun (n, k) => if (k == NameKind.free && env.scope.kind == .function && env.kindOf n == some .cell) then (n, NameKind.cell) else (n, k)).lookup x = some k' := by
        split at h <;> simpa only [List.lookup_cons, hx] using h
      simp only [List.lookup_cons, hx]
      exact relabel_kind h'
theorem relabel_free {env : Env} : ∀ {names : List (Str × NameKind)} {x : Str}, names.lookup x = some .free →
    (names.map fun (n, k) => if (k == NameKind.free && env.scope.kind == .function && env.kindOf n == some .cell) then (n, NameKind.cell) else (n, k)).lookup x = some .cell ∨
    (names.map fun (n, k) => if (k == NameKind.free && env.scope.kind == .function && env.kindOf n == some .cell) then (n, NameKind.cell) else (n, k)).lookup x = some .free
  | [], _, h => by simp at h
  | (n, k) :: r, x, h => by
    show List.lookup x ((if (k == NameKind.free && env.scope.kind == .function && env.kindOf n == some .cell) = true then (n, NameKind.cell) else (n, k)) :: _) = _ ∨ List.lookup x ((if (k == NameKind.free && env.scope.kind == .function && env.kindOf n == some .cell) = true then (n, NameKind.cell) else (n, k)) :: _) = _
    cases hx : x == n with
    | true =>
      simp only [List.lookup_cons, hx] at h
      cases h
      split
      · exact .inl (by simp only [List.lookup_cons, hx])
      · exact .inr (by simp only [List.lookup_cons, hx])
    | false =>
      simp only [List.lookup_cons, hx] at h
      have ih := @relabel_free env r x h
      split <;> simp only [List.lookup_cons, hx] <;> exact ih

/-- the block's entry -/
theorem inv_lc {X : Cx} {pins : List (Addr × Obj)} {σ : St} {H : Hp} {s : Shared} {scope : Scope} {cl : List (Str × Addr)} {ks : List Bool} {ext : List Str} {fp : List Addr} {C : Addr} {h1 : Heap} {tk : Nat}
    (I : Inv X pins σ H s) (S : LcS X.env.scope.names scope.names X.N ks) (hkind : scope.kind = .function) (c1 : ∀ x c, cl.lookup x = some c → X.env.cells.lookup x = some c) (c2 : ∀ x, (x, NameKind.free) ∈ scope.names → ∃ c, cl.lookup x = some c)
    (hfp : ∀ b ∈ fp, FpOk X pins H b) (hlt : ∀ b ∈ fp, b < s.heap.objs.size) (hC : C = s.heap.objs.size) (hn : h1.Ns C (fun _ => none)) (hk : ∀ b o, s.heap.get? b = some o → h1.get? b = some o) :
    Inv (cxLC X scope cl ext C fp s H) [] (mask ks σ ++ List.replicate ext.length none) H { s with heap := h1, toks := tk } := by
  have hlen : ks.length = σ.length := by rw [S.len, I.len]
  refine ⟨⟨I.ok.mod, hkind, I.ok.glob, I.ok.blt, Nat.le_of_eq hC.symm, fun x y c e1 e2 => I.ok.inj x y c (c1 x c e1) (c1 y c e2), fun x hx => ?_, (fun x c hf => by cases hf), I.ok.hd, I.ok.frames, .inl rfl, fun b hb => ⟨?_, fun x c e => (hfp b hb).2.2.2.2.1 x c (c1 x c e)⟩, I.bs, Nat.le_trans I.ok.bsz I.sz, fun b o e hb => ?_, fun b hb hz => ?_, I.stack, I.stkFree⟩,
    rfl, I.bare, Un.kept hk, ⟨_, hn, fun i x v e1 e2 e3 => ?_⟩, fun x c e => ?_, ?_, fun x c e => I.freeC x c (c1 x c e), fun p hp => absurd (show p ∈ ([] : List (Addr × Obj)) from hp) (by simp), I.hok.kept hk, ?_⟩
  · -- a cell for each cell or free name
    have hx' : (relabel scope X.env).names.lookup x = some .cell ∨ (relabel scope X.env).names.lookup x = some .free := hx
    have hfree : scope.names.lookup x = some .free := by
      rcases hx' with q | q
      · rcases relabel_kind q with z | ⟨_, z⟩
        · exact absurd rfl (S.nocell _ (PySem.mem_of_lookup z))
        · exact z
      · rcases relabel_kind q with z | ⟨z, _⟩
        · exact z
        · cases z
    exact c2 x (PySem.mem_of_lookup hfree)
  · intro z
    have h0 := hlt b hb
    have z' : b = C := z
    rw [z', hC] at h0
    exact Nat.lt_irrefl _ h0
  · obtain ⟨_, _, _, h4, _, _⟩ := hfp b hb
    rcases h4 with z | z
    · exact I.ok.noex b o e z
    · exact absurd (Heap.lt_size (I.ok.bs b o e).1) (Nat.not_lt.mpr z)
  · have hz' : b ∈ frs X.stack := hz
    rcases List.mem_cons.mp (I.stkSub b hz') with q | q
    · exact (hfp b hb).2.1 q
    · exact (hfp b hb).2.2.1 q
  · have hi : i < (mask ks σ).length := by
      by_cases hi : i < (mask ks σ).length
      · exact hi
      · rw [List.getElem?_append_right (by omega), List.getElem?_replicate] at e2
        split at e2 <;> cases e2
    rw [List.getElem?_append_left hi] at e2
    obtain ⟨k1, k2⟩ := mask_get e2
    have hiN : i < X.N.length := by rw [← I.len]; rw [mask_len hlen] at hi; exact hi
    have e1' : X.N[i]? = some x := by
      have : (X.N ++ ext)[i]? = some x := e1
      rwa [List.getElem?_append_left hiN] at this
    have hz : (x, true) ∈ X.N.zip ks := by
      rw [List.mem_iff_getElem?]
      exact ⟨i, by rw [List.getElem?_zip_eq_some]; exact ⟨e1', k1⟩⟩
    have hfree := S.vis (x, true) hz rfl
    have hvis : X.env.kindOf x = some .cell ∨ X.env.kindOf x = some .free := S.fv (x, .free) (PySem.mem_of_lookup hfree) rfl
    obtain ⟨m, hm, hl⟩ := I.loc
    obtain ⟨u, r, l⟩ := hl i x v e1' k2 (hvis.elim (fun z => .inr (.inl z)) fun z => .inr (.inr z))
    refine ⟨u, r, .inr ⟨relabel_free hfree, ?_⟩⟩
    rcases l with ⟨z, _⟩ | ⟨_, c, ec, hc⟩
    · rcases hvis with q | q <;> · rw [q] at z; cases z
    · obtain ⟨c', ec'⟩ := c2 x (PySem.mem_of_lookup hfree)
      have := c1 x c' ec'
      rw [ec] at this; cases this
      obtain ⟨o, ho, hd⟩ := hc
      exact ⟨c, ec', o, hk c o ho, hd⟩
  · obtain ⟨v, o, ho, hd⟩ := I.cell x c (c1 x c e)
    exact ⟨v, o, hk c o ho, hd⟩
  · show H C = none
    rw [hC]; exact I.hok.fresh (Nat.le_refl _)
  · rw [List.length_append, List.length_replicate, mask_len hlen, I.len]
    show _ = (X.N ++ ext).length
    rw [List.length_append]
end L2

namespace L2
open PySem PySem.Spec PyProof.Rows

/-- the tests of a clause -/
def PTs (X : Cx) (ifs : List Expr) (t : TT) : Prop :=
  ∀ (pins : List (Addr × Obj)) (s : Shared) (σ : St) (H : Hp) (Q : Bool → Hp → Prop), Inv X pins σ H s → t σ H Q →
    wpAny (model X.prog X.w) X.A (forIn ifs true fun c r => if r = true then do let ok ← isTrue c X.env (eval c X.env); pure (ForInStep.yield ok) else pure (ForInStep.yield r)) (TP X pins σ Q) X.xe s
def tYes : TT := fun _ H Q => Q true H
theorem pts_nil {X : Cx} : PTs X [] tYes := fun _ _ σ H Q I h => wpAny_tests_nil ⟨H, I, h⟩
theorem pts_one {X : Cx} {c : Expr} {t : TT} (h : PT X c t) : PTs X [c] t := fun pins s σ H Q I q => wpAny_tests_one (h pins s σ H Q I q)

/-- the turns, by a word W of turn, measure, what was gathered, values, heap -/
def lcTurn (J : It) (D : Addr) (g : TG) (tt : TT) (te : TE) (Q : Hp → Prop) (W : Nat → Nat → List V → St → Hp → Prop) : Prop :=
  ∀ i m ys σ H, W i m ys σ H → (J.stop i H ∧ Q H) ∨ (J.go i H ∧ ∀ x H', J.yld i H x H' → g x σ H' fun σ2 H2 => tt σ2 H2 fun b H3 =>
    if b = true then te σ2 H3 fun y H4 => H4 D = some (.lst ys) ∧ ys.length < sizeLine ∧ ∃ m', m' < m ∧ W (i + 1) m' (ys ++ [y]) σ2 (upd H4 D (.lst (ys ++ [y])))
    else ∃ m', m' < m ∧ W (i + 1) m' ys σ2 H3)
def tLC (ks : List Bool) (e : Nat) (wi : TI) (g : TG) (tt : TT) (te : TE) : TE := fun σ H Q => wi σ H fun J H1 => ∀ D, H1 D = none →
  ∃ W : Nat → Nat → List V → St → Hp → Prop, (∃ m, W 0 m [] (mask ks σ ++ List.replicate e none) (upd H1 D (.lst []))) ∧ lcTurn J D g tt te (fun H2 => Q (.ref D) H2) W

structure Blk (X : Cx) (scope : Scope) (ext : List Str) (tg : Expr) (ifs : List Expr) (elt : Expr) (g : TG) (tt : TT) (te : TE) : Prop where
  pg : ∀ cl C fp s₀ H₀, PG (cxLC X scope cl ext C fp s₀ H₀) tg g
  pt : ∀ cl C fp s₀ H₀, PTs (cxLC X scope cl ext C fp s₀ H₀) ifs tt
  pe : ∀ cl C fp s₀ H₀, PE (cxLC X scope cl ext C fp s₀ H₀) elt te

theorem lc_core {X : Cx} {elt tg iter : Expr} {ifs : List Expr} {scope : Scope} {pos : Pos} {ks : List Bool} {ext : List Str} {g : TG} {tt : TT} {te : TE} {pins : List (Addr × Obj)} {σ : St} {H2 : Hp} {s2 : Shared} {cl : List (Str × Addr)}
    {it : Addr} {fp : List Addr} {tn : Nat → Heap → Prop} {J : It} {RR : Value → Addr → Result → Shared → Prop} {QD : Addr → Hp → Prop} {E : Value → Shared → Prop}
    (S : LcS X.env.scope.names scope.names X.N ks) (hkind : scope.kind = .function) (hc : X.calm = true) (B : Blk X scope ext tg ifs elt g tt te)
    (c1 : ∀ x c, cl.lookup x = some c → X.env.cells.lookup x = some c) (c2 : ∀ x, (x, NameKind.free) ∈ scope.names → ∃ c, cl.lookup x = some c)
    (I2 : Inv X pins σ H2 s2) (T : Turn X.prog X.w X.K tg J fp it tn) (st2 : tn 0 s2.heap) (f2 : ∀ b ∈ fp, FpOk X pins H2 b)
    (hW : ∀ D, H2 D = none → ∃ W : Nat → Nat → List V → St → Hp → Prop, (∃ m, W 0 m [] (mask ks σ ++ List.replicate ext.length none) (upd H2 D (.lst []))) ∧ lcTurn J D g tt te (QD D) W)
    (hRR : ∀ D C s4 H' m, Inv X pins σ H' s4 → FpOk X pins H' C → s4.heap.Ns C m → QD D H' → RR (.ref D) C (.ok .next) s4) :
    wpAny (model X.prog X.w) X.A (newList []) (fun acc s₃ => wpAny (model X.prog X.w) X.A (newFunctionEnv scope X.env.globals cl [] X.env.qual none .none (some X.env)) (fun cenv s₄ =>
      codeAny (model X.prog X.w) X.A (.compStart (.ListComp elt [⟨tg, iter, ifs, 0⟩] scope pos) 0 (.ref it) acc { cenv with scope := relabel scope X.env }) (RR acc cenv.locals) s₄) E s₃) E s2 := by
  have hcell : ∀ y ∈ scope.names, y.2 ≠ .cell := S.nocell
  refine wpAny_newObj_type (wpAny_newFunctionEnv hcell (by intro y hy; simp at hy) (fun h₁ hns₁ hsb₁ => ?_) hkind)
  dsimp only at hns₁ hsb₁ ⊢
  have fD : H2 s2.heap.objs.size = none := I2.hok.fresh (Nat.le_refl _)
  have I3 : Inv X pins σ (upd H2 s2.heap.objs.size (.lst [])) { s2 with heap := s2.heap.push { cls := .type "list", dict := none, data := .seq ([] : List Value).toArray } } :=
    I2.laid (t' := s2.toks) (fun b u e => Heap.get?_push_of_some _ e) (Nat.le_refl _) ⟨Nat.zero_le _, [], 0, .nil, Heap.get?_push_size _ rfl⟩
  obtain ⟨W, ⟨m0, w0⟩, turn⟩ := hW s2.heap.objs.size fD
  generalize hH3 : s2.heap.push { cls := .type "list", dict := none, data := .seq ([] : List Value).toArray } = h3 at hns₁ hsb₁ I3 ⊢
  have hsz : h3.objs.size = s2.heap.objs.size + 1 := by rw [← hH3, Heap.size_push]
  have hlt2 : ∀ b ∈ fp, b < s2.heap.objs.size := fun b hb => let ⟨o, e, _⟩ := T.obj 0 _ st2 b hb; Heap.lt_size e
  have hlt : ∀ b ∈ fp, b < h3.objs.size := fun b hb => Nat.lt_of_lt_of_eq (Nat.lt_succ_of_lt (hlt2 b hb)) hsz.symm
  have f3 : ∀ b ∈ fp, FpOk X pins (upd H2 s2.heap.objs.size (.lst [])) b := fun b hb => ⟨by rw [upd_ne (Nat.ne_of_lt (hlt2 b hb))]; exact (f2 b hb).1, (f2 b hb).2⟩
  have hk : ∀ b o, h3.get? b = some o → h₁.get? b = some o := fun b o e => hsb₁.extBut b o (Nat.ne_of_lt (Heap.lt_size e)) (Heap.get?_push_of_some _ e)
  have I4 : Inv (cxLC X scope cl ext h3.objs.size fp { s2 with heap := h3 } (upd H2 s2.heap.objs.size (.lst []))) [] (mask ks σ ++ List.replicate ext.length none) (upd H2 s2.heap.objs.size (.lst [])) { s2 with heap := h₁, toks := s2.toks + ([] : List (Str × Value)).length } :=
    inv_lc (C := h3.objs.size) I3 S hkind c1 c2 f3 hlt rfl (by simpa using hns₁) hk
  have st4 : tn 0 h₁ := T.keep _ _ _ st2 fun b hb o e => hk b o (by rw [← hH3]; exact Heap.get?_push_of_some _ e)
  have stat : ∀ {H' : Hp} {p' : List (Addr × Obj)}, p' = [] → (∀ b ∈ fp, H' b = none) → ∀ b ∈ fp, FpOk (cxLC X scope cl ext h3.objs.size fp { s2 with heap := h3 } (upd H2 s2.heap.objs.size (.lst []))) p' H' b := fun {H' p'} hp hn b hb => by
    subst hp
    exact ⟨hn b hb, (I4.ok.exf b hb).1, I4.ok.exfs b hb, .inl hb, fun x c e => (I4.ok.exf b hb).2 x c e, fun p hp => absurd (show p ∈ ([] : List (Addr × Obj)) from hp) (by simp)⟩
  have loop : ∀ s₃ : Shared, s₃ = { s2 with heap := h₁, toks := s2.toks + ([] : List (Str × Value)).length } →
      codeAny (model X.prog X.w) X.A (.compLoop (.ListComp elt [⟨tg, iter, ifs, 0⟩] scope pos) 0 (.ref it) (.ref s2.heap.objs.size) (compEnvC scope cl h3.objs.size X.env)) (RR (.ref s2.heap.objs.size) h3.objs.size) s₃ := by
    rintro s₃ rfl
    refine compLoop_own (fun n s' => ∃ i ys σ' H', Inv (cxLC X scope cl ext h3.objs.size fp { s2 with heap := h3 } (upd H2 s2.heap.objs.size (.lst []))) [] σ' H' s' ∧ tn i s'.heap ∧ (∀ b ∈ fp, H' b = none) ∧ W i n ys σ' H') ?_ m0
      ⟨0, [], _, _, I4, st4, fun b hb => (f3 b hb).1, w0⟩
    rintro n s' ⟨i, ys, σ', H', I', st', fr', w'⟩
    rcases turn i n ys σ' H' w' with ⟨stop, q⟩ | ⟨go, step⟩
    · refine thn (T.done (cxLC X scope cl ext h3.objs.size fp { s2 with heap := h3 } (upd H2 s2.heap.objs.size (.lst []))) rfl rfl rfl hc i [] s' σ' H' _ I' (stat rfl fr') st' stop) fun r s4 ⟨hr, J4⟩ => ?_
      subst hr
      show RR (.ref s2.heap.objs.size) h3.objs.size (.ok .next) s4
      obtain ⟨m, hn, _⟩ := J4.loc
      have fC : H' h3.objs.size = none := J4.free
      have IX : Inv X pins σ H' s4 := I3.call' (ch := fp) J4.os J4.base J4.hok J4.bare fun b hb => ⟨(f3 b hb).2.2.2.1, (f3 b hb).2.1, (f3 b hb).2.2.2.2.1, (f3 b hb).2.2.2.2.2⟩
      exact hRR _ _ s4 H' m IX (I3.fpOk (Nat.le_refl _) fC) hn q
    · refine thn (T.item (cxLC X scope cl ext h3.objs.size fp { s2 with heap := h3 } (upd H2 s2.heap.objs.size (.lst []))) rfl rfl rfl hc i [] s' σ' H' _ I' (stat rfl fr') st' go) fun r s4 ⟨u, hr, h4⟩ => ?_
      subst hr
      refine thn h4 fun _ s5 ⟨x, H5, I5, r5, y5, st5, fr5⟩ => ?_
      have I5' := I5.pinned (stat rfl fr5) (T.obj _ _ st5)
      refine thn (B.pg _ _ _ _ _ _ s5 σ' H5 x u _ I5' r5 (step x H5 y5)) fun _ s6 ⟨σ6, H6, I6, q6⟩ => ?_
      refine thn (B.pt _ _ _ _ _ _ s6 σ6 H6 _ I6 q6) fun ok s7 ⟨H7, I7, q7⟩ => ?_
      have again : ∀ {σ7 : St} {H8 : Hp} {s8 : Shared} {ys' : List V} {m' : Nat}, Inv (cxLC X scope cl ext h3.objs.size fp { s2 with heap := h3 } (upd H2 s2.heap.objs.size (.lst []))) ([] ++ pinsAt fp s5.heap) σ7 H8 s8 → m' < n → W (i + 1) m' ys' σ7 H8 →
          ∃ m, m < n ∧ ∃ i ys σ' H', Inv (cxLC X scope cl ext h3.objs.size fp { s2 with heap := h3 } (upd H2 s2.heap.objs.size (.lst []))) [] σ' H' s8 ∧ tn i s8.heap ∧ (∀ b ∈ fp, H' b = none) ∧ W i m ys σ' H' := fun {σ7 H8 s8 ys' m'} I8 hm w8 => by
        refine ⟨m', hm, i + 1, ys', σ7, H8, I8.unpinned, T.keep _ _ _ st5 fun b hb o e => (I8.pin (b, o) (List.mem_append_right _ (List.mem_append_right _ (mem_pinsAt hb e)))).1, fun b hb => ?_, w8⟩
        obtain ⟨o, e, d⟩ := T.obj _ _ st5 b hb
        exact (I8.pin (b, o) (List.mem_append_right _ (List.mem_append_right _ (mem_pinsAt hb e)))).2.1
      cases ok with
      | false =>
        obtain ⟨m', hm, w7⟩ := (show ∃ m', m' < n ∧ W (i + 1) m' ys σ6 H7 from q7)
        exact again I7 hm w7
      | true =>
        rw [if_pos rfl] at q7 ⊢
        refine thn (B.pe _ _ _ _ _ _ s7 σ6 H7 _ I7 q7) fun yv s8 ⟨y, H8, I8, r8, e8, z8, m', hm, w8⟩ => ?_
        refine thn (mt_append _ s8 σ6 H8 (.ref s2.heap.objs.size) [y] (.ref s2.heap.objs.size) [yv] (fun _ H9 => H9 = upd H8 s2.heap.objs.size (.lst (ys ++ [y]))) I8 rfl (.cons r8 .nil) ⟨_, ys, y, rfl, rfl, e8, z8, rfl⟩) fun _ s9 ⟨_, H9, I9, _, e9⟩ => ?_
        subst e9
        exact again I9 hm w8
  exact codeAny_compStart_list (loop _ rfl) (T.self _ 0 _ _ _ st4 (loop _ rfl))

section
variable {X : Cx} {elt tg iter : Expr} {ifs : List Expr} {scope : Scope} {pos : Pos} {ks : List Bool} {ext : List Str} {wi : TI} {g : TG} {tt : TT} {te : TE}

theorem lc_clos {pins : List (Addr × Obj)} {σ : St} {H : Hp} {s : Shared} (I : Inv X pins σ H s) (S : LcS X.env.scope.names scope.names X.N ks) :
    ∃ cl, closureFor scope X.env = pure cl ∧ (∀ x c, cl.lookup x = some c → X.env.cells.lookup x = some c) ∧ (∀ x, (x, NameKind.free) ∈ scope.names → ∃ c, cl.lookup x = some c) :=
  closure_of fun y hy hf => I.ok.has y.1 (S.fv y hy hf)

/-- [e for x in iter if ..] -/
theorem pe_lc (S : LcS X.env.scope.names scope.names X.N ks) (hc : X.calm = true) (hi : PI X tg iter wi) (B : Blk X scope ext tg ifs elt g tt te) (hkind : scope.kind = .function := by rfl)
    (hs : ∀ x, foldedSetIterable iter X.env x = pure x := by intro _; rfl) : PE X (.ListComp elt [⟨tg, iter, ifs, 0⟩] scope pos) (tLC ks ext.length wi g tt te) := by
  intro pins s σ H Q I h
  obtain ⟨cl, hcl, c1, c2⟩ := lc_clos I S
  rw [eval_ListComp]
  refine wpAny_comprehension_free (use := none) rfl hs hcl hkind S.loc (thn (hi pins s σ H _ I h) fun v s1 h1 => thn h1 fun itv s2 h2 => ?_)
  obtain ⟨it, fp, tn, J, H2, e, I2, T, st2, f2, hW⟩ := h2
  subst e
  refine lc_core (RR := fun acc C => compPost (model X.prog X.w) X.A X.xe none (EP X pins σ Q) acc C) (QD := fun D H' => Q (.ref D) H') S hkind hc B c1 c2 I2 T st2 f2 hW fun D C s4 H' m I4 fC hn q => ?_
  refine ⟨m, hn, fun h' sb => ⟨.ref D, H', ?_, rfl, q⟩⟩
  exact I4.turned (t' := s4.toks) (fun b o hb e => (sb.2 b hb).trans e) fC.1 fC.2.1 fC.2.2.2.1 fC.2.2.2.2.1 fC.2.2.2.2.2

/-- y = [e for x in iter if ..], y a plain local -/
theorem ps_lc {i : Nat} {y : Str} {py spos : Pos} (hN : X.N.Nodup) (hiN : X.N[i]? = some y) (hy : X.env.scope.names.lookup y = some .local) (S : LcS X.env.scope.names scope.names X.N ks) (hc : X.calm = true) (hi : PI X tg iter wi) (B : Blk X scope ext tg ifs elt g tt te) (hkind : scope.kind = .function := by rfl)
    (hsw : swapsWith (.ListComp elt [⟨tg, iter, ifs, 0⟩] scope pos) (some (.Name y py)) spos.line X.env = pure true := by rfl)
    (hs : ∀ x, foldedSetIterable iter X.env x = pure x := by intro _; rfl) : PS X (.Assign [.Name y py] (.ListComp elt [⟨tg, iter, ifs, 0⟩] scope pos) spos) (tAsg (tLC ks ext.length wi g tt te) (gName i)) := by
  intro pins s σ H D I h
  obtain ⟨cl, hcl, c1, c2⟩ := lc_clos I S
  rw [exec_Assign_Name_used _ _ _ _ hsw]
  refine wpAny_bind (wpAny_standAt (wpAny_bind ?_))
  show wpAny _ X.A (do let _ ← comprehension (.ListComp elt [⟨tg, iter, ifs, 0⟩] scope pos) scope X.env _ (newList []) false (eval iter X.env) (some (assign (.Name y py) X.env))) _ _ s
  refine wpAny_bind (wpAny_mono (wpAny_comprehension_free (use := some (assign (.Name y py) X.env)) (Q := fun _ s' => SP X pins D .next s') rfl hs hcl hkind S.loc
    (thn (hi pins s σ H _ I h) fun v s1 h1 => thn h1 fun itv s2 h2 => ?_)) (fun _ s' hq => wpAny_pure (wpAny_pure hq)) fun _ _ e => e)
  obtain ⟨it, fp, tn, J, H2, e, I2, T, st2, f2, hW⟩ := h2
  subst e
  refine lc_core (RR := fun acc C => compPost (model X.prog X.w) X.A X.xe (some (assign (.Name y py) X.env)) (fun _ s' => SP X pins D .next s') acc C) (QD := fun Dl H' => D.nx (σ.set i (some (.ref Dl))) H') S hkind hc B c1 c2 I2 T st2 f2 hW fun Dl C s4 H' m I4 fC hn q => ?_
  show wpAny _ X.A (assign (.Name y py) X.env (.ref Dl)) _ _ _
  refine wpAny_assign_Name (store_ok2 I4 hN hiN (.inl hy) (v := .ref Dl) rfl (fun s5 I5 ⟨a, sb, ha⟩ => ?_) (.inr hy))
  have hCa : C ≠ a := by
    rcases ha with rfl | ha
    · exact fC.2.1
    · exact fun z => fC.2.2.2.2.1 y a ha z.symm
  refine ⟨m, hn.sameBut sb hCa, fun h' sb' => ⟨_, H', ?_, q⟩⟩
  exact I5.turned (t' := s5.toks) (fun b o hb e => (sb'.2 b hb).trans e) fC.1 fC.2.1 fC.2.2.2.1 fC.2.2.2.2.1 fC.2.2.2.2.2
end

/-! ### forms -/
end L2

namespace L2
open PySem PySem.Spec PyProof.Rows
end L2

set_option linter.all false
/-! The table of a set of ints: its places rise, so a walk meets each member once. Own work. -/
namespace SetPure
open PySem











end SetPure

set_option linter.all false
set_option maxRecDepth 100000
set_option maxHeartbeats 4000000
/-! A set of ints that is filled: which members, and that its table is good. Own work. -/
namespace SI
open PySem SetPure




section
variable {prog : Program} {w : World} {A : Around} {E : Value → Shared → Prop} {s : Shared}



end
end SI

set_option linter.all false
set_option maxRecDepth 100000
set_option maxHeartbeats 4000000
namespace SI
open PySem SetPure
section
variable {prog : Program} {w : World} {A : Around} {E : Value → Shared → Prop} {s : Shared}

end
end SI

set_option linter.all false
set_option maxRecDepth 100000
set_option maxHeartbeats 4000000
namespace SI
open PySem SetPure
section
variable {prog : Program} {w : World} {A : Around} {E : Value → Shared → Prop} {s : Shared}



/-- the end of a walk: StopIteration is raised and caught -/
theorem stop_ {it : Addr} {h0 : Heap} {Q : Option Value → Shared → Prop} (hh : A.handled = none) (hQ : ∀ h', (∀ b o, b ≠ it → h0.get? b = some o → h'.get? b = some o) → Q none { s with heap := h' }) {h1 : Heap} (hk : ∀ b o, b ≠ it → h0.get? b = some o → h1.get? b = some o) :
    wpAny (model prog w) A.in1 (newExc (.type "StopIteration") [] >>= fun e => raiseNew e) (fun (_ : Fin) _ => False)
      (fun e s' => wpAny (model prog w) A (do if ← isInstance e (.type "StopIteration") then pure none else throw e) Q E s') { s with heap := h1 } := by
  refine wpAny_bind ?_
  simp only [newExc, newTuple]
  refine wpAny_bind (wpAny_newObj_type ?_ (by size_fits))
  refine wpAny_bind (m := firstArgMember _ _) (wpAny_of_eq (a := Value.none) (by first | rfl | (simp only [firstArgMember]; rfl)) ?_)
  refine wpAny_newObj_type ?_ (by size_fits)
  simp only [raiseNew]
  refine wpAny_bind (wpAny_handled ?_)
  rw [show A.in1.handled = none from hh]
  refine wpAny_bind (wpAny_pure (wpAny_throw ?_))
  refine wpAny_bind (wpAny_isInstance (T := "StopIteration") (b := true) ⟨_, Heap.get?_push_size _ rfl, rfl⟩ isSubtype_stop ?_)
  exact wpAny_pure (hQ _ fun b o hb e => Heap.get?_push_of_some _ (Heap.get?_push_of_some _ (hk b o hb e)))





end
end SI

set_option linter.all false
set_option maxRecDepth 100000
set_option maxHeartbeats 4000000
namespace SI
open PySem SetPure
section
variable {prog : Program} {w : World} {A : Around} {E : Value → Shared → Prop} {s : Shared}



end
end SI

set_option linter.all false
set_option maxRecDepth 100000
set_option maxHeartbeats 4000000
namespace SI
open PySem SetPure PyProof.Rows
section
variable {prog : Program} {w : World} {A : Around} {R : Result → Shared → Prop} {I : Addr} {fp wr : List Addr} {G : Array GenState → Array GenState → Prop} {n : Nat} {P : Nat → Value → Prop} {St : Nat → Shared → Prop}
end
section
variable {prog : Program} {w : World} {A : Around} {E : Value → Shared → Prop} {s : Shared}
end
end SI

set_option linter.all false
set_option maxRecDepth 100000
set_option maxHeartbeats 4000000
namespace SI
open PySem SetPure PyProof.Rows
section
variable {prog : Program} {w : World} {A : Around} {E : Value → Shared → Prop} {s : Shared}
end
end SI

set_option Elab.async false
set_option linter.all false
set_option maxRecDepth 100000
set_option maxHeartbeats 4000000
/-! Rules over the hand layer: sets of ints, all, isinstance, == of lists. Own work. -/
namespace L2
open PySem PySem.Spec PyProof.Rows SI

section
variable {X : Cx}




/-- all(a list of bools) -/
theorem call_allB (hc : X.calm = true) : CallR X (.builtin "all") (fun xs H Q => ∃ (p : Addr) (bs : List Bool), xs = [.ref p] ∧ SqL X.K H p (bs.map V.bl) ∧ Q (.bl (bs.all id)) H) := by
  intro pins s σ H xs us Q I r h
  obtain ⟨p, bs, rfl, hq, q⟩ := h
  obtain ⟨u, rfl, rx⟩ := vals1 r
  cases rx
  obtain ⟨its, rv, pl, hz⟩ := I.list hq
  have hlen : bs.length = its.length := by have := rv.length; rw [List.length_map] at this; exact this
  have hp : p < s.heap.objs.size := by obtain ⟨o, ho, _⟩ := pl.isList; exact Heap.lt_size ho
  refine call_all_walk (wpAny_pyIter_list pl.isList ?_)
  refine ⟨s.heap.objs.size, _, _, _, _, _, fun i => bs.getD i true, rfl, Walks.list (by simpa using I.ok.hd hc) s.heap.objs.size p (Nat.ne_of_lt hp) its.toArray, ⟨⟨_, Heap.get?_push_size _ rfl, rfl, rfl⟩, pl.isList.push _⟩, ?_, fun h' tk hk => ?_⟩
  · intro i v s' Q' E' hv hq'
    have hv' : its[i]? = some v := by simpa using hv
    have hb : bs[i]? = some (bs.getD i true) := by
      have hi : i < its.length := (List.getElem?_eq_some_iff.mp hv').1
      have hi' : i < bs.length := by omega
      simp [List.getD, hi']
    obtain ⟨u, hu, ru⟩ := rv.get (i := i) (x := .bl (bs.getD i true)) (by rw [List.getElem?_map, hb]; rfl)
    rw [hv'] at hu
    cases hu
    cases (show v = Value.bool (bs.getD i true) from ru)
    exact wpAny_truthy_bool hq'
  · have hf := I.fpOk (H' := H) (Nat.le_refl s.heap.objs.size) (I.hok.fresh (Nat.le_refl _))
    have I1 : Inv X pins σ H { s with heap := h', toks := tk } := I.turned (it := s.heap.objs.size) (fun b o hb e => hk b o (by simpa using hb) (Heap.get?_push_of_some _ e)) hf.1 hf.2.1 (.inr I.sz) hf.2.2.2.2.1 hf.2.2.2.2.2
    refine ⟨.bl (bs.all id), H, I1, ?_, q⟩
    show Value.bool _ = Value.bool _
    congr 1
    have e : (List.range its.toArray.size).map (fun i => bs.getD i true) = bs := by
      apply List.ext_getElem?
      intro i
      rw [List.getElem?_map, List.size_toArray]
      by_cases hi : i < bs.length
      · have hi2 : i < its.length := by omega
        simp [hi, hi2]
      · have hi2 : ¬ i < its.length := by omega
        simp [hi, hi2]
    conv => rhs; rw [← e]
    rw [List.all_map]
    rfl

/-- a class, as a value -/
def clsV : V → Option Value
  | .ty n => some (.type n)
  | .ref C => some (.ref C)
  | _ => none
theorem clsV_of {c : V} {cv u : Value} (h : clsV c = some cv) (r : RelV c u) : u = cv := by
  cases c with
  | ty n => cases h; exact r
  | ref C => cases h; exact r
  | _ => cases h
/-- isinstance(x, c) -/
theorem call_isI : CallR X (.builtin "isinstance") (fun xs H Q => ∃ (x c : V) (cv t : Value) (b : Bool), xs = [x, c] ∧ clsV c = some cv ∧ TyOf X.K H x t ∧ PySem.W.kitOne X.K t cv = some b ∧ Q (.bl b) H) := by
  intro pins s σ H xs us Q I r h
  obtain ⟨x, c, cv, t, b, rfl, hcv, ty, hk, q⟩ := h
  obtain ⟨u, w', rfl, r1, r2⟩ := vals2 r
  have e := clsV_of hcv r2
  subst e
  exact isinst_ok I r1 ty hk fun tk => ⟨.bl b, H, I.tok tk, rfl, q⟩

/-- == of two lists of flat things -/
def eqVs : List V → List V → Bool
  | [], [] => true
  | x :: xs, y :: ys => eqV x y && eqVs xs ys
  | _, _ => false
theorem eqVs_len : ∀ {xs ys : List V}, eqVs xs ys = true → xs.length = ys.length
  | [], [], _ => rfl
  | [], _ :: _, h => by cases h
  | _ :: _, [], h => by cases h
  | x :: xs, y :: ys, h => by
    unfold eqVs at h
    rw [Bool.and_eq_true] at h
    simp [eqVs_len h.2]
theorem eqVs_all : ∀ {xs ys : List V}, xs.length = ys.length → eqVs xs ys = (List.range xs.length).all fun i => eqV (xs.getD i .non) (ys.getD i .non)
  | [], [], _ => rfl
  | [], _ :: _, h => by cases h
  | _ :: _, [], h => by cases h
  | x :: xs, y :: ys, h => by
    have ih := eqVs_all (xs := xs) (ys := ys) (by simpa using h)
    unfold eqVs
    rw [ih, List.length_cons, List.range_succ_eq_map, List.all_cons, List.all_map]
    rfl
theorem eqVs_ne {xs ys : List V} (h : xs.length ≠ ys.length) : eqVs xs ys = false := by
  cases e : eqVs xs ys with
  | false => rfl
  | true => exact absurd (eqVs_len e) h
end

theorem bt_len : bootBuiltins "len" = some (.builtin "len") := by decide +kernel
theorem bt_list : bootBuiltins "list" = some (.type "list") := by decide +kernel
theorem bt_all : bootBuiltins "all" = some (.builtin "all") := by decide +kernel
theorem bt_isinstance : bootBuiltins "isinstance" = some (.builtin "isinstance") := by decide +kernel
theorem bt_bool : bootBuiltins "bool" = some (.type "bool") := by decide +kernel
theorem bt_int : bootBuiltins "int" = some (.type "int") := by decide +kernel
theorem bt_sum : bootBuiltins "sum" = some (.builtin "sum") := by decide +kernel
theorem same_upd {H : Hp} {l : Addr} {o : HO} (h : H l = none) : Same H (upd H l o) := fun b u e => by
  rw [upd_ne (ne_of_none e h)]; exact e
end L2

set_option Elab.async false
set_option linter.all false
set_option maxRecDepth 100000
set_option maxHeartbeats 4000000
/-! Rules over the hand layer: != of lists, sum, list(range(..)), bit_length. Own work. -/
namespace L2
open PySem PySem.Spec PyProof.Rows SI
section
variable {X : Cx}
theorem preSum_list : ∀ (ns : List Int) (n : Nat), n ≤ ns.length → preSum (fun i => ns.getD i 0) n = (ns.take n).sum
  | ns, 0, _ => by simp [preSum]
  | ns, n + 1, h => by
    have hn : n < ns.length := by omega
    have e : ns.take (n + 1) = ns.take n ++ [ns[n]] := by rw [List.take_succ, List.getElem?_eq_getElem hn]; rfl
    rw [preSum, preSum_list ns n (by omega), e, List.sum_append]
    simp [List.getD, List.getElem?_eq_getElem hn]
/-- sum(a list of ints) -/
theorem call_sumI (hc : X.calm = true) : CallR X (.builtin "sum") (fun xs H Q => ∃ (p : Addr) (ns : List Int), xs = [.ref p] ∧ SqL X.K H p (ns.map V.int) ∧ Q (.int ns.sum) H) := by
  intro pins s σ H xs us Q I r h
  obtain ⟨p, ns, rfl, hq, q⟩ := h
  obtain ⟨u, rfl, rx⟩ := vals1 r
  cases rx
  obtain ⟨its, rv, pl, hz⟩ := I.list hq
  have hI := intsAre_of rv
  have hlen : ns.length = its.length := by have := rv.length; rw [List.length_map] at this; exact this
  have hp : p < s.heap.objs.size := by obtain ⟨o, ho, _⟩ := pl.isList; exact Heap.lt_size ho
  refine call_sum_walkAnyS (wpAny_pyIter_list pl.isList ?_)
  refine ⟨s.heap.objs.size, _, _, _, _, _, _, fun i => ns.getD i 0, rfl, (Walks.list (by simpa using I.ok.hd hc) s.heap.objs.size p (Nat.ne_of_lt hp) its.toArray).toS, ⟨⟨_, Heap.get?_push_size _ rfl, rfl, rfl⟩, pl.isList.push _⟩, fun b hb => ?_, fun i v hv => ?_, fun s' t' hm => ?_⟩
  · simp only [List.mem_cons, List.not_mem_nil, or_false] at hb
    show b < (s.heap.push _).objs.size
    rw [Heap.size_push]
    rcases hb with rfl | rfl
    · exact Nat.lt_succ_self _
    · exact Nat.lt_succ_of_lt hp
  · exact IntsAre.int_at hI i v (by simpa using hv)
  · have hf := I.fpOk (H' := H) (Nat.le_refl s.heap.objs.size) (I.hok.fresh (Nat.le_refl _))
    have I1 : Inv X pins σ H { s with heap := s'.heap, toks := s'.toks } := I.turned (t' := s'.toks) (it := s.heap.objs.size) (fun b o hb e => hm.heap b o (by simpa using hb) (Heap.get?_push_of_some _ e)) hf.1 hf.2.1 (.inr I.sz) hf.2.2.2.2.1 hf.2.2.2.2.2
    have es0 := Moved.eq_with hm
    have es : s' = { s with heap := s'.heap, toks := s'.toks } := es0
    rw [es]
    refine ⟨.int ns.sum, H, I1, ⟨t', ?_⟩, q⟩
    rw [List.size_toArray, ← hlen, preSum_list ns ns.length (Nat.le_refl _), List.take_length]
end
end L2

set_option Elab.async false
set_option linter.all false
set_option maxRecDepth 100000
set_option maxHeartbeats 4000000
/-! Rules over the hand layer: classes' functions, methods by class, pairs walked (enumerate, zip), tuples compared, is. Own work. -/
namespace L2
open PySem PySem.Spec PyProof.Rows SI
/-! ### records of an iterator that is more than one object -/
section
variable {X : Cx} {pins : List (Addr × Obj)} {σ : St} {H : Hp} {s : Shared} {h' : Heap}
theorem Inv.turnedL {ch : List Addr} {t' : Nat} (I : Inv X pins σ H s) (hch : ∀ b ∈ ch, FpOk X pins H b) (k : ∀ b u, b ∉ ch → s.heap.get? b = some u → h'.get? b = some u) : Inv X pins σ H { s with heap := h', toks := t' } := by
  have nit : ∀ b u, H b = some u → b ∉ ch := fun b u e z => by rw [(hch b z).1] at e; cases e
  refine I.step (g' := s.gens) (d' := s.drawn) (ch := ch) (fun b hb => ?_) (fun b o _ _ hc e _ => k b o hc e) (fun b o _ _ hc e _ => ⟨o.slots, k b o hc e⟩) (fun _ _ _ _ n => n)
    (fun b o hc e => ⟨o, k b o hc e⟩) (fun _ _ e => e) (fun _ _ _ e => e) (fun b ps e => ⟨#[], by rw [e]; simp⟩) (fun m hm => ?_) (fun b u e => ?_) I.bare
  · obtain ⟨f0, f1, f2, f3, f4, f5⟩ := hch b hb
    exact ⟨f3, f1, f4, f5⟩
  · obtain ⟨o, es, ep, ho, r⟩ := hm
    exact ⟨o, es, ep, k _ o (fun z => (hch _ z).2.1 rfl) ho, r⟩
  · refine (I.hok b u e).stay (fun c v hc q => k c v ?_ q) (fun _ q => q) fun _ _ q => q
    rcases hc with z | z
    · rw [z]; exact nit b u e
    · exact nit c _ z
theorem Inv.turnedLaid {ch : List Addr} {t' : Nat} {n : Addr} {ob : HO} (I : Inv X pins σ H s) (hch : ∀ b ∈ ch, FpOk X pins H b) (k : ∀ b u, b ∉ ch → s.heap.get? b = some u → h'.get? b = some u)
    (hn : s.heap.objs.size ≤ n) (new : ObjOk X.prog X.w (upd H n ob) h' n ob) : Inv X pins σ (upd H n ob) { s with heap := h', toks := t' } := by
  have hno := I.hok.fresh hn
  have nit : ∀ b u, H b = some u → b ∉ ch := fun b u e z => by rw [(hch b z).1] at e; cases e
  refine I.step (g' := s.gens) (d' := s.drawn) (ch := ch) (fun b hb => ?_) (fun b o _ _ hc e _ => k b o hc e) (fun b o _ _ hc e _ => ⟨o.slots, k b o hc e⟩)
    (fun b o _ e q => by rw [upd_ne (Nat.ne_of_lt (Nat.lt_of_lt_of_le (Heap.lt_size e) hn))]; exact q)
    (fun b o hc e => ⟨o, k b o hc e⟩) (fun b xs e => by rw [upd_ne (ne_of_none e hno)]; exact e) (fun b o u e => by rw [upd_ne (ne_of_none e hno)]; exact e)
    (fun b ps e => ⟨#[], by rw [upd_ne (ne_of_none e hno), e]; simp⟩) (fun m hm => ?_) (fun b u e => ?_) I.bare
  · obtain ⟨f0, f1, f2, f3, f4, f5⟩ := hch b hb
    exact ⟨f3, f1, f4, f5⟩
  · obtain ⟨o, es, ep, ho, r⟩ := hm
    exact ⟨o, es, ep, k _ o (fun z => (hch _ z).2.1 rfl) ho, r⟩
  · by_cases hb : b = n
    · subst hb; rw [upd_same] at e; cases e; exact new
    · rw [upd_ne hb] at e
      refine (I.hok b u e).stay (fun c v hc q => k c v ?_ q) (fun c q => by rw [upd_ne (ne_of_none q hno)]; exact q) fun c xs q => by rw [upd_ne (ne_of_none q hno)]; exact q
      rcases hc with z | z
      · rw [z]; exact nit b u e
      · exact nit c _ z
end

/-! ### enumerate(a list), walked by a target of two -/
def Ite (K : PySem.W.Frag) (a : Addr) : It :=
  ⟨fun i H => ∃ xs x, SqL K H a xs ∧ xs[i]? = some x, fun i H x H' => ∃ p y, x = .ref p ∧ H p = none ∧ H' = upd H p (.tup [.int (i : Nat), y]) ∧ ∀ xs, SqL K H a xs → xs[i]? = some y, fun i H => ∃ xs, SqL K H a xs ∧ xs.length ≤ i⟩
theorem turn_enum {P : Program} {w : World} {K : PySem.W.Frag} {elts : List Expr} {x1 : Nat} {pos : Pos} (a e it : Addr) (hne : e ≠ it) :
    Turn P w K (.Tuple elts x1 pos) (Ite K a) [e, it] e (fun i h => (∃ old, IsEnum h e it ((i : Nat) : Int) old) ∧ h.IsListIter it a i) where
  mem := by simp
  obj := fun i h st b hb => by
    obtain ⟨⟨old, he⟩, o, ho, c, d⟩ := st
    rcases List.mem_cons.mp hb with rfl | hb
    · exact ⟨_, he, fun v z => by cases z⟩
    · rw [List.mem_singleton.mp hb]
      exact ⟨o, ho, fun v z => by rw [d] at z; cases z⟩
  keep := fun i h h' st k => ⟨let ⟨old, he⟩ := st.1; ⟨old, k e (by simp) _ he⟩, st.2.at fun o ho => k it (by simp) o ho⟩
  item := by
    intro X hP hw hK hc i pins s σ H E I hf st hg
    subst hP hw hK
    obtain ⟨xs, x, hq, hx⟩ := hg
    obtain ⟨its, rv, p, hz⟩ := I.list hq
    obtain ⟨u, hu, ru⟩ := rv.get hx
    obtain ⟨⟨old, he⟩, hit⟩ := st
    refine wpAny_pyNext_enum_item he hit p.isList (x := u) (by simpa using hu) hne fun h1 heo hit1 ht1 hz1 hk1 => ?_
    refine ⟨_, rfl, wpAny_letOwnedTupleGo_enum heo fun h2 he2 hs2 => ?_⟩
    have hs2' : Heap.SameBut e h1 h2 := hs2
    have hE : e < s.heap.objs.size := Heap.lt_size he
    have ht2 : h2.get? s.heap.objs.size = some { cls := .type "tuple", data := .seq #[.int i s.toks, u] } := (hs2'.2 _ (Nat.ne_of_gt hE)).trans ht1
    refine ⟨.ref s.heap.objs.size, upd H s.heap.objs.size (.tup [.int (i : Nat), x]), ?_, rfl, ⟨_, x, rfl, I.hok.fresh (Nat.le_refl _), rfl, fun ys hy => by rw [I.list_inj hy hq]; exact hx⟩, ⟨⟨u, ?_⟩, ?_⟩, fun b hb => ?_⟩
    · refine I.turnedLaid (ch := [e, it]) (t' := s.toks + 1) hf (fun b o hb q => ?_) (Nat.le_refl _) ⟨by show 2 ≤ sizeLine; rw [sizeLine_eq]; decide, [.int (i : Nat) s.toks, u], .cons ⟨_, rfl⟩ (.cons ru .nil), ⟨_, ht2, rfl, ⟨_, rfl⟩, rfl⟩⟩
      have n1 : b ≠ e := fun z => hb (by simp [z])
      have n2 : b ≠ it := fun z => hb (by simp [z])
      exact (hs2'.2 b n1).trans (hk1 b o n1 n2 q)
    · have ee : (((i + 1 : Nat)) : Int) = (i : Int) + 1 := by omega
      rw [ee]; exact he2
    · obtain ⟨oi, hoi, ri⟩ := hit1
      exact ⟨oi, (hs2'.2 it (Ne.symm hne)).trans hoi, ri⟩
    · have hlt : b < s.heap.objs.size := by
        rcases List.mem_cons.mp hb with rfl | hb
        · exact hE
        · rw [List.mem_singleton.mp hb]; obtain ⟨oi, hoi, _⟩ := hit; exact Heap.lt_size hoi
      rw [upd_ne (Nat.ne_of_lt hlt)]
      exact (hf b hb).1
  done := by
    intro X hP hw hK hc i pins s σ H E I hf st hg
    subst hP hw hK
    obtain ⟨xs, hq, hx⟩ := hg
    obtain ⟨its, rv, p, hz⟩ := I.list hq
    obtain ⟨⟨old, he⟩, hit⟩ := st
    have hl := rv.length
    exact wpAny_pyNext_enum_end (I.ok.hd hc) he hit p.isList (by simp; omega) fun h' eb => ⟨rfl, I.turnedL (ch := [e, it]) (t' := s.toks) hf fun b o hb q => eb b o (fun z => hb (by simp [z])) q⟩
  self := fun _ _ _ _ _ st h => let ⟨_, he⟩ := st.1; wpAny_pyIter_enum he h
def iEnum (K : PySem.W.Frag) (ta : TA) : TI := fun σ H R => ta σ H fun vs H1 => ∃ a, vs = [.ref a] ∧ (∃ xs, SqL K H1 a xs) ∧ R (Ite K a) H1
theorem bt_enumerate : bootBuiltins "enumerate" = some (.type "enumerate") := by decide +kernel
theorem bt_zip : bootBuiltins "zip" = some (.type "zip") := by decide +kernel
theorem bt_max : bootBuiltins "max" = some (.builtin "max") := by decide +kernel
theorem bt_tuple : bootBuiltins "tuple" = some (.type "tuple") := by decide +kernel
section
variable {X : Cx}
theorem pi_enum {a : Expr} {ta : TA} {p pos pt : Pos} {elts : List Expr} {x1 : Nat} (hg : Gl X "enumerate") (hm : X.mg "enumerate" = none) (ha : PA X [a] ta) (hs : starEach [a] X.env = [(false, eval a X.env)] := by rfl) :
    PI X (.Tuple elts x1 pt) (.Call (.Name "enumerate" p) [a] [] pos) (iEnum X.K ta) := by
  intro pins s σ H R I h
  refine Call_ (ld_blt I hg hm bt_enumerate (PyProof.Rows.callWith_type1 (thn (ha pos pins s σ H _ I h) fun us s1 ⟨vs, H1, I1, r1, q1⟩ => ?_) hs rfl))
  obtain ⟨a, e, ⟨xs, hq⟩, q⟩ := q1
  subst e
  obtain ⟨u, rfl, rx⟩ := vals1 r1
  cases rx
  obtain ⟨its, rv, pl, hz⟩ := I1.list hq
  refine call_enumerate_list pl.isList fun h' hE hI hsz hk => ?_
  refine wpAny_pyIter_enum hE ?_
  have I2 : Inv X pins σ H1 { s1 with heap := h' } := I1.kept (t' := s1.toks) hk
  refine ⟨s1.heap.objs.size + 1, [s1.heap.objs.size + 1, s1.heap.objs.size], _, _, H1, rfl, I2, turn_enum a _ _ (Nat.succ_ne_self _), ⟨⟨_, hE⟩, hI⟩, fun b hb => ?_, q⟩
  have hb' : s1.heap.objs.size ≤ b := by
    rcases List.mem_cons.mp hb with rfl | hb
    · exact Nat.le_succ _
    · rw [List.mem_singleton.mp hb]; exact Nat.le_refl _
  exact I1.fpOk hb' (I1.hok.fresh hb')
end
theorem for_enum {K : PySem.W.Frag} {a : Addr} {xs : List V} {g : TG} {tb : TS} {D : Ends} {σ : St} {H : Hp} (Pv : Nat → St → Hp → Prop) (h0 : Pv 0 σ H) (hl : ∀ i σ H, i ≤ xs.length → Pv i σ H → SqL K H a xs)
    (hs : ∀ i x p σ H, xs[i]? = some x → Pv i σ H → H p = none → g (.ref p) σ (upd H p (.tup [.int (i : Nat), x])) fun σ2 H2 => tb { D with nx := Pv (i + 1), ct := Pv (i + 1), bk := D.nx } σ2 H2) (hd : ∀ σ H, Pv xs.length σ H → D.nx σ H) :
    ∃ W : Nat → Nat → St → Hp → Prop, (∃ m, W 0 m σ H) ∧ ∀ i m σ H, W i m σ H →
      ((Ite K a).stop i H ∧ D.nx σ H) ∨ ((Ite K a).go i H ∧ ∃ N : St → Hp → Prop, (∀ σ' H', N σ' H' → ∃ m', m' < m ∧ W (i + 1) m' σ' H') ∧ ∀ x H', (Ite K a).yld i H x H' → g x σ H' fun σ2 H2 => tb { D with nx := N, ct := N, bk := D.nx } σ2 H2) := by
  refine ⟨fun i m σ H => m = xs.length - i ∧ i ≤ xs.length ∧ Pv i σ H, ⟨xs.length, by simp, Nat.zero_le _, h0⟩, ?_⟩
  rintro i m σ H ⟨rfl, hi, p⟩
  have q := hl i σ H hi p
  by_cases hlt : i < xs.length
  · refine .inr ⟨⟨xs, xs[i], q, by simp [hlt]⟩, Pv (i + 1), fun σ' H' p' => ⟨xs.length - (i + 1), by omega, rfl, hlt, p'⟩, fun x H' y => ?_⟩
    obtain ⟨pp, z, rfl, hn, rfl, y⟩ := y
    exact hs i z pp σ _ (y xs q) p hn
  · have e : i = xs.length := by omega
    subst e
    exact .inl ⟨⟨xs, q, Nat.le_refl _⟩, hd σ H p⟩

/-! ### zip(a list, a list), walked by a target of two -/
def Itz (K : PySem.W.Frag) (a b : Addr) : It :=
  ⟨fun i H => ∃ xs ys x y, SqL K H a xs ∧ SqL K H b ys ∧ xs[i]? = some x ∧ ys[i]? = some y,
   fun i H x H' => ∃ p y z, x = .ref p ∧ H p = none ∧ H' = upd H p (.tup [y, z]) ∧ (∀ xs, SqL K H a xs → xs[i]? = some y) ∧ ∀ ys, SqL K H b ys → ys[i]? = some z,
   fun i H => ∃ xs ys, SqL K H a xs ∧ SqL K H b ys ∧ (xs.length ≤ i ∨ ys.length ≤ i)⟩
structure ZipA (z TI TO i1 i2 : Addr) : Prop where
  TIz : TI ≠ z
  TOz : TO ≠ z
  i1z : i1 ≠ z
  i2z : i2 ≠ z
  TITO : TI ≠ TO
  TIi1 : TI ≠ i1
  TIi2 : TI ≠ i2
  TOi1 : TO ≠ i1
  TOi2 : TO ≠ i2
  i12 : i1 ≠ i2
theorem zip_apart {h : Heap} {z TI TO i1 i2 l1 l2 : Addr} {f0 a b : Value} {k1 k2 : Nat} {m1 m2 : Addr} {xs ys : Array Value} (Z : ZipA z TI TO i1 i2) (hz : IsZip h z TI TO f0) (hTO : IsPair h TO a b) (h1 : h.IsListIter i1 m1 k1) (h2 : h.IsListIter i2 m2 k2)
    (hl1 : h.IsList l1 xs) (hl2 : h.IsList l2 ys) : ZipApart z TI TO i1 i2 l1 l2 := by
  obtain ⟨o1, e1, c1, _⟩ := h1
  obtain ⟨o2, e2, c2, _⟩ := h2
  obtain ⟨p1, f1, d1, _⟩ := hl1
  obtain ⟨p2, f2, d2, _⟩ := hl2
  have key : ∀ {l q : Addr} {o o' : Obj}, h.get? l = some o → o.cls = .type "list" → h.get? q = some o' → o'.cls ≠ .type "list" → l ≠ q := fun {l q o o'} e c e' c' z => by
    subst z; rw [e] at e'; cases e'; exact c' c
  refine ⟨Z.TIz, Z.TOz, Z.i1z, Z.i2z, Z.TITO, Z.TIi1, Z.TIi2, Z.TOi1, Z.TOi2, Z.i12, ?_, ?_, ?_, ?_, ?_, ?_, ?_, ?_⟩
  · exact key f1 d1 hz (by simp)
  · exact key f1 d1 hTO (by simp)
  · exact key f1 d1 e1 (by rw [c1]; simp)
  · exact key f1 d1 e2 (by rw [c2]; simp)
  · exact key f2 d2 hz (by simp)
  · exact key f2 d2 hTO (by simp)
  · exact key f2 d2 e1 (by rw [c1]; simp)
  · exact key f2 d2 e2 (by rw [c2]; simp)
theorem turn_zip {P : Program} {w : World} {K : PySem.W.Frag} {elts : List Expr} {x1 : Nat} {pos : Pos} (a b z TI TO i1 i2 : Addr) (Z : ZipA z TI TO i1 i2) :
    Turn P w K (.Tuple elts x1 pos) (Itz K a b) [z, TI, TO, i1, i2] z (fun i h => IsZip h z TI TO .none ∧ IsPair h TI (.ref i1) (.ref i2) ∧ (∃ u v, IsPair h TO u v) ∧ h.IsListIter i1 a i ∧ h.IsListIter i2 b i) where
  mem := by simp
  obj := fun i h st c hc => by
    obtain ⟨hz, hTI, ⟨u, v, hTO⟩, ⟨o1, e1, _, d1⟩, o2, e2, _, d2⟩ := st
    simp only [List.mem_cons, List.not_mem_nil, or_false] at hc
    rcases hc with rfl | rfl | rfl | rfl | rfl
    · exact ⟨_, hz, fun v z => by cases z⟩
    · exact ⟨_, hTI, fun v z => by cases z⟩
    · exact ⟨_, hTO, fun v z => by cases z⟩
    · exact ⟨o1, e1, fun v z => by rw [d1] at z; cases z⟩
    · exact ⟨o2, e2, fun v z => by rw [d2] at z; cases z⟩
  keep := fun i h h' st k => ⟨k z (by simp) _ st.1, k TI (by simp) _ st.2.1, let ⟨u, v, e⟩ := st.2.2.1; ⟨u, v, k TO (by simp) _ e⟩, st.2.2.2.1.at fun o e => k i1 (by simp) o e, st.2.2.2.2.at fun o e => k i2 (by simp) o e⟩
  item := by
    intro X hP hw hK hc i pins s σ H E I hf st hg
    subst hP hw hK
    obtain ⟨xs, ys, x, y, hq1, hq2, hx, hy⟩ := hg
    obtain ⟨its1, rv1, p1, hz1⟩ := I.list hq1
    obtain ⟨its2, rv2, p2, hz2⟩ := I.list hq2
    obtain ⟨u1, hu1, ru1⟩ := rv1.get hx
    obtain ⟨u2, hu2, ru2⟩ := rv2.get hy
    obtain ⟨hz, hTI, ⟨a', b', hTO⟩, hi1, hi2⟩ := st
    refine wpAny_pyNext_zip_item (zip_apart Z hz hTO hi1 hi2 p1.isList p2.isList) hz hTI hTO hi1 hi2 p1.isList p2.isList (x := u1) (y := u2) (by simpa using hu1) (by simpa using hu2) fun h1 az aTO ai1 ai2 aT asz ak => ?_
    refine ⟨_, rfl, wpAny_letOwnedTupleGo_zip az fun h2 bz bs => ?_⟩
    have bs' : Heap.SameBut z h1 h2 := bs
    have hE : z < s.heap.objs.size := Heap.lt_size hz
    have up : ∀ c o, c ≠ z → h1.get? c = some o → h2.get? c = some o := fun c o hc e => (bs'.2 c hc).trans e
    have hT2 : h2.get? s.heap.objs.size = some { cls := .type "tuple", data := .seq #[u1, u2] } := up _ _ (Nat.ne_of_gt hE) aT
    refine ⟨.ref s.heap.objs.size, upd H s.heap.objs.size (.tup [x, y]), ?_, rfl, ⟨_, x, y, rfl, I.hok.fresh (Nat.le_refl _), rfl, fun zs hs => by rw [I.list_inj hs hq1]; exact hx, fun zs hs => by rw [I.list_inj hs hq2]; exact hy⟩, ⟨bz, ?_, ⟨u1, u2, up _ _ Z.TOz aTO⟩, ?_, ?_⟩, fun c hc => ?_⟩
    · refine I.turnedLaid (ch := [z, TI, TO, i1, i2]) (t' := s.toks) hf (fun c o hb q => ?_) (Nat.le_refl _) ⟨by show 2 ≤ sizeLine; rw [sizeLine_eq]; decide, [u1, u2], .cons ru1 (.cons ru2 .nil), ⟨_, hT2, rfl, ⟨_, rfl⟩, rfl⟩⟩
      have n1 : c ≠ z := fun z => hb (by simp [z])
      have n2 : c ≠ TO := fun z => hb (by simp [z])
      have n3 : c ≠ i1 := fun z => hb (by simp [z])
      have n4 : c ≠ i2 := fun z => hb (by simp [z])
      exact up c o n1 (ak c o n1 n2 n3 n4 q)
    · exact up _ _ Z.TIz (ak TI _ Z.TIz Z.TITO Z.TIi1 Z.TIi2 hTI)
    · obtain ⟨o, e, r⟩ := ai1
      exact ⟨o, up _ _ Z.i1z e, r⟩
    · obtain ⟨o, e, r⟩ := ai2
      exact ⟨o, up _ _ Z.i2z e, r⟩
    · obtain ⟨oc, ec, _⟩ : ∃ o, s.heap.get? c = some o ∧ ∀ v, o.data ≠ .cell v := by
        obtain ⟨o1, e1, _, d1⟩ := hi1
        obtain ⟨o2, e2, _, d2⟩ := hi2
        have hc' := hc
        simp only [List.mem_cons, List.not_mem_nil, or_false] at hc'
        rcases hc' with rfl | rfl | rfl | rfl | rfl
        · exact ⟨_, hz, fun v z => by cases z⟩
        · exact ⟨_, hTI, fun v z => by cases z⟩
        · exact ⟨_, hTO, fun v z => by cases z⟩
        · exact ⟨o1, e1, fun v z => by rw [d1] at z; cases z⟩
        · exact ⟨o2, e2, fun v z => by rw [d2] at z; cases z⟩
      rw [upd_ne (Nat.ne_of_lt (Heap.lt_size ec))]
      exact (hf c hc).1
  done := by
    intro X hP hw hK hc i pins s σ H E I hf st hg
    subst hP hw hK
    obtain ⟨xs, ys, hq1, hq2, hx⟩ := hg
    obtain ⟨its1, rv1, p1, hz1⟩ := I.list hq1
    obtain ⟨its2, rv2, p2, hz2⟩ := I.list hq2
    have l1 := rv1.length
    have l2 := rv2.length
    obtain ⟨hz, hTI, ⟨a', b', hTO⟩, hi1, hi2⟩ := st
    refine wpAny_pyNext_zip_end (I.ok.hd hc) (zip_apart Z hz hTO hi1 hi2 p1.isList p2.isList) hz hTI hTO hi1 hi2 p1.isList p2.isList (hx.imp (fun q => by simp; omega) fun q => by simp; omega) fun h' eb => ⟨rfl, I.turnedL (ch := [z, TI, TO, i1, i2]) (t' := s.toks) hf fun c o hb q => ?_⟩
    exact eb c o (fun z => hb (by simp [z])) (fun z => hb (by simp [z])) (fun z => hb (by simp [z])) (fun z => hb (by simp [z])) q
  self := fun _ _ _ _ _ st h => wpAny_pyIter_zip st.1 h
def iZip (K : PySem.W.Frag) (ta : TA) : TI := fun σ H R => ta σ H fun vs H1 => ∃ a b, vs = [.ref a, .ref b] ∧ (∃ xs, SqL K H1 a xs) ∧ (∃ ys, SqL K H1 b ys) ∧ R (Itz K a b) H1
section
variable {X : Cx}
theorem pi_zip {a b : Expr} {ta : TA} {p pos pt : Pos} {elts : List Expr} {x1 : Nat} (hg : Gl X "zip") (hm : X.mg "zip" = none) (ha : PA X [a, b] ta) (hs : starEach [a, b] X.env = [(false, eval a X.env), (false, eval b X.env)] := by rfl) (hs2 : starEach [b] X.env = [(false, eval b X.env)] := by rfl) :
    PI X (.Tuple elts x1 pt) (.Call (.Name "zip" p) [a, b] [] pos) (iZip X.K ta) := by
  intro pins s σ H R I h
  refine Call_ (ld_blt I hg hm bt_zip (PyProof.Rows.callWith_type1 (thn (ha pos pins s σ H _ I h) fun us s1 ⟨vs, H1, I1, r1, q1⟩ => ?_) (by rw [hs, hs2]) (by rw [hs2]; rfl)))
  obtain ⟨a, b, e, ⟨xs, hq1⟩, ⟨ys, hq2⟩, q⟩ := q1
  subst e
  obtain ⟨u, w', rfl, rx, ry⟩ := vals2 r1
  cases rx
  cases ry
  obtain ⟨its1, rv1, p1, hz1⟩ := I1.list hq1
  obtain ⟨its2, rv2, p2, hz2⟩ := I1.list hq2
  refine call_zip_2 p1.isList p2.isList fun h' hZ hTI hTO hi1 hi2 hsz hk => ?_
  refine wpAny_pyIter_zip hZ ?_
  have I2 : Inv X pins σ H1 { s1 with heap := h' } := I1.kept (t' := s1.toks) hk
  refine ⟨s1.heap.objs.size + 4, [s1.heap.objs.size + 4, s1.heap.objs.size + 2, s1.heap.objs.size + 3, s1.heap.objs.size, s1.heap.objs.size + 1], _, _, H1, rfl, I2,
    turn_zip a b _ _ _ _ _ ⟨?_, ?_, ?_, ?_, ?_, ?_, ?_, ?_, ?_, ?_⟩, ⟨hZ, hTI, ⟨_, _, hTO⟩, hi1, hi2⟩, fun c hc => ?_, q⟩
  all_goals first
    | (show (_ : Nat) ≠ _; omega)
    | skip
  have hb' : s1.heap.objs.size ≤ c := by
    simp only [List.mem_cons, List.not_mem_nil, or_false] at hc
    rcases hc with rfl | rfl | rfl | rfl | rfl
    all_goals (show (_ : Nat) ≤ _; omega)
  exact I1.fpOk hb' (I1.hok.fresh hb')
end
theorem for_zip {K : PySem.W.Frag} {a b : Addr} {xs ys : List V} {g : TG} {tb : TS} {D : Ends} {σ : St} {H : Hp} (hlen : xs.length = ys.length) (Pv : Nat → St → Hp → Prop) (h0 : Pv 0 σ H) (hl : ∀ i σ H, i ≤ xs.length → Pv i σ H → SqL K H a xs ∧ SqL K H b ys)
    (hs : ∀ i x y p σ H, xs[i]? = some x → ys[i]? = some y → Pv i σ H → H p = none → g (.ref p) σ (upd H p (.tup [x, y])) fun σ2 H2 => tb { D with nx := Pv (i + 1), ct := Pv (i + 1), bk := D.nx } σ2 H2) (hd : ∀ σ H, Pv xs.length σ H → D.nx σ H) :
    ∃ W : Nat → Nat → St → Hp → Prop, (∃ m, W 0 m σ H) ∧ ∀ i m σ H, W i m σ H →
      ((Itz K a b).stop i H ∧ D.nx σ H) ∨ ((Itz K a b).go i H ∧ ∃ N : St → Hp → Prop, (∀ σ' H', N σ' H' → ∃ m', m' < m ∧ W (i + 1) m' σ' H') ∧ ∀ x H', (Itz K a b).yld i H x H' → g x σ H' fun σ2 H2 => tb { D with nx := N, ct := N, bk := D.nx } σ2 H2) := by
  refine ⟨fun i m σ H => m = xs.length - i ∧ i ≤ xs.length ∧ Pv i σ H, ⟨xs.length, by simp, Nat.zero_le _, h0⟩, ?_⟩
  rintro i m σ H ⟨rfl, hi, p⟩
  obtain ⟨q1, q2⟩ := hl i σ H hi p
  by_cases hlt : i < xs.length
  · have hlt2 : i < ys.length := by omega
    refine .inr ⟨⟨xs, ys, xs[i], ys[i], q1, q2, by simp [hlt], by simp [hlt2]⟩, Pv (i + 1), fun σ' H' p' => ⟨xs.length - (i + 1), by omega, rfl, hlt, p'⟩, fun x H' y => ?_⟩
    obtain ⟨pp, u, v, rfl, hn, rfl, y1, y2⟩ := y
    exact hs i u v pp σ _ (y1 xs q1) (y2 ys q2) p hn
  · have e : i = xs.length := by omega
    subst e
    exact .inl ⟨⟨xs, ys, q1, q2, .inl (Nat.le_refl _)⟩, hd σ H p⟩
end L2

set_option Elab.async false
set_option linter.all false
set_option maxRecDepth 100000
set_option maxHeartbeats 4000000
/-! Rules over the hand layer: a class's function by the class, a method by the instance's class, max with a default, tuples compared, is, defs with defaults, comprehensions that make things. Own work. -/
namespace L2
open PySem PySem.Spec PyProof.Rows SI
/-! ### C.m(..) -/
structure ClsFn (K : PySem.W.Frag) (C : Addr) (m : Str) (f : Addr) : Prop where
  gt : PySem.W.specialIn K (.ref C) "__getattribute__" = some (some (.builtin "type.__getattribute__"))
  rd : PySem.W.readsIn K C (.type "type") = true
  fc : PySem.W.findCls K (.ref C) (.type "type") m = some (.val (.ref f))
  kp : PySem.W.keepIn K (.ref f) = true
section
variable {X : Cx} {CX : CXT} {k : Nat} {f C : Addr} {fd : FuncData} {ps : List Str} {sp : Sp} {dvs : List V} {ds : List Value} {E : XK} {x m : Str} {p pos apos : Pos} {e o : Expr} {es : List Expr} {ta : TE} {t : TA}
theorem pe_clsfn {pl : Sem Bool} (hg : Gl X x) (hm : X.mg x = some (.ref C)) (cf : ClsFn X.K C m f) (F : FnOk X.prog X.w X.K X.mg X.base CX k f fd ps sp) (hr : Room k X.A) (hb : Binds X.K fd ps ds) (hd : Vals dvs ds) (hx : Passes CX X E) (ha : PA X (e :: es) t)
    (hdb : (x == ("__debug__" : Str)) = false := by decide) (hst : starEach (e :: es) X.env = (false, eval e X.env) :: starEach es X.env := by rfl) (hpl : (backTo pos (starEach es X.env)).any (·.1) = false := by rfl)
    (ht : eval (.Call (.Attribute (.Name x p) m apos) (e :: es) [] pos) X.env = (do
      let ov ← eval (.Name x p) X.env
      standAt apos.atName
      let (f, first) ← holding [ov] (getMethod ov m pl)
      callWith pos f first (backTo pos (starEach (e :: es) X.env)) (backToKw pos (keywordEach [] X.env))) := by rfl) :
    PE X (.Call (.Attribute (.Name x p) m apos) (e :: es) [] pos) (tCall sp dvs E t) := by
  intro pins s σ H Q I h
  refine PySem.W.methodCall_KW (pl := pl) (ld_glob I hg hm ?_ hdb) ht
  refine PySem.W.method_cls I.kIn cf.gt (PySem.W.cls_value I.kIn cf.rd cf.fc rfl ?_)
  have I2 := I.tok (s.toks + 1)
  refine PySem.W.callWith_K (first := []) (h₀ := X.base) I.ok.mod.kin cf.kp (thn (ha pos pins _ σ H _ I2 h) fun us s2 ⟨vs, H2, I3, r, q⟩ => ⟨I3.kIn, ?_⟩) hst hpl
  exact run_fn F hr hb hd hx I3 r q

/-! ### o.m(..), by the class of o -/
end

/-! ### a def with defaults -/
structure FunD (K : PySem.W.Frag) (x qual : Str) (st : Stmt) (f : Addr) (fd : FuncData) (T : Addr) : Prop where
  ex : ∃ (oc : Value) (od : Option Addr) (kV doc pm : Value) (an : Option Addr) (cdv ct : Value) (osl : Array (Option Value)),
    fd = PySem.W.fnOf x qual (defArgs st) (defBody st) (defScope st) (.ref T) kV doc pm an cdv ct ∧ K.lookup f = some ⟨oc, od, .func fd, osl⟩ ∧ PySem.W.codeIn K cdv qual = true
  kp : PySem.W.keepIn K (.ref f) = true
section
variable {P : Program} {w : World} {K : PySem.W.Frag} {mg : Str → Option Value} {base : Heap}
theorem FunD.ok {x qual : Str} {st : Stmt} {f T : Addr} {fd : FuncData} {N ps : List Str} {k : Nat} {sp : Sp} (F : FunD K x qual st f fd T) (S : FnScope N ps (defScope st)) (len : ∀ vs H Q E, sp vs H Q E → vs.length = ps.length)
    (hbody : ∀ (cdv : Value) (A : Around) (outer : List Env) (s : Shared) (H : Hp) (vs : List V) (Q : VK) (E : XK), Room k (A.deeper (envOfC qual (defScope st) s.heap.objs.size f cdv)) → sp vs H Q E →
      ∃ t, PSs (cxOf CX0 P w K mg base N qual (defScope st) f cdv A outer s H E).nox (defBody st) t ∧ t { nx := fun _ H' => Q .non H', rt := Q } (start N vs) H) : FnOk P w K mg base CX0 (k + 1) f fd ps sp := by
  obtain ⟨oc, od, kV, doc, pm, an, cdv, ct, osl, rfl, lk, hcd⟩ := F.ex
  refine fn_of lk hcd S len fun A outer s H vs Q E hr hsp => ?_
  obtain ⟨t, h, q⟩ := hbody cdv A outer s H vs Q E hr hsp
  exact ⟨t, h.nox, q⟩
theorem fund_mk {x qual : Str} {st : Stmt} {f T : Addr} {oc : Value} {od an : Option Addr} {osl : Array (Option Value)} {kV doc pm cdv ct : Value} (l : K.lookup f = some ⟨oc, od, .func (PySem.W.fnOf x qual (defArgs st) (defBody st) (defScope st) (.ref T) kV doc pm an cdv ct), osl⟩)
    (c : PySem.W.codeIn K cdv qual = true) (k : PySem.W.keepIn K (.ref f) = true) : FunD K x qual st f (PySem.W.fnOf x qual (defArgs st) (defBody st) (defScope st) (.ref T) kV doc pm an cdv ct) T := ⟨⟨oc, od, kV, doc, pm, an, cdv, ct, osl, rfl, l, c⟩, k⟩
end

/-! ### max(a list of ints, default = d) -/
def maxI : List Int → Int → Int
  | [], d => d
  | z :: r, _ => r.foldl (fun a b => if b > a then b else a) z
theorem ints_cons {vs : List Value} {n : Int} {ns : List Int} (h : IntsAre vs (n :: ns)) : ∃ t vs', vs = .int n t :: vs' ∧ IntsAre vs' ns := by
  cases h with
  | cons _ t q => exact ⟨t, _, rfl, q⟩
section
variable {prog : Program} {w : World} {A : Around} {R : Result → Shared → Prop}
theorem maxD_loop {I l : Addr} {d : Value} {its : List Value} (hh : A.handled = none) (hIl : I ≠ l) (S : Addr) (hSI : S ≠ I) (hSl : S ≠ l) :
    ∀ (ns : List Int) (j : Nat) (s : Shared) (best : Int) (tb : Tok) (c : Nat), IntsAre (its.drop (j + 1)) ns → j + 1 + ns.length = its.length →
    s.heap.IsListIter I l (j + 1) → s.heap.IsList l its.toArray → s.heap.get? S = some { cls := .type "list", dict := none, data := .seq #[.int best tb, .int best tb] c, slots := #[] } →
    (∀ t h' tk, (∀ b o, b ≠ I → b ≠ S → s.heap.get? b = some o → h'.get? b = some o) → R (.ok (.ret (.int (ns.foldl (fun a b => if b > a then b else a) best) t))) { s with heap := h', toks := tk }) →
    codeAny (model prog w) A (.builtin "max.loop" ⟨[.ref I, .none, .ref S], [("default", d)]⟩) R s := by
  have hname : (toString "max" ++ toString ".loop" : String) = "max.loop" := by decide
  intro ns
  induction ns with
  | nil =>
    intro j s best tb c hI hlen hit hl hS hR
    refine codeAny_builtin F.entry_max_loop ?_
    rw [Around.under_plainId F.plain_max_loop _]
    show wpAny _ A.in1 (seqItems? (.ref S) >>= _) _ _ s
    refine wpAny_bind (wpAny_seqItems hS rfl ?_)
    show wpAny _ A.in1 (tryCatch (pyNext (.ref I)) _ >>= _) _ _ s
    refine wpAny_bind (wpAny_tryCatch (wpAny_pyNext_list_end hh hit hl (by simp at hlen ⊢; omega) fun h' he => ?_))
    have hS' := he S _ hSI hS
    show wpAny _ A.in1 (updateSeq S (fun _ => #[]) >>= _) _ _ _
    refine wpAny_bind (wpAny_updateSeq hS' rfl (wpAny_bind (wpAny_letGo (wpAny_pure ?_))))
    exact hR tb _ s.toks fun b o n1 n2 e => (Heap.get?_update_other _ _ (Ne.symm n2)).trans (he b o n1 e)
  | cons z r ih =>
    intro j s best tb c hI hlen hit hl hS hR
    have hlt : j + 1 < its.length := by simp at hlen; omega
    obtain ⟨t, hz, hI'⟩ : ∃ t, its[j + 1]? = some (.int z t) ∧ IntsAre (its.drop (j + 2)) r := by
      obtain ⟨t, vs', e, q⟩ := ints_cons hI
      refine ⟨t, ?_, ?_⟩
      · have e0 : its[j + 1]? = (its.drop (j + 1))[0]? := by rw [List.getElem?_drop]
        rw [e0, e]; rfl
      · have e1 : its.drop (j + 2) = (its.drop (j + 1)).drop 1 := by rw [List.drop_drop]
        rw [e1, e]; exact q
    refine codeAny_builtin F.entry_max_loop ?_
    rw [Around.under_plainId F.plain_max_loop _]
    show wpAny _ A.in1 (seqItems? (.ref S) >>= _) _ _ s
    refine wpAny_bind (wpAny_seqItems hS rfl ?_)
    show wpAny _ A.in1 (tryCatch (pyNext (.ref I)) _ >>= _) _ _ s
    refine wpAny_bind (wpAny_tryCatch (wpAny_pyNext_list_item hit hl (x := .int z t) (by simpa using hz) fun h' hit' hs' => ?_))
    have hS' := hs'.extBut S _ hSI hS
    show wpAny _ A.in1 (tryCatch (holding [.int z t, .int z t] (richCompare .Gt (.int z t) (.int best tb) >>= _)) _ >>= _) _ _ _
    refine wpAny_bind (wpAny_tryCatch (wpAny_holding (wpAny_bind ?_)))
    refine (PyProof.Rows.gt_int ?_ : wpAny (model prog w) _ (compareOp .Gt (.int z t) (.int best tb)) _ _ _)
    refine wpAny_bind (wpAny_holding (wpAny_truthy_bool ?_))
    refine wpAny_bind (wpAny_letGo (wpAny_pure ?_))
    by_cases hb : best < z
    · rw [decide_eq_true hb]
      simp only [if_true]
      refine wpAny_bind (wpAny_updateSeq hS' rfl (wpAny_bind (wpAny_letGo ?_)))
      rw [hname]
      have e1 : List.foldl (fun a b : Int => if b > a then b else a) best (z :: r) = List.foldl (fun a b => if b > a then b else a) z r := by
        rw [List.foldl_cons, if_pos hb]
      rw [e1] at hR
      refine wpAny_pure ⟨plainId_quiet F.plain_max_loop _, ih (j + 1) _ z t _ hI' (by simp at hlen; omega) ?_ ?_ (Heap.get?_update_self _ hS' rfl) fun t' h2 tk hk => ?_⟩
      · obtain ⟨o, ho, q⟩ := hit'
        exact ⟨o, (Heap.get?_update_other _ _ hSI).trans ho, q⟩
      · obtain ⟨o, ho, q⟩ := hl
        exact ⟨o, (Heap.get?_update_other _ _ hSl).trans (hs'.extBut l o (Ne.symm hIl) ho), q⟩
      · exact hR t' h2 tk fun b o n1 n2 e => hk b o n1 n2 ((Heap.get?_update_other _ _ (Ne.symm n2)).trans (hs'.extBut b o n1 e))
    · rw [decide_eq_false hb]
      simp only [Bool.false_eq_true, if_false]
      refine wpAny_bind (wpAny_letGo ?_)
      rw [hname]
      have e1 : List.foldl (fun a b : Int => if b > a then b else a) best (z :: r) = List.foldl (fun a b => if b > a then b else a) best r := by
        rw [List.foldl_cons, if_neg hb]
      rw [e1] at hR
      refine wpAny_pure ⟨plainId_quiet F.plain_max_loop _, ih (j + 1) _ best tb c hI' (by simp at hlen; omega) hit' ?_ hS' fun t' h2 tk hk => ?_⟩
      · obtain ⟨o, ho, q⟩ := hl
        exact ⟨o, hs'.extBut l o (Ne.symm hIl) ho, q⟩
      · exact hR t' h2 tk fun b o n1 n2 e => hk b o n1 n2 (hs'.extBut b o n1 e)
theorem maxD_first {I l : Addr} {d : Value} {its : List Value} (hh : A.handled = none) (hIl : I ≠ l) (S : Addr) (hSI : S ≠ I) (hSl : S ≠ l) {ns : List Int} {s : Shared} {c : Nat} {di : Int} {dt : Tok} (hd : d = .int di dt) (hI : IntsAre its ns)
    (hit : s.heap.IsListIter I l 0) (hl : s.heap.IsList l its.toArray) (hS : s.heap.get? S = some { cls := .type "list", dict := none, data := .seq #[] c, slots := #[] })
    (hR : ∀ t h' tk, (∀ b o, b ≠ I → b ≠ S → s.heap.get? b = some o → h'.get? b = some o) → R (.ok (.ret (.int (maxI ns di) t))) { s with heap := h', toks := tk }) :
    codeAny (model prog w) A (.builtin "max.loop" ⟨[.ref I, .none, .ref S], [("default", d)]⟩) R s := by
  have hname : (toString "max" ++ toString ".loop" : String) = "max.loop" := by decide
  refine codeAny_builtin F.entry_max_loop ?_
  rw [Around.under_plainId F.plain_max_loop _]
  show wpAny _ A.in1 (seqItems? (.ref S) >>= _) _ _ s
  refine wpAny_bind (wpAny_seqItems hS rfl ?_)
  show wpAny _ A.in1 (tryCatch (pyNext (.ref I)) _ >>= _) _ _ s
  cases hI with
  | nil =>
    refine wpAny_bind (wpAny_tryCatch (wpAny_pyNext_list_end hh hit hl (by simp) fun h' he => ?_))
    refine wpAny_bind (wpAny_rule (wpAny_pure ?_))
    subst hd
    exact hR dt _ s.toks fun b o n1 n2 e => he b o n1 e
  | @cons z t vs r hI =>
    refine wpAny_bind (wpAny_tryCatch (wpAny_pyNext_list_item hit hl (x := .int z t) (by simp) fun h' hit' hs' => ?_))
    have hS' := hs'.extBut S _ hSI hS
    show wpAny _ A.in1 (updateSeq S (fun _ => #[.int z t, .int z t]) >>= _) _ _ _
    refine wpAny_bind (wpAny_updateSeq hS' rfl ?_)
    rw [hname]
    refine wpAny_pure ⟨plainId_quiet F.plain_max_loop _, maxD_loop (its := .int z t :: vs) hh hIl S hSI hSl r 0 _ z t _ (by simpa using hI) (by simp [hI.length]; omega) ?_ ?_ (Heap.get?_update_self _ hS' rfl) fun t' h2 tk hk => ?_⟩
    · obtain ⟨o, ho, q⟩ := hit'
      exact ⟨o, (Heap.get?_update_other _ _ hSI).trans ho, q⟩
    · obtain ⟨o, ho, q⟩ := hl
      exact ⟨o, (Heap.get?_update_other _ _ hSl).trans (hs'.extBut l o (Ne.symm hIl) ho), q⟩
    · exact hR t' h2 tk fun b o n1 n2 e => hk b o n1 n2 ((Heap.get?_update_other _ _ (Ne.symm n2)).trans (hs'.extBut b o n1 e))
end
end L2

set_option Elab.async false
set_option linter.all false
set_option maxRecDepth 100000
set_option maxHeartbeats 4000000
/-! Trees, as the program keeps them, and as plain data. Own work. -/
namespace TR
open PySem L2
inductive Tr where
  | word (n : Str) (at' : Int) (b : Nat)
  | fig (z at' : Int)
  | row (ps : List Tr) (at' : Int)
mutual
def many : Tr → Nat
  | .word _ _ _ => 1
  | .fig _ _ => 1
  | .row ps _ => 1 + manys ps
def manys : List Tr → Nat
  | [] => 0
  | p :: r => many p + manys r
end
mutual
def deep : Tr → Nat
  | .word _ _ _ => 0
  | .fig _ _ => 0
  | .row ps _ => deeps ps + 1
def deeps : List Tr → Nat
  | [] => 0
  | p :: r => max (deep p) (deeps r)
end
mutual
def addb (m : Nat) : Tr → Tr
  | .word n a b => .word n a (b ||| m)
  | .fig z a => .fig z a
  | .row ps a => .row (addbs m ps) a
def addbs (m : Nat) : List Tr → List Tr
  | [] => []
  | p :: r => addb m p :: addbs m r
end
theorem deep_le_of_mem {t : Tr} : ∀ {ts : List Tr}, t ∈ ts → deep t ≤ deeps ts
  | p :: r, h => by
    rcases List.mem_cons.mp h with rfl | h
    · simp only [deeps]; omega
    · have := deep_le_of_mem h; simp only [deeps]; omega

/-- the classes -/
structure C4 where
  T : Addr
  W : Addr
  F : Addr
  R : Addr
def f3 (a m d : Int) : List (Str × V) := [("at", .int a), ("many", .int m), ("deep", .int d)]
def fW (n : Str) (a : Int) (b : Nat) : List (Str × V) := [("at", .int a), ("many", .int 1), ("deep", .int 0), ("name", .str n), ("bits", .int b)]
def fF (z a : Int) : List (Str × V) := [("at", .int a), ("many", .int 1), ("deep", .int 0), ("number", .int z)]
def fR (l : Addr) (m d : Nat) (a : Int) : List (Str × V) := [("at", .int a), ("many", .int m), ("deep", .int d), ("parts", .ref l)]
theorem putF_ne {f g : Str} {v w : V} {r : List (Str × V)} (h : g ≠ f) : putF f v ((g, w) :: r) = (g, w) :: putF f v r := by
  show (if g = f then _ else _) = _
  rw [if_neg h]
theorem putF_nil {f : Str} {v : V} : putF f v [] = [(f, v)] := rfl
theorem put_many {a m : Int} : putF "many" (.int m) ([("at", .int a)] : List (Str × V)) = ([("at", .int a), ("many", .int m)] : List (Str × V)) := by
  rw [putF_ne (by decide +kernel), putF_nil]
theorem put_deep {a m d : Int} : putF "deep" (.int d) ([("at", .int a), ("many", .int m)] : List (Str × V)) = f3 a m d := by
  rw [putF_ne (by decide +kernel), putF_ne (by decide +kernel), putF_nil]; rfl
theorem put_x {a m d : Int} {f : Str} {v : V} (h1 : ("at" : Str) ≠ f) (h2 : ("many" : Str) ≠ f) (h3 : ("deep" : Str) ≠ f) : putF f v (f3 a m d) = ([("at", .int a), ("many", .int m), ("deep", .int d), (f, v)] : List (Str × V)) := by
  unfold f3
  rw [putF_ne h1, putF_ne h2, putF_ne h3, putF_nil]
theorem put_bits {n : Str} {a : Int} {b : Nat} : putF "bits" (.int b) ([("at", .int a), ("many", .int 1), ("deep", .int 0), ("name", .str n)] : List (Str × V)) = fW n a b := by
  rw [putF_ne (by decide +kernel), putF_ne (by decide +kernel), putF_ne (by decide +kernel), putF_ne (by decide +kernel), putF_nil]; rfl

mutual
/-- the tree stands at v, all its objects at addresses that are N -/
def TrIn (c : C4) (N : Addr → Prop) (H : Hp) : Tr → V → Prop
  | .word n a b, v => ∃ p dx, v = .ref p ∧ N p ∧ H p = some (.ins c.W dx (fW n a b))
  | .fig z a, v => ∃ p dx, v = .ref p ∧ N p ∧ H p = some (.ins c.F dx (fF z a))
  | .row ps a, v => ∃ p dx l vs, v = .ref p ∧ N p ∧ H p = some (.ins c.R dx (fR l (1 + manys ps) (deeps ps + 1) a)) ∧ N l ∧ H l = some (.lst vs) ∧ ps.length ≤ 1000 ∧ TrsIn c N H ps vs
def TrsIn (c : C4) (N : Addr → Prop) (H : Hp) : List Tr → List V → Prop
  | [], vs => vs = []
  | p :: r, vs => ∃ v ws, vs = v :: ws ∧ TrIn c N H p v ∧ TrsIn c N H r ws
end
mutual
theorem TrIn.mono {c : C4} {N N' : Addr → Prop} {H H' : Hp} (h : ∀ b o, N b → H b = some o → N' b ∧ H' b = some o) : ∀ {t : Tr} {v : V}, TrIn c N H t v → TrIn c N' H' t v
  | .word n a b, v, x => by
    simp only [TrIn] at x ⊢
    obtain ⟨p, dx, e, np, hp⟩ := x
    exact ⟨p, dx, e, (h p _ np hp).1, (h p _ np hp).2⟩
  | .fig z a, v, x => by
    simp only [TrIn] at x ⊢
    obtain ⟨p, dx, e, np, hp⟩ := x
    exact ⟨p, dx, e, (h p _ np hp).1, (h p _ np hp).2⟩
  | .row ps a, v, x => by
    simp only [TrIn] at x ⊢
    obtain ⟨p, dx, l, vs, e, np, hp, nl, hl, le, r⟩ := x
    exact ⟨p, dx, l, vs, e, (h p _ np hp).1, (h p _ np hp).2, (h l _ nl hl).1, (h l _ nl hl).2, le, TrsIn.mono h r⟩
theorem TrsIn.mono {c : C4} {N N' : Addr → Prop} {H H' : Hp} (h : ∀ b o, N b → H b = some o → N' b ∧ H' b = some o) : ∀ {ts : List Tr} {vs : List V}, TrsIn c N H ts vs → TrsIn c N' H' ts vs
  | [], vs, x => by simp only [TrsIn] at x ⊢; exact x
  | p :: r, vs, x => by
    simp only [TrsIn] at x ⊢
    obtain ⟨v, ws, e, y, z⟩ := x
    exact ⟨v, ws, e, TrIn.mono h y, TrsIn.mono h z⟩
end
theorem TrsIn.length {c : C4} {N : Addr → Prop} {H : Hp} : ∀ {ts : List Tr} {vs : List V}, TrsIn c N H ts vs → vs.length = ts.length
  | [], vs, x => by simp only [TrsIn] at x; rw [x]; rfl
  | p :: r, vs, x => by
    simp only [TrsIn] at x
    obtain ⟨v, ws, e, y, z⟩ := x
    rw [e, List.length_cons, List.length_cons, TrsIn.length z]
theorem TrsIn.get {c : C4} {N : Addr → Prop} {H : Hp} : ∀ {ts : List Tr} {vs : List V} {i : Nat} {v : V}, TrsIn c N H ts vs → vs[i]? = some v → ∃ t, ts[i]? = some t ∧ TrIn c N H t v
  | [], vs, i, v, x, e => by simp only [TrsIn] at x; rw [x] at e; simp at e
  | p :: r, vs, i, v, x, e => by
    simp only [TrsIn] at x
    obtain ⟨u, ws, ev, y, z⟩ := x
    subst ev
    cases i with
    | zero => simp at e; subst e; exact ⟨p, rfl, y⟩
    | succ i =>
      obtain ⟨t, et, q⟩ := TrsIn.get z (i := i) (v := v) (by simpa using e)
      exact ⟨t, by simpa using et, q⟩
theorem TrsIn.snoc {c : C4} {N : Addr → Prop} {H : Hp} {t : Tr} {v : V} (y : TrIn c N H t v) : ∀ {ts : List Tr} {vs : List V}, TrsIn c N H ts vs → TrsIn c N H (ts ++ [t]) (vs ++ [v])
  | [], vs, x => by simp only [TrsIn] at x; subst x; simp only [List.nil_append, TrsIn]; exact ⟨v, [], rfl, y, rfl⟩
  | p :: r, vs, x => by
    simp only [TrsIn] at x
    obtain ⟨u, ws, ev, y', z⟩ := x
    subst ev
    simp only [List.cons_append, TrsIn]
    exact ⟨u, ws ++ [v], rfl, y', TrsIn.snoc y z⟩
mutual
/-- the plan of a tree (tuples and lists), as the laws keep one -/
def PlIn (N : Addr → Prop) (H : Hp) : Tr → V → Prop
  | .word n a b, v => ∃ p, v = .ref p ∧ N p ∧ H p = some (.tup [.str "word", .str n, .int a, .int b])
  | .fig z a, v => ∃ p, v = .ref p ∧ N p ∧ H p = some (.tup [.str "figure", .int z, .int a])
  | .row ps a, v => ∃ p l vs, v = .ref p ∧ N p ∧ H p = some (.tup [.str "row", .ref l, .int a]) ∧ N l ∧ H l = some (.lst vs) ∧ ps.length ≤ 1000 ∧ PlsIn N H ps vs
def PlsIn (N : Addr → Prop) (H : Hp) : List Tr → List V → Prop
  | [], vs => vs = []
  | p :: r, vs => ∃ v ws, vs = v :: ws ∧ PlIn N H p v ∧ PlsIn N H r ws
end
def All : Addr → Prop := fun _ => True
theorem TrIn.same {c : C4} {N : Addr → Prop} {H H' : Hp} {t : Tr} {v : V} (x : TrIn c N H t v) (s : Same H H') : TrIn c N H' t v := x.mono fun b o n e => ⟨n, s b o e⟩
theorem TrIn.all {c : C4} {N : Addr → Prop} {H : Hp} {t : Tr} {v : V} (x : TrIn c N H t v) : TrIn c All H t v := x.mono fun b o _ e => ⟨trivial, e⟩
end TR

set_option Elab.async false
set_option linter.all false
set_option maxRecDepth 100000
namespace L2
open PySem PySem.Spec PyProof.Rows

/-! ### lists of pairs as tables -/
section
variable {κ : Type} [DecidableEq κ]
def valV (kvs : List (κ × V)) (k : κ) : Option V := (kvs.find? fun kv => decide (kv.1 = k)).map (·.2)
/-- in its place, or at the end -/
def putK (kvs : List (κ × V)) (k : κ) (v : V) : List (κ × V) :=
  if (kvs.any fun kv => decide (kv.1 = k)) = true then kvs.map (fun kv => if kv.1 = k then (kv.1, v) else kv) else kvs ++ [(k, v)]

theorem valV_pos {p : κ × V} {r : List (κ × V)} {k : κ} (e : p.1 = k) : valV (p :: r) k = some p.2 := by simp [valV, List.find?_cons, e]
theorem valV_neg {p : κ × V} {r : List (κ × V)} {k : κ} (e : ¬ p.1 = k) : valV (p :: r) k = valV r k := by simp [valV, List.find?_cons, e]
theorem valV_any (k : κ) : ∀ kvs : List (κ × V), (kvs.any fun kv => decide (kv.1 = k)) = (valV kvs k).isSome
  | [] => rfl
  | p :: r => by
    rw [List.any_cons]
    by_cases e : p.1 = k
    · simp only [valV_pos e, decide_eq_true e, Bool.true_or, Option.isSome_some]
    · rw [valV_neg e, decide_eq_false e, Bool.false_or]; exact valV_any k r
theorem length_putK (kvs : List (κ × V)) (k : κ) (v : V) : (putK kvs k v).length ≤ kvs.length + 1 := by
  unfold putK
  split
  · rw [List.length_map]; omega
  · rw [List.length_append, List.length_cons, List.length_nil]; omega

theorem RelO.isSome_eq {o : Option V} {u : Option Value} (r : RelO o u) : o.isSome = u.isSome := by
  cases o with
  | none => cases u with
    | none => rfl
    | some _ => exact (show False from r).elim
  | some _ => cases u with
    | none => exact (show False from r).elim
    | some _ => rfl

/-- raw tables of the same keys -/
theorem KV.val {kvs : List (κ × V)} {vs : List (κ × Value)} (r : KV kvs vs) (k : κ) : RelO (valV kvs k) (valueAt vs k) := by
  unfold KV at r
  induction r with
  | nil => exact True.intro
  | @cons p q ps qs h t ih =>
    obtain ⟨h1, h2⟩ := h
    by_cases e : p.1 = k
    · have e' : q.1 = k := h1.symm.trans e
      have b : valueAt (q :: qs) k = some q.2 := by simp [valueAt, List.find?_cons, e']
      rw [valV_pos e, b]; exact h2
    · have e' : ¬ q.1 = k := fun z => e (h1.trans z)
      have b : valueAt (q :: qs) k = valueAt qs k := by simp [valueAt, List.find?_cons, e']
      rw [valV_neg e, b]; exact ih
theorem KV.any {kvs : List (κ × V)} {vs : List (κ × Value)} (r : KV kvs vs) (k : κ) : (kvs.any fun kv => decide (kv.1 = k)) = vs.any fun kv => decide (kv.1 = k) := by
  unfold KV at r
  induction r with
  | nil => rfl
  | cons h t ih => rw [List.any_cons, List.any_cons, ih, h.1]
theorem KV.repl {kvs : List (κ × V)} {vs : List (κ × Value)} (r : KV kvs vs) (k : κ) {y : V} {u : Value} (ry : RelV y u) :
    KV (kvs.map fun kv => if kv.1 = k then (kv.1, y) else kv) (vs.map fun kv => if kv.1 = k then (kv.1, u) else kv) := by
  unfold KV at r ⊢
  induction r with
  | nil => exact .nil
  | @cons p q ps qs h t ih =>
    rw [List.map_cons, List.map_cons]
    refine .cons ?_ ih
    obtain ⟨h1, h2⟩ := h
    by_cases e : p.1 = k
    · rw [if_pos e, if_pos (h1.symm.trans e)]; exact ⟨h1, ry⟩
    · rw [if_neg e, if_neg (fun z => e (h1.trans z))]; exact ⟨h1, h2⟩
theorem KV.put {kvs : List (κ × V)} {vs : List (κ × Value)} (r : KV kvs vs) (k : κ) {y : V} {u : Value} (ry : RelV y u) : KV (putK kvs k y) (stored vs k u) := by
  unfold putK stored
  rw [r.any k]
  by_cases e : (vs.any fun kv => decide (kv.1 = k)) = true
  · rw [if_pos e, if_pos e]; exact r.repl k ry
  · rw [if_neg e, if_neg e]; exact Paired.snoc r ⟨rfl, ry⟩
theorem KV.length {kvs : List (κ × V)} {vs : List (κ × Value)} (r : KV kvs vs) : kvs.length = vs.length := Paired.length r
end


/-! ### a tracked dict, its keys ints and texts or tuples of these -/
theorem kV_is {P : Program} {w : World} {k : Key} {u : Value} (r : RelV (kV k) u) : (mixKind P w).is k u = true := by
  rcases k with (_ | i) | x
  · cases (show u = Value.none from r); exact mixKind_none P w
  · obtain ⟨t, e⟩ := (show ∃ t, u = Value.int i t from r); subst e; exact mixKind_int P w i t
  · obtain ⟨t, e⟩ := (show ∃ t, u = Value.str x t from r); subst e; exact mixKind_str P w x t
theorem items_are {P : Program} {w : World} : ∀ {ks : List Key} {us : List Value}, Vals (ks.map kV) us → ItemsAre (mixKind P w) ks us
  | [], _, r => by rw [List.map_nil] at r; cases r; exact .nil
  | k :: ks, _, r => by
    rw [List.map_cons] at r
    cases r with
    | cons h t => exact .cons (kV_is h) (items_are t)

/-- raw entries of a dict with tuple keys -/
abbrev KT (H : Hp) : List (List Key × V) → List (List Key × Addr × Value) → Prop := Paired fun p q => p.1 = q.1 ∧ H q.2.1 = some (.tup (p.1.map kV)) ∧ RelV p.2 q.2.2
theorem KT.val {H : Hp} {kvs : List (List Key × V)} {xs : List (List Key × Addr × Value)} (r : KT H kvs xs) (k : List Key) : RelO (valV kvs k) ((atKey xs k).map (·.2)) := by
  induction r with
  | nil => exact True.intro
  | @cons p q ps qs h t ih =>
    obtain ⟨h1, _, h2⟩ := h
    by_cases e : p.1 = k
    · have e' : q.1 = k := h1.symm.trans e
      have b : atKey (q :: qs) k = some q.2 := by simp [atKey, List.find?_cons, e']
      rw [valV_pos e, b]; exact h2
    · have e' : ¬ q.1 = k := fun z => e (h1.trans z)
      have b : atKey (q :: qs) k = atKey qs k := by simp [atKey, List.find?_cons, e']
      rw [valV_neg e, b]; exact ih
theorem KT.repl {H : Hp} {kvs : List (List Key × V)} {xs : List (List Key × Addr × Value)} (r : KT H kvs xs) (k : List Key) {y : V} {u : Value} (ry : RelV y u) :
    KT H (kvs.map fun kv => if kv.1 = k then (kv.1, y) else kv) (xs.map (putAt k u)) := by
  induction r with
  | nil => exact .nil
  | @cons p q ps qs h t ih =>
    rw [List.map_cons, List.map_cons]
    refine .cons ?_ ih
    obtain ⟨h1, h2, h3⟩ := h
    unfold putAt
    by_cases e : p.1 = k
    · rw [if_pos e, if_pos (h1.symm.trans e)]; exact ⟨h1, h2, ry⟩
    · rw [if_neg e, if_neg (fun z => e (h1.trans z))]; exact ⟨h1, h2, h3⟩
theorem KT.put {H : Hp} {kvs : List (List Key × V)} {xs : List (List Key × Addr × Value)} (r : KT H kvs xs) (k : List Key) {b : Addr} {y : V} {u : Value} (hb : H b = some (.tup (k.map kV))) (ry : RelV y u) :
    KT H (putK kvs k y) (storedH xs k b u) := by
  have e : (kvs.any fun kv => decide (kv.1 = k)) = (atKey xs k).isSome := by
    rw [valV_any, (r.val k).isSome_eq, Option.isSome_map]
  unfold putK storedH
  rw [e]
  by_cases q : (atKey xs k).isSome = true
  · rw [if_pos q, if_pos q]; exact r.repl k ry
  · rw [if_neg q, if_neg q]; exact Paired.snoc r ⟨rfl, hb, ry⟩
theorem KT.keeps {H H' : Hp} {kvs : List (List Key × V)} {xs : List (List Key × Addr × Value)} (r : KT H kvs xs) (ht : ∀ b ys, H b = some (.tup ys) → H' b = some (.tup ys)) : KT H' kvs xs :=
  Paired.mapP r fun _ _ z => ⟨z.1, ht _ _ z.2.1, z.2.2⟩

section
variable {P : Program} {w : World} {H : Hp} {h : Heap} {a : Addr}
theorem rd_of {u : HO} (ok : HOk P w H h) (e : Rd H a u) : ObjOk P w H h a u := e.ok ok
theorem dk_rd {kvs : List (Key × V)} (ok : HOk P w H h) (e : Rd H a (.dK kvs)) : kvs.length ≤ sizeLine ∧ (a == sysModules) = false ∧ ∃ vs, KV kvs vs ∧ h.DictOf (mixKind P w) a vs :=
  show ObjOk P w H h a (.dK kvs) from rd_of ok e
theorem dk_of {kvs : List (Key × V)} (ok : HOk P w H h) (e : H a = some (.dK kvs)) : kvs.length ≤ sizeLine ∧ (a == sysModules) = false ∧ ∃ vs, KV kvs vs ∧ h.DictOf (mixKind P w) a vs := dk_rd ok (.inl e)
/-- a tracked tuple of ints and texts is a key -/
theorem key_of {ks : List Key} (ok : HOk P w H h) (e : H a = some (.tup (ks.map kV))) : (tupleKind (mixKind P w)).is h ks a := by
  obtain ⟨_, its, r, o, h1, h2, ⟨n, h3⟩, _⟩ := (show ObjOk P w H h a (.tup (ks.map kV)) from ok a _ e)
  exact ⟨o, its.toArray, n, h1, h2, h3, by simpa using items_are r⟩
theorem dt_rd {kvs : List (List Key × V)} (ok : HOk P w H h) (e : Rd H a (.dT kvs)) : kvs.length ≤ sizeLine ∧ (a == sysModules) = false ∧
    ∃ xs, KT H kvs xs ∧ h.DictOfH (tupleKind (mixKind P w)) a xs := by
  obtain ⟨z, y, xs, r, o, es, ep, h1, h2, h3, h4, h5⟩ := (show ObjOk P w H h a (.dT kvs) from rd_of ok e)
  refine ⟨z, y, xs, r, o, es, ep, h1, h2, h3, h4, fun x hx => ?_, h5⟩
  have all : ∀ {l : List (List Key × V)} {m : List (List Key × Addr × Value)}, KT H l m → ∀ x ∈ m, (tupleKind (mixKind P w)).is h x.1 x.2.1 := by
    intro l m q
    induction q with
    | nil => intro x hx; exact nomatch hx
    | @cons p q ps qs hq t ih =>
      intro x hx
      rcases List.mem_cons.mp hx with e | hx
      · subst e
        exact key_of ok (by rw [← hq.1]; exact hq.2.1)
      · exact ih x hx
  exact all r x hx
theorem dt_of {kvs : List (List Key × V)} (ok : HOk P w H h) (e : H a = some (.dT kvs)) : kvs.length ≤ sizeLine ∧ (a == sysModules) = false ∧
    ∃ xs, KT H kvs xs ∧ h.DictOfH (tupleKind (mixKind P w)) a xs := dt_rd ok (.inl e)
end

/-- what the dict at a holds at the key y -/
def DGet (H : Hp) (a : Addr) (y : V) (r : Option V) : Prop :=
  (∃ kvs k, Rd H a (.dK kvs) ∧ y = kV k ∧ r = valV kvs k) ∨ ∃ kvs k b, Rd H a (.dT kvs) ∧ y = .ref b ∧ H b = some (.tup (k.map kV)) ∧ r = valV kvs k
/-- the heap behind a[y] = v -/
def DPut (H : Hp) (a : Addr) (y v : V) (H' : Hp) : Prop :=
  (∃ kvs k, H a = some (.dK kvs) ∧ y = kV k ∧ kvs.length < sizeLine ∧ H' = upd H a (.dK (putK kvs k v))) ∨
  ∃ kvs k b, H a = some (.dT kvs) ∧ y = .ref b ∧ H b = some (.tup (k.map kV)) ∧ kvs.length < sizeLine ∧ H' = upd H a (.dT (putK kvs k v))
theorem DGet.t {H : Hp} {a b : Addr} {kvs : List (List Key × V)} {k : List Key} (e : H a = some (.dT kvs)) (eb : H b = some (.tup (k.map kV))) : DGet H a (.ref b) (valV kvs k) := .inr ⟨kvs, k, b, .inl e, rfl, eb, rfl⟩
theorem DPut.t {H : Hp} {a b : Addr} {kvs : List (List Key × V)} {k : List Key} {v : V} (e : H a = some (.dT kvs)) (eb : H b = some (.tup (k.map kV))) (hl : kvs.length < sizeLine) :
    DPut H a (.ref b) v (upd H a (.dT (putK kvs k v))) := .inr ⟨kvs, k, b, e, rfl, eb, hl, rfl⟩


section
variable {X : Cx} {pins : List (Addr × Obj)} {σ : St} {H : Hp} {s : Shared} {a : Addr} {y v : V} {u r : Value} {o : Option V} {A : Around} {E : Value → Shared → Prop}

theorem Inv.big (I : Inv X pins σ H s) : sysModules < s.heap.objs.size := by
  have h : mainGlobals < s.heap.objs.size := (I.mod.glob.keeps I.bk).lt
  exact Nat.lt_trans (by decide) h

/-- y in d -/
theorem d_in {Q : Value → Shared → Prop} (hu : A.units + 1 < cLine) (I : Inv X pins σ H s) (g : DGet H a y o) (ry : RelV y u) (h : ∀ s', Inv X pins σ H s' → Q (.bool o.isSome) s') :
    wpAny (model X.prog X.w) A (compareOp .In u (.ref a)) Q E s := by
  rcases g with ⟨kvs, k, e, ey, l⟩ | ⟨kvs, k, b, e, ey, eb, l⟩
  · subst ey
    obtain ⟨z, hd, vs, rel, dd⟩ := dk_rd I.hok e
    refine wpAny_in_of (kV_is ry) hd dd.mapOf ?_
    rw [← (rel.val k).isSome_eq, ← l]
    exact h _ (I.tok _)
  · subst ey
    cases (show u = Value.ref b from ry)
    obtain ⟨z, hd, xs, rel, dd⟩ := dt_rd I.hok e
    refine wpAny_in_heap (tupleKind_room_in1 hu) (key_of I.hok eb) hd dd ?_
    have q := (rel.val k).isSome_eq
    rw [Option.isSome_map] at q
    rw [← q, ← l]
    exact h _ (I.tok _)
/-- a dict's object is replaced -/
theorem d_write {h' : Heap} {t' : Nat} {ob : HO} (I : Inv X pins σ H s) (mu : Mut (H a)) (hs : Heap.SameBut a s.heap h') (he : ∃ q, h'.get? a = some q) (new : ObjOk X.prog X.w (upd H a ob) h' a ob) :
    Inv X pins σ (upd H a ob) { s with heap := h', toks := t' } :=
  I.write (x := a) (e := a) mu (.inl rfl) (fun b q hb z => (hs.2 b hb).trans z) he new
theorem dk_new {P : Program} {w : World} {H' : Hp} {h' : Heap} {kvs : List (Key × V)} {vs : List (Key × Value)} (z : kvs.length ≤ sizeLine) (hd : (a == sysModules) = false) (rel : KV kvs vs) (dd : h'.DictOf (mixKind P w) a vs) :
    ObjOk P w H' h' a (.dK kvs) := ⟨z, hd, vs, rel, dd⟩
/-- d[y] = v -/
theorem d_setItem {H' : Hp} {Q : Unit → Shared → Prop} (hu : A.units + 1 < cLine) (I : Inv X pins σ H s) (g : DPut H a y v H') (ry : RelV y u) (rv : RelV v r) (h : ∀ s', Inv X pins σ H' s' → Q () s') :
    wpAny (model X.prog X.w) A (setItem (.ref a) u r) Q E s := by
  rcases g with ⟨kvs, k, e, ey, l, eH⟩ | ⟨kvs, k, b, e, ey, eb, l, eH⟩
  · subst ey eH
    obtain ⟨z, hd, vs, rel, dd⟩ := dk_of I.hok e
    have hz : vs.length ≤ sizeLine := by rw [← rel.length]; exact z
    have hl : (putK kvs k v).length ≤ sizeLine := by have := length_putK kvs k v; omega
    refine wpAny_setItem_pairs (hsz := hz) (kV_is ry) dd fun h' dd' hs => h _ ?_
    have he : ∃ q, h'.get? a = some q := let ⟨q, _, _, hq, _⟩ := dd'; ⟨q, hq⟩
    exact d_write I (by rw [e]; exact True.intro) hs he (dk_new hl hd (rel.put k rv) dd')
  · subst ey eH
    cases (show u = Value.ref b from ry)
    obtain ⟨z, hd, xs, rel, dd⟩ := dt_of I.hok e
    have hz : xs.length ≤ sizeLine := by rw [← Paired.length rel]; exact z
    have hl : (putK kvs k v).length ≤ sizeLine := by have := length_putK kvs k v; omega
    refine wpAny_setItem_heap (hsz := hz) (tupleKind_room_in1 hu) (key_of I.hok eb) dd fun h' dd' hs => h _ ?_
    obtain ⟨q, es, ep, hq, h2, h3, h4, _, h5⟩ := dd'
    refine d_write I (by rw [e]; exact True.intro) hs ⟨q, hq⟩ ⟨hl, hd, _, (rel.put k eb rv).keeps fun c ys ec => ?_, q, es, ep, hq, h2, h3, h4, h5⟩
    rw [upd_ne (ne_of ec e (fun z => nomatch z))]
    exact ec
end

section
variable {X : Cx} {pins : List (Addr × Obj)} {σ : St} {H : Hp} {s : Shared} {a : Addr} {kvs : List (Key × V)} {k : Key} {u : Value} {A : Around} {E : Value → Shared → Prop}
end


/-! ### readings and rules -/


/-- y in d, y not in d -/
def tDIn (ty td : TE) : TE := fun σ H Q => ty σ H fun y H1 => td σ H1 fun x H2 => ∃ a o, x = .ref a ∧ DGet H2 a y o ∧ Q (.bl o.isSome) H2
/-- d[y] = v -/
def sDPut (td ty tv : TE) : TS := fun D σ H => tv σ H fun v H1 => td σ H1 fun x H2 => ty σ H2 fun y H3 => ∃ a H4, x = .ref a ∧ DPut H3 a y v H4 ∧ D.nx σ H4

section
variable {X : Cx} {o i e value : Expr} {pos pos' tpos : Pos} {td ty tv : TE}
theorem pc_din (hu : X.A.units + 1 < cLine) (hi : PE X i ty) (ho : PE X o td) : PC X .In i o (tDIn ty td) := by
  intro pins s σ H Q I h
  refine thn (hi pins s σ H _ I h) fun iv s1 ⟨y, H1, I1, ry, q1⟩ => thn (ho pins s1 σ H1 _ I1 q1) fun u s2 ⟨x, H2, I2, rx, a, ov, ex, g, q2⟩ => ?_
  subst ex
  obtain rfl : u = Value.ref a := rx
  exact d_in hu I2 g ry fun s3 I3 => ⟨.bl ov.isSome, H2, I3, rfl, q2⟩
theorem ps_dput (hu : X.A.units + 1 < cLine) (ho : PE X o td) (hi : PE X i ty) (hv : PE X value tv) (hs : swapsWith value (some (.Subscript o i pos')) pos.line X.env = pure false) :
    PS X (.Assign [.Subscript o i pos'] value pos) (sDPut td ty tv) := by
  intro pins s σ H D I h
  refine wpAny_Assign_Subscript (thn (hv pins s σ H _ I h) fun r s1 ⟨v, H1, I1, rv, q1⟩ => thn (ho pins s1 σ H1 _ I1 q1) fun u s2 ⟨x, H2, I2, rx, q2⟩ => thn (hi pins s2 σ H2 _ I2 q2) fun iv s3 ⟨y, H3, I3, ry, a, H4, ex, g, q3⟩ => ?_) hs
  subst ex
  obtain rfl : u = Value.ref a := rx
  exact d_setItem hu I3 g ry rv fun s4 I4 => ⟨σ, H4, I4, q3⟩
end


/-! ### displays -/
theorem dt_empty {P : Program} {w : World} {H : Hp} (h : Heap) (hb : sysModules < h.objs.size) : ObjOk P w H (h.push { cls := .type "dict", data := .dict #[] }) h.objs.size (.dT []) :=
  ⟨Nat.zero_le _, beq_eq_false_iff_ne.mpr (Ne.symm (Nat.ne_of_lt hb)), [], .nil, _, #[], 0, Heap.get?_push_size _ rfl, ⟨rfl, rfl, rfl⟩, rfl, rfl, List.nodup_nil⟩
def tDNewT : TE := fun _ H Q => ∀ p, H p = none → Q (.ref p) (upd H p (.dT []))
section
variable {X : Cx} {pos : Pos}
theorem pe_dnewT : PE X (.Dict [] [] pos) tDNewT := fun pins s σ H Q I h =>
  wpAny_Dict_empty ⟨.ref s.heap.objs.size, _, I.laid (a := s.heap.objs.size) (o := .dT []) (t' := s.toks) (fun _ _ q => Heap.get?_push_of_some _ q) (Nat.le_refl _) (dt_empty s.heap I.big), rfl, h _ (I.hok.fresh (Nat.le_refl _))⟩
end




/-! ### methods -/

/-- a is a dict, whatever its keys -/
def IsD (H : Hp) (a : Addr) : Prop := (∃ kvs, Rd H a (.dK kvs)) ∨ ∃ kvs, Rd H a (.dT kvs)
theorem isD_at {X : Cx} {pins : List (Addr × Obj)} {σ : St} {H : Hp} {s : Shared} {a : Addr} (I : Inv X pins σ H s) (d : IsD H a) :
    s.TypeIs (.ref a) "dict" ∧ (∀ b, Value.ref a = .ref b → ∃ ob, s.heap.get? b = some ob ∧ ob.dict = none) ∧ (a == sysModules) = false := by
  rcases d with ⟨kvs, e⟩ | ⟨kvs, e⟩
  · obtain ⟨_, hd, vs, _, dd⟩ := dk_rd I.hok e
    refine ⟨dd.typeIs, fun b q => ?_, hd⟩
    cases q
    obtain ⟨ob, _, _, h1, h2, _⟩ := dd
    exact ⟨ob, h1, h2.2.1⟩
  · obtain ⟨_, hd, xs, _, dd⟩ := dt_rd I.hok e
    refine ⟨dd.typeIs, fun b q => ?_, hd⟩
    cases q
    obtain ⟨ob, _, _, h1, h2, _⟩ := dd
    exact ⟨ob, h1, h2.2.1⟩

section
variable {X : Cx} {pins : List (Addr × Obj)} {σ : St} {H : Hp} {s : Shared} {a : Addr} {y d : V} {u r : Value} {o : Option V} {A : Around} {E : Value → Shared → Prop}
end

section
variable {X : Cx} {o e f : Expr} {apos cpos : Pos} {td ty tx : TE}
end

/-! ### dict(d): a copy -/
section
variable {X : Cx} {pins : List (Addr × Obj)} {σ : St} {H : Hp} {s : Shared} {a : Addr} {kvs : List (Key × V)} {A : Around} {E : Value → Shared → Prop}
end


section
variable {X : Cx} {pins : List (Addr × Obj)} {σ : St} {H : Hp} {s : Shared} {a : Addr} {y : V} {u : Value} {A : Around} {E : Value → Shared → Prop}
end
end L2

namespace L2
open PySem PySem.Spec PyProof.Rows
section
variable {X : Cx}
end
/-! ### a dict's pairs: keys that differ -/
section
variable {κ : Type} [DecidableEq κ]
end
end L2

set_option Elab.async false
set_option linter.all false
set_option maxRecDepth 100000
set_option maxHeartbeats 4000000
/-! Rules over the hand layer: max with a default, tuples compared, is, comprehensions that make things. Own work. -/
namespace L2
open PySem PySem.Spec PyProof.Rows SI
theorem args_maxD (a d : Value) : argsOk "max" ⟨[a], [("default", d)]⟩ := by unfold argsOk; kernel_rfl
section
variable {X : Cx}
theorem call_maxD (hc : X.calm = true) {pins : List (Addr × Obj)} {s : Shared} {σ : St} {H : Hp} {p : Addr} {ns : List Int} {d : Int} {td : Tok} {Q : VK} (I : Inv X pins σ H s) (hq : SqL X.K H p (ns.map V.int)) (q : Q (.int (maxI ns d)) H) :
    wpAny (model X.prog X.w) X.A (call (.builtin "max") [.ref p] [("default", .int d td)]) (EP X pins σ Q) X.xe s := by
  have hname : (toString "max" ++ toString ".loop" : String) = "max.loop" := by decide
  obtain ⟨its, rv, pl, hz⟩ := I.list hq
  have hI := intsAre_of rv
  have hp : p < s.heap.objs.size := by obtain ⟨o, ho, _⟩ := pl.isList; exact Heap.lt_size ho
  refine wpAny_call (codeAny_call_builtin F.plain_max F.entry_max ?_)
  simp only [checkBuiltinCall, F.kind_max]
  have hargs := args_maxD (.ref p) (.int d td)
  have body : wpAny (model X.prog X.w) X.A.in1 (Builtin.«max» ⟨[.ref p], [("default", .int d td)]⟩) (fun fin s' => match fin with
      | .done f => (match (Except.ok f : Result) with | .ok (.ret v) => EP X pins σ Q v s' | .ok _ => False | .error e => X.xe e s')
      | .again c' => c'.quiet = true ∧ codeAny (model X.prog X.w) X.A c' (fun r s' => match r with | .ok (.ret v) => EP X pins σ Q v s' | .ok _ => False | .error e => X.xe e s') s') X.xe s := by
    show wpAny _ X.A.in1 (Builtin.Builtins.bindParams "max" ["key", "default"] 0 ⟨[], [("default", .int d td)]⟩ >>= _) _ _ s
    refine wpAny_bind (wpAny_of_eq (show Builtin.Builtins.bindParams "max" ["key", "default"] 0 ⟨[], [("default", .int d td)]⟩ = pure [none, some (.int d td)] from rfl) ?_)
    refine wpAny_bind (wpAny_pure ?_)
    refine wpAny_bind (wpAny_pyIter_list pl.isList ?_)
    refine wpAny_bind (wpAny_newObj_type ?_)
    rw [hname]
    have hsz : (s.heap.push { cls := .type "list_iterator", data := .fields #[.ref p, .int 0 0] }).objs.size = s.heap.objs.size + 1 := Heap.size_push ..
    refine wpAny_pure ⟨plainId_quiet F.plain_max_loop _, maxD_first (its := its) (ns := ns) (I.ok.hd hc) (Nat.ne_of_gt hp) _ (by rw [hsz]; exact Nat.succ_ne_self _) (by rw [hsz]; exact Nat.ne_of_gt (Nat.lt_succ_of_lt hp)) rfl hI ⟨_, Heap.get?_push_of_some _ (Heap.get?_push_size _ rfl), rfl, rfl⟩
      ((pl.isList.push _).push _) (Heap.get?_push_size _ rfl) fun t h' tk hk => ⟨.int (maxI ns d), H, ?_, ⟨t, rfl⟩, q⟩⟩
    exact I.kept (t' := tk) fun b o e => hk b o (Nat.ne_of_lt (Heap.lt_size e)) (by rw [hsz]; exact Nat.ne_of_lt (Nat.lt_succ_of_lt (Heap.lt_size e))) (Heap.get?_push_of_some _ (Heap.get?_push_of_some _ e))
  cases hsig : Manifest.signature? "max" with
  | none => exact wpAny_pure body
  | some sig =>
    simp only [argsOk, hsig] at hargs
    have h2 : Bind.checkArgs "max" sig ⟨[.ref p], [("default", .int d td)]⟩ = pure () := hargs
    show wpAny _ X.A.in1 (Bind.checkArgs "max" sig ⟨[.ref p], [("default", .int d td)]⟩) _ _ s
    rw [h2]; exact wpAny_pure body
def tMaxD (K : PySem.W.Frag) (d : Int) (t : TA) : TE := fun σ H Q => t σ H fun vs H1 => ∃ p ns, vs = [.ref p] ∧ SqL K H1 p (ns.map V.int) ∧ Q (.int (maxI ns d)) H1
theorem pe_maxD {e : Expr} {t : TA} {p pos kp kpos : Pos} {d : Int} {j : Nat} (hc : X.calm = true) (hg : Gl X "max") (hm : X.mg "max" = none) (ha : PA X [e] t)
    (he : backTo pos (starEach [e] X.env) = [(false, eval e X.env)] := by rfl) :
    PE X (.Call (.Name "max" p) [e] [⟨some "default", .Constant (.int d) j kp, kpos⟩] pos) (tMaxD X.K d t) := by
  intro pins s σ H Q I h
  refine wpAny_Call_Name_kw (ld_blt I hg hm bt_max ?_)
  refine callWith_kw (thn (ha pos pins s σ H _ I h) fun us s1 ⟨vs, H1, I1, r1, q1⟩ => ?_) he (by rw [he]; rfl)
  refine thn (pk_cons (nm := some "default") (kpos := kpos) (pe_int (i := d) (j := j) (pos := kp)) pk_nil pos pins s1 σ H1 (fun zs H2 => zs = [.int d] ∧ H2 = H1) I1 ⟨rfl, rfl⟩) fun ws s2 ⟨zs, H2, I2, rz, ez, eH⟩ => ?_
  subst ez eH
  obtain ⟨u, rfl, t', rfl⟩ := vals1 rz
  obtain ⟨a, ns, rfl, hq, q⟩ := q1
  obtain ⟨u, rfl, rx⟩ := vals1 r1
  cases rx
  exact call_maxD hc I2 hq q
/-! ### tuples compared -/
def rEqT (K : PySem.W.Frag) (neg : Bool) : R2 := fun x y H Q => ∃ a b xs ys, x = .ref a ∧ y = .ref b ∧ SqT K H a xs ∧ SqT K H b ys ∧ xs.all flatV = true ∧ ys.all flatV = true ∧ Q (.bl (if neg then !eqVs xs ys else eqVs xs ys)) H
theorem eqVs_min {xs ys : List V} : eqVs xs ys = ((List.range (min xs.length ys.length)).all (fun i => eqV (xs.getD i .non) (ys.getD i .non)) && xs.length == ys.length) := by
  by_cases hl : xs.length = ys.length
  · rw [eqVs_all hl, hl]; simp
  · rw [eqVs_ne hl]; simp [hl]
theorem op_eqT (hu : X.A.units + 1 < cLine) : OpR X (compareOp .Eq) (rEqT X.K false) := by
  intro pins s σ H x y v u Q I rx ry h
  obtain ⟨a, b, xs, ys, rfl, rfl, ha, hb, fx, fy, q⟩ := h
  cases rx
  cases ry
  obtain ⟨i1, r1, p1, z1⟩ := I.tuple ha
  obtain ⟨i2, r2, p2, z2⟩ := I.tuple hb
  have l1 := r1.length
  have l2 := r2.length
  refine SeqAt.eq_tupleAt (e := fun i => eqV (xs.getD i .non) (ys.getD i .non)) (show s.heap.IsTuple a i1.toArray from p1) (show s.heap.IsTuple b i2.toArray from p2) (by omega) (fun j h1 h2 => ?_) ⟨.bl (eqVs xs ys), H, I, ?_, q⟩
  · simp only [List.size_toArray] at h1 h2
    have j1 : j < xs.length := by omega
    have j2 : j < ys.length := by omega
    obtain ⟨u1, e1, s1⟩ := r1.get (List.getElem?_eq_getElem j1)
    obtain ⟨u2, e2, s2⟩ := r2.get (List.getElem?_eq_getElem j2)
    rw [List.getElem?_eq_getElem h1] at e1
    rw [List.getElem?_eq_getElem h2] at e2
    cases e1
    cases e2
    have := eqAt_V (A := X.A.in1) (s := s) s1 s2 (List.all_eq_true.mp fx _ (List.getElem_mem j1)) (List.all_eq_true.mp fy _ (List.getElem_mem j2))
    simpa [List.getD, j1, j2] using this
  · show Value.bool _ = Value.bool _
    rw [eqVs_min, List.size_toArray, List.size_toArray, ← l1, ← l2]
/-! ### is, of bools -/
end
/-! ### comprehensions over a list, of which each element may make things -/
theorem lc_grow {K : PySem.W.Frag} {a : Addr} {xs : List V} {i : Nat} {te : TE} {σ : St} {H : Hp} {D : Addr} {Q : Hp → Prop} (P : Nat → List V → Hp → Prop) (hD : H D = none) (hl : SqL K H a xs) (hn : xs.length ≤ sizeLine)
    (h0 : P 0 [] (upd H D (.lst [])))
    (he : ∀ (k : Nat) x (v : Option V) (ys : List V) (H1 : Hp) (R : VK), xs[k]? = some x → ys.length = k → Same H H1 → H1 D = some (.lst ys) → P k ys H1 → (∀ y H2, Same H1 H2 → P (k + 1) (ys ++ [y]) (upd H2 D (.lst (ys ++ [y]))) → R y H2) → te ((σ.set i v).set i (some x)) H1 R)
    (hq : ∀ ys H1, ys.length = xs.length → Same H H1 → H1 D = some (.lst ys) → P xs.length ys H1 → Q H1) :
    ∃ W : Nat → Nat → List V → St → Hp → Prop, (∃ m, W 0 m [] σ (upd H D (.lst []))) ∧ lcTurn (Itl K a) D (gName i) tYes te Q W := by
  refine ⟨fun k m ys σ' H' => m = xs.length - k ∧ k ≤ xs.length ∧ ys.length = k ∧ (σ' = σ ∨ ∃ v, σ' = σ.set i v) ∧ Same H H' ∧ H' D = some (.lst ys) ∧ P k ys H', ⟨xs.length, by simp, Nat.zero_le _, rfl, .inl rfl, same_upd hD, upd_same, h0⟩, ?_⟩
  rintro k m ys σ' H' ⟨rfl, hk, hlen, hσ, hS, hDD, hP⟩
  have hl' := hS.seq hl
  by_cases hlt : k < xs.length
  · refine .inr ⟨⟨xs, xs[k], hl', by simp [hlt]⟩, fun x H2 hy => ?_⟩
    obtain ⟨rfl, hy⟩ := hy
    have hx := hy xs hl'
    show te (σ'.set i _) _ _
    have hσ' : ∃ v, σ'.set i (some x) = (σ.set i v).set i (some x) := by
      rcases hσ with rfl | ⟨v, rfl⟩
      · exact ⟨none, by rw [List.set_set]⟩
      · exact ⟨v, rfl⟩
    obtain ⟨v, ev⟩ := hσ'
    have hσ2 : ∃ v', σ'.set i (some x) = σ.set i v' := ⟨some x, by rw [ev, List.set_set]⟩
    rw [ev]
    refine he k x v ys _ _ hx hlen hS hDD hP fun y H3 hS3 hP3 => ?_
    have hD3 := hS3 _ _ hDD
    refine ⟨hD3, by omega, xs.length - (k + 1), by omega, rfl, hlt, by simp [hlen], by rw [← ev]; exact .inr hσ2, fun b o e => ?_, upd_same, hP3⟩
    have hne : b ≠ D := fun z => by rw [z, hD] at e; cases e
    rw [upd_ne hne]
    exact hS3 _ _ (hS _ _ e)
  · have e : k = xs.length := by omega
    subst e
    exact .inl ⟨⟨xs, hl', Nat.le_refl _⟩, hq ys _ hlen hS hDD hP⟩
end L2

set_option Elab.async false
set_option linter.all false
set_option maxRecDepth 100000
set_option maxHeartbeats 4000000
/-! dicts: a copy, clear, == and != of alike ones; f-strings of a str and an int. Own work. -/
namespace DQ
open PySem PyProof.Rows
section
variable {prog : Program} {w : World} {κ : Type} [DecidableEq κ] {knd : PySem.KeyKind prog w κ} {A : Around} {E : Value → Shared → Prop} {s : Shared}
end
end DQ
namespace L2
open PySem PySem.Spec PyProof.Rows
section
variable {X : Cx}
end
end L2

set_option Elab.async false
set_option linter.all false
set_option maxRecDepth 100000
set_option maxHeartbeats 4000000
/-! dict(a list of pairs). Own work. -/
namespace DK
open PySem PyProof.Rows
theorem list_no_keys : typeLookup (.type "list") "keys" = pure none := am_miss_of_fast (by kernel_rfl)
theorem keys_miss {prog : Program} {w : World} {A : Around} {E : Value → Shared → Prop} {s : Shared} {a : Addr} {o : Obj} {xs : Array Value} {k : Nat} {Q : Option Value → Shared → Prop}
    (hx : s.heap.get? a = some o) (hc : o.cls = .type "list") (hdat : o.data = .seq xs k) (hd : o.dict = none) (hA : A.handled = none)
    (h : ∀ h' tk, (∀ b ob, s.heap.get? b = some ob → h'.get? b = some ob) → Q none { s with heap := h', toks := tk }) :
    wpAny (model prog w) A (getAttr? (.ref a) "keys") Q E s := by
  obtain ⟨c, dct, dat, sl⟩ := o
  simp only at hc hdat hd
  subst hc hdat hd
  obtain ⟨hp, g, d, tk, os⟩ := s
  have hT : ∀ tk', (⟨hp, g, d, tk', os⟩ : Shared).TypeIs (.ref a) "list" := fun _ => ⟨_, hx, rfl⟩
  have f1 := sub_AttributeError
  have f3 := F.slot_list_getattribute.lookup
  have f4 := F.slot_list_getattribute.bind (.ref a)
  have f5 := am_list_getattr_none
  unfold getAttr? getAttrBy? getAttrBy
  repeat (any_goals (first | assumption | exact hT _ | ((with_reducible show wpAny _ _ (call (Value.builtin "list.__getattribute__") _ _) _ _ _); refine call_meets F.slot_list_getattribute (hT _) am_entry_list_getattribute (F.args_list_getattribute_2 _ _) (meets_getattribute_miss_list a xs k sl "keys" _ list_no_keys (by decide +kernel)) ⟨hx, by simpa using hA, fun h' tk' e hx' => ?_⟩) | wp_step))
  obtain ⟨t', u', he⟩ := hx'.there
  show wpAny _ _ (getattributeRaised _ _ _ _ _ _ _) _ _ _
  unfold getattributeRaised
  repeat (any_goals (first | assumption | wp_step))
  exact h _ _ hx'.keeps
namespace F
theorem entry_dict_loop : entryFor table "dict.update.loop" = some Builtin.«dict.update.loop» := entryFor_of_tree (by kernel_rfl)
theorem plain_dict_loop : plainId "dict.update.loop" = true := by decide +kernel
end F
section
variable {prog : Program} {w : World} {κ : Type} [DecidableEq κ] {knd : PySem.KeyKind prog w κ} {A : Around} {R : Result → Shared → Prop} {I : Addr} {fp wr : List Addr} {G : Array GenState → Array GenState → Prop} {n : Nat} {P : Nat → Value → Prop} {St : Nat → Shared → Prop}
end
section
variable {prog : Program} {w : World} {κ : Type} [DecidableEq κ] {knd : PySem.KeyKind prog w κ} {A : Around} {E : Value → Shared → Prop} {s : Shared}
end
end DK
namespace L2
open PySem PySem.Spec PyProof.Rows
variable {X : Cx}
end L2

set_option Elab.async false
set_option linter.all false
set_option maxRecDepth 100000
set_option maxHeartbeats 4000000
/-! dict(a list of pairs) whose keys are tuples. Own work. -/
namespace DT
open PySem PyProof.Rows
section
variable {prog : Program} {w : World} {κ : Type} [DecidableEq κ] {knd : PySem.KeyKind prog w κ}
theorem key_frame {h h' : Heap} {ks : List κ} {a : Addr} (hk : (tupleKind knd).is h ks a) (e : ∀ o, h.get? a = some o → h'.get? a = some o) : (tupleKind knd).is h' ks a := by
  obtain ⟨o, its, n, h1, h2, h3, h4⟩ := hk
  exact ⟨o, its, n, e _ h1, h2, h3, h4⟩
theorem dh_frame {h h' : Heap} {d : Addr} {xs : List (List κ × Addr × Value)} (hD : h.DictOfH (tupleKind knd) d xs) (ed : ∀ o, h.get? d = some o → h'.get? d = some o) (ek : ∀ x ∈ xs, ∀ o, h.get? x.2.1 = some o → h'.get? x.2.1 = some o) : h'.DictOfH (tupleKind knd) d xs := by
  obtain ⟨o, es, ep, h1, h2, h3, h4, h5, h6⟩ := hD
  exact ⟨o, es, ep, ed _ h1, h2, h3, h4, fun x hx => key_frame (h5 x hx) (ek x hx), h6⟩
theorem storedH_adr {xs : List (List κ × Addr × Value)} {k : List κ} {a : Addr} {v : Value} {x : List κ × Addr × Value} (hx : x ∈ storedH xs k a v) : x.2.1 = a ∨ ∃ y ∈ xs, x.2.1 = y.2.1 := by
  unfold storedH at hx
  split at hx
  · obtain ⟨y, hy, rfl⟩ := List.mem_map.mp hx
    refine .inr ⟨y, hy, ?_⟩
    unfold putAt
    split <;> rfl
  · rcases List.mem_append.mp hx with hx | hx
    · exact .inr ⟨x, hx, rfl⟩
    · rw [List.mem_singleton.mp hx]; exact .inl rfl
theorem storedH_len (xs : List (List κ × Addr × Value)) (k : List κ) (a : Addr) (v : Value) : (storedH xs k a v).length ≤ xs.length + 1 := by
  unfold storedH
  split
  · rw [List.length_map]; omega
  · rw [List.length_append, List.length_singleton]; exact Nat.le_refl _
variable {A : Around} {R : Result → Shared → Prop} {I : Addr} {fp wr : List Addr} {G : Array GenState → Array GenState → Prop} {n : Nat} {P : Nat → Value → Prop} {St : Nat → Shared → Prop}
theorem dict_loopT (W : WalksS prog w A.in1 I fp wr G n P St) (d : Addr) (hdf : d ∉ fp) (hroom : A.units + 1 < cLine) (h0 : Heap) (key : Nat → List κ) (kad : Nat → Addr) (val : Nat → Value)
    (hp : ∀ j v, P j v → ∃ t, v = .ref t ∧ t ∉ d :: wr ∧ kad j ∉ d :: wr ∧ h0.IsTuple t #[.ref (kad j), val j] ∧ (tupleKind knd).is h0 (key j) (kad j)) :
    ∀ (k i : Nat) (s : Shared) (z : Int) (xs : List (List κ × Addr × Value)), n - i = k → i ≤ n → St i s → (∀ b o, b ∉ d :: wr → h0.get? b = some o → s.heap.get? b = some o) →
      s.heap.DictOfH (tupleKind knd) d xs → (∀ x ∈ xs, x.2.1 ∉ d :: wr) → xs.length + k ≤ sizeLine →
      (∀ s', Moved (d :: wr) G s s' → s'.heap.DictOfH (tupleKind knd) d ((List.range' i k).foldl (fun a j => storedH a (key j) (kad j) (val j)) xs) → R (.ok (.ret .none)) s') →
      codeAny (model prog w) A (.builtin "dict.update.loop" ⟨[.ref d, .ref I, rawInt z, .none], []⟩) R s := by
  have hdw : d ∉ wr := fun h => hdf (W.sub _ h)
  have hsub : ∀ b ∈ wr, b ∈ d :: wr := fun b hb => List.mem_cons_of_mem _ hb
  intro k
  induction k with
  | zero =>
    intro i s z xs hk hi hst hkp hD hxa hz hR
    have hin : i = n := by omega
    subst hin
    refine codeAny_builtin DK.F.entry_dict_loop ?_
    rw [Around.under_plainId DK.F.plain_dict_loop _]
    show wpAny _ A.in1 (pyNext (.ref I) >>= _) _ _ s
    refine wpAny_bind (W.done s _ _ hst fun s' hm => ?_)
    show wpAny _ A.in1 (Builtin.Dict.addKeywords d [] >>= _) _ _ s'
    refine wpAny_bind (wpAny_pure ?_)
    exact wpAny_pure (hR s' (hm.mono hsub) (dh_frame hD (fun o ho => hm.heap d _ hdw ho) fun x hx o ho => hm.heap _ _ (fun h => hxa x hx (hsub _ h)) ho))
  | succ k ih =>
    intro i s z xs hk hi hst hkp hD hxa hz hR
    have hlt : i < n := by omega
    refine codeAny_builtin DK.F.entry_dict_loop ?_
    rw [Around.under_plainId DK.F.plain_dict_loop _]
    show wpAny _ A.in1 (pyNext (.ref I) >>= _) _ _ s
    refine wpAny_bind (W.item i s _ _ hlt hst fun v s' hP hst' hm => ?_)
    obtain ⟨t, rfl, htw, hkw, htu, hkv⟩ := hp i v hP
    have hkp' : ∀ b o, b ∉ d :: wr → h0.get? b = some o → s'.heap.get? b = some o := fun b o hb e => hm.heap b _ (fun h => hb (hsub _ h)) (hkp b o hb e)
    have hD' := dh_frame (h' := s'.heap) hD (fun o ho => hm.heap d _ hdw ho) fun x hx o ho => hm.heap _ _ (fun h => hxa x hx (hsub _ h)) ho
    have hkv' : (tupleKind knd).is s'.heap (key i) (kad i) := key_frame hkv fun o e => hkp' _ o hkw e
    obtain ⟨ot, hot, hct, nt, hdt⟩ := htu
    have hot' := hkp' _ _ htw hot
    show wpAny _ A.in1 (holding [Value.ref t] (tryCatch (Builtin.Dict.pairItems (.ref t)) _ >>= _) >>= _) _ _ s'
    refine wpAny_bind (wpAny_holding (wpAny_bind (wpAny_tryCatch ?_)))
    unfold Builtin.Dict.pairItems
    have hT : s'.TypeIs (.ref t) "tuple" := ⟨_, hot', hct⟩
    refine wpAny_bind (wpAny_typeOf hT ?_)
    rw [if_pos (by decide)]
    refine wpAny_bind (wpAny_seqItems hot' hdt (wpAny_pure ?_))
    show wpAny _ A.in1 (holding [.ref (kad i), val i] (dictSet d (.ref (kad i)) (val i))) _ _ s'
    refine wpAny_holding (wpAny_dictSet_heap (knd := tupleKind knd) (tupleKind_room_in1 hroom) hkv' hD' (fun h' hD2 hsb => ?_) (by omega))
    have hl2 := storedH_len xs (key i) (kad i) (val i)
    refine wpAny_pure ⟨plainId_quiet DK.F.plain_dict_loop _, ih (i + 1) _ (z + 1) _ (by omega) hlt (W.frame _ s' _ _ hst' (Nat.le_add_right _ _) fun b hb o e => ?_) (fun b o hb e => ?_) hD2 (fun x hx => ?_) (by omega) fun s'' hm'' hD'' => ?_⟩
    · exact hsb.extBut b o (fun h : b = d => hdf (by rw [← h]; exact hb)) e
    · exact hsb.extBut b o (fun h : b = d => hb (by rw [h]; exact List.mem_cons_self)) (hkp' b o hb e)
    · rcases storedH_adr hx with e | ⟨y, hy, e⟩
      · rw [e]; exact hkw
      · rw [e]; exact hxa y hy
    · refine hR s'' (Moved.trans W.gtrans ((hm.mono hsub).then_heap (Nat.le_add_right _ _) fun b o hb e => ?_) hm'') (by rw [List.range'_succ]; exact hD'')
      exact hsb.extBut b o (fun h : b = d => hb (by rw [h]; exact List.mem_cons_self)) e
variable {E : Value → Shared → Prop} {s : Shared}
theorem call_pairsT {l : Addr} {items : Array Value} {o : Obj} {nn : Nat} {Q : Value → Shared → Prop} (hh : A.handled = none) (hroom : A.units + 64 < cLine) (hx : s.heap.get? l = some o) (hc : o.cls = .type "list") (hdat : o.data = .seq items nn) (hd : o.dict = none)
    (key : Nat → List κ) (kad : Nat → Addr) (val : Nat → Value) (hp : ∀ (j : Nat) v, items[j]? = some v → ∃ t, v = .ref t ∧ s.heap.IsTuple t #[.ref (kad j), val j] ∧ (tupleKind knd).is s.heap (key j) (kad j)) (hz : items.size ≤ sizeLine)
    (h : ∀ h' tk, h'.DictOfH (tupleKind knd) s.heap.objs.size ((List.range items.size).foldl (fun a j => storedH a (key j) (kad j) (val j)) []) → (∀ b o, s.heap.get? b = some o → h'.get? b = some o) → Q (.ref s.heap.objs.size) { s with heap := h', toks := tk }) :
    wpAny (model prog w) A (call (.type "dict") [.ref l]) Q E s := by
  refine callType_codes (Q₁ := fun obj s₁ => obj = .ref s.heap.objs.size ∧ s₁ = { s with heap := s.heap.push { cls := .type "dict", data := .dict #[] } }) PySem.F.kt_called_dict (PySem.F.kt_typeCall_dict_1 _) PySem.F.entry_dict_init (kt_code_dict_new _ ⟨rfl, rfl⟩) ?_
  rintro obj s₁ ⟨rfl, rfl⟩
  have hnew : (s.heap.push { cls := .type "dict", data := .dict #[] }).DictOfH (tupleKind knd) s.heap.objs.size [] := Heap.DictOfH.new s.heap
  have hl1 : (s.heap.push { cls := .type "dict", data := .dict #[] }).get? l = some o := Heap.get?_push_of_some _ hx
  refine ⟨hnew.typeIs, PySem.F.args_dict_init_2 _ _, ?_⟩
  unfold Builtin.«dict.__init__»
  refine wpAny_bind ?_
  unfold Builtin.Dict.selfAndRest
  refine wpAny_bind (wpAny_notOrdered_dict hnew.typeIs ?_)
  show wpAny _ _ (pure (s.heap.objs.size, [Value.ref l])) _ _ _
  refine wpAny_pure ?_
  show wpAny _ _ (Builtin.Dict.updateFrom "dict.__init__" s.heap.objs.size (.ref l) [] .none) _ _ _
  unfold Builtin.Dict.updateFrom
  refine wpAny_bind (wpAny_typeOf (T := "list") ⟨_, hl1, hc⟩ ?_)
  rw [if_pos (by decide)]
  refine wpAny_bind (DK.keys_miss hl1 hc hdat hd (by simpa using hh) fun h2 tk2 hk2 => ?_)
  show wpAny _ _ (rule _ >>= fun _ => pyIter (Value.ref l) >>= _) _ _ _
  refine wpAny_bind (wpAny_rule ?_)
  have hL2 : h2.IsList l items := ⟨_, hk2 _ _ hl1, hc, _, hdat⟩
  refine wpAny_bind (wpAny_pyIter_list hL2 ?_)
  have hlt : l < s.heap.objs.size := Heap.lt_size hx
  have hs1 : s.heap.objs.size < h2.objs.size := by
    obtain ⟨o', es, ep, ho', _⟩ := hnew
    exact Heap.lt_size (hk2 _ _ ho')
  have hneI : l ≠ h2.objs.size := Nat.ne_of_lt (Nat.lt_trans hlt hs1)
  have hk3 : ∀ b ob, s.heap.get? b = some ob → (h2.push { cls := .type "list_iterator", data := .fields #[.ref l, .int 0 0] }).get? b = some ob := fun b ob e => Heap.get?_push_of_some _ (hk2 _ _ (Heap.get?_push_of_some _ e))
  refine wpAny_pure ⟨plainId_quiet DK.F.plain_dict_loop _, dict_loopT (knd := knd) ((Walks.list (by simpa using hh) h2.objs.size l hneI items).toS) s.heap.objs.size ?_ ?_ s.heap key kad val (fun j v hj => ?_) (items.size - 0) 0 _ 0 [] rfl (Nat.zero_le _) ⟨⟨_, Heap.get?_push_size _ rfl, rfl, rfl⟩, hL2.push _⟩ (fun b ob hb e => hk3 b ob e) ?_ (fun x hx => nomatch hx) (by simpa using hz) fun s' hm hD => ?_⟩
  · simp only [List.mem_cons, List.not_mem_nil, or_false, not_or]; exact ⟨Nat.ne_of_lt hs1, Nat.ne_of_gt hlt⟩
  · simp; omega
  · obtain ⟨t, rfl, htu, hk⟩ := hp j v hj
    have h1 : t < s.heap.objs.size := by obtain ⟨ot, hot, _⟩ := htu; exact Heap.lt_size hot
    have h2' : kad j < s.heap.objs.size := by obtain ⟨ot, _, _, hot, _⟩ := hk; exact Heap.lt_size hot
    exact ⟨t, rfl, by simp only [List.mem_cons, List.not_mem_nil, or_false, not_or]; exact ⟨Nat.ne_of_lt h1, Nat.ne_of_lt (Nat.lt_trans h1 hs1)⟩, by simp only [List.mem_cons, List.not_mem_nil, or_false, not_or]; exact ⟨Nat.ne_of_lt h2', Nat.ne_of_lt (Nat.lt_trans h2' hs1)⟩, htu, hk⟩
  · obtain ⟨o', es, ep, ho', rest⟩ := hnew
    exact ⟨o', es, ep, Heap.get?_push_of_some _ (hk2 _ _ ho'), rest.1, rest.2.1, rest.2.2.1, (fun x hx => nomatch hx), rest.2.2.2.2⟩
  · obtain ⟨h', g', d', tk', os'⟩ := s'
    have eg : g' = s.gens := hm.gens
    have ed : d' = s.drawn := hm.drawn
    have eo : os' = s.os := hm.os
    subst eg; subst ed; subst eo
    refine ⟨rfl, h h' tk' (by rw [List.range_eq_range']; exact hD) fun b ob e => ?_⟩
    have hb : b < s.heap.objs.size := Heap.lt_size e
    exact hm.heap b ob (by simp only [List.mem_cons, List.not_mem_nil, or_false, not_or]; exact ⟨Nat.ne_of_lt hb, Nat.ne_of_lt (Nat.lt_trans hb hs1)⟩) (hk3 _ _ e)
end
end DT
namespace L2
open PySem PySem.Spec PyProof.Rows
variable {X : Cx}
/-- the dict of these pairs -/
def dOfT (kvl : List (List Key × V)) : List (List Key × V) := kvl.foldl (fun a p => putK a p.1 p.2) []
theorem kt_fold {H : Hp} {kvl : List (List Key × V)} {n : Nat} {key : Nat → List Key} {kad : Nat → Addr} {val : Nat → Value} (hk : ∀ i, i < n → ∃ v, kvl[i]? = some (key i, v) ∧ H (kad i) = some (.tup ((key i).map kV)) ∧ RelV v (val i)) : KT H ((kvl.take n).foldl (fun a p => putK a p.1 p.2) []) ((List.range n).foldl (fun a j => storedH a (key j) (kad j) (val j)) []) := by
  induction n with
  | zero => exact .nil
  | succ n ih =>
    obtain ⟨v, e, hb, r⟩ := hk n (Nat.lt_succ_self _)
    rw [List.take_succ, e, List.foldl_append, List.range_succ, List.foldl_append]
    exact (ih fun i hi => hk i (Nat.lt_succ_of_lt hi)).put (key n) hb r
theorem dOfT_len (kvl : List (List Key × V)) : (dOfT kvl).length ≤ kvl.length := by
  unfold dOfT
  have : ∀ (a b : List (List Key × V)), (a.foldl (fun a p => putK a p.1 p.2) b).length ≤ b.length + a.length := fun a => by
    induction a with
    | nil => intro b; simp
    | cons p r ih => intro b; rw [List.foldl_cons]; have := ih (putK b p.1 p.2); have := length_putK b p.1 p.2; rw [List.length_cons]; omega
  simpa using this kvl []
/-- dict(a list of pairs), the keys tuples -/
theorem call_dpairsK (hc : X.calm = true) (hu : X.A.units + 64 < cLine) : CallR X (.type "dict") (fun xs H Q => ∃ (p : Addr) (vs : List V) (kvl : List (List Key × V)), xs = [.ref p] ∧ H p = some (.lst vs) ∧ vs.length = kvl.length ∧ (∀ (i : Nat) kv, kvl[i]? = some kv → ∃ t b, vs[i]? = some (.ref t) ∧ H t = some (.tup [.ref b, kv.2]) ∧ H b = some (.tup (kv.1.map kV))) ∧ ∀ l, H l = none → Q (.ref l) (upd H l (.dT (dOfT kvl)))) := by
  intro pins s σ H xs us Q I r h
  obtain ⟨p, vs, kvl, rfl, hp, hlen, hpr, q⟩ := h
  obtain ⟨u, rfl, rx⟩ := vals1 r
  cases rx
  obtain ⟨hz, its, nn, rv, hget⟩ := I.hok p _ hp
  have hl2 : its.length = kvl.length := by rw [← rv.length, hlen]
  have hpair : ∀ (j : Nat), ∃ ub : Value × Addr, ∀ v, its.toArray[j]? = some v → ∃ t, v = .ref t ∧ s.heap.IsTuple t #[.ref ub.2, ub.1] ∧ (tupleKind (mixKind X.prog X.w)).is s.heap ((kvl[j]?.map (·.1)).getD []) ub.2 ∧ H ub.2 = some (.tup (((kvl[j]?.map (·.1)).getD []).map kV)) ∧ ∃ y, kvl[j]? = some ((kvl[j]?.map (·.1)).getD [], y) ∧ RelV y ub.1 := fun j => by
    cases e : its.toArray[j]? with
    | none => exact ⟨(.none, 0), fun v e' => by cases e'⟩
    | some v =>
      have e' : its[j]? = some v := by simpa using e
      have hj : j < kvl.length := by rw [← hl2]; exact (List.getElem?_eq_some_iff.mp e').1
      obtain ⟨t, b, et, ht, hb⟩ := hpr j _ (List.getElem?_eq_getElem hj)
      obtain ⟨ht1, its2, rt, hT⟩ := I.hok t _ ht
      obtain ⟨u1, u2, rfl, r1, r2⟩ := vals2 rt
      have eb : u1 = .ref b := r1
      subst eb
      have ev : v = .ref t := by
        obtain ⟨v', e1, r'⟩ := Vals.get rv et
        rw [e'] at e1
        cases e1
        exact r'
      refine ⟨(u2, b), fun v' ev' => ?_⟩
      cases ev'
      rw [List.getElem?_eq_getElem hj]
      exact ⟨t, ev, hT.tup, key_of I.hok hb, hb, kvl[j].2, rfl, r2⟩
  obtain ⟨ub, hub⟩ := Classical.axiomOfChoice hpair
  refine DT.call_pairsT (knd := mixKind X.prog X.w) (o := { cls := .type "list", data := .seq its.toArray nn }) (I.ok.hd hc) hu hget rfl rfl rfl (fun j => (kvl[j]?.map (·.1)).getD []) (fun j => (ub j).2) (fun j => (ub j).1) (fun j v e => ?_) (by rw [List.size_toArray, ← rv.length]; exact hz) fun h' tk hD hk => ?_
  · obtain ⟨t, e1, e2, e3, _⟩ := hub j v e
    exact ⟨t, e1, e2, e3⟩
  · rw [show its.toArray.size = kvl.length from hl2] at hD
    have hkv := kt_fold (H := H) (kvl := kvl) (n := kvl.length) (key := fun j => (kvl[j]?.map (·.1)).getD []) (kad := fun j => (ub j).2) (val := fun j => (ub j).1) (fun i hi => by
      have hi2 : i < its.toArray.size := by rw [List.size_toArray, hl2]; exact hi
      obtain ⟨t, _, _, _, hb, y, e1, e2⟩ := hub i _ (Array.getElem?_eq_getElem hi2)
      exact ⟨y, e1, hb, e2⟩)
    rw [List.take_length] at hkv
    have hl3 := dOfT_len kvl
    obtain ⟨o', es, ep, ho', h2, h3, h4, _, h5⟩ := hD
    have hf := I.hok.fresh (Nat.le_refl s.heap.objs.size)
    refine ⟨.ref s.heap.objs.size, _, I.laid (t' := tk) hk (Nat.le_refl _) (o := .dT (dOfT kvl)) ⟨by rw [hlen] at hz; exact Nat.le_trans hl3 hz, ?_, _, hkv.keeps fun c ys ec => ?_, o', es, ep, ho', h2, h3, h4, h5⟩, rfl, q _ hf⟩
    · have := I.big
      exact beq_false_of_ne (Nat.ne_of_gt this)
    · rw [upd_ne (ne_of_none ec hf)]; exact ec
end L2

set_option Elab.async false
set_option linter.all false
set_option maxRecDepth 100000
set_option maxHeartbeats 4000000
/-! dicts whose keys are tuples: == and != of alike ones. Own work. -/
namespace DT
open PySem PyProof.Rows
section
variable {prog : Program} {w : World} {κ : Type} [DecidableEq κ] {knd : PySem.KeyKind prog w κ} {A : Around} {E : Value → Shared → Prop} {s : Shared}
theorem samePairs_trueH {nm : String} {a b : Addr} {v1 v2 : List (List κ × Addr × Value)} {Q : Bool → Shared → Prop} (hr : A.units < cLine) (ha : s.heap.DictOfH (tupleKind knd) a v1) (hb : s.heap.DictOfH (tupleKind knd) b v2) (sa : (a == sysModules) = false) (sb : (b == sysModules) = false) (hl : v1.length = v2.length)
    (hv : ∀ (i : Nat) k p v, v1[i]? = some (k, p, v) → ∃ p' v', v2[i]? = some (k, p', v') ∧ ∀ (A : Around) (E : Value → Shared → Prop) (Q : Bool → Shared → Prop), Q true s → wpAny (model prog w) A (eqBool v v') Q E s) (h : Q true s) :
    wpAny (model prog w) A (Builtin.Dict.samePairs nm a b) Q E s := by
  obtain ⟨oa, ea, pa, hoa, hca, hda, hka, hpa, hna⟩ := id ha
  obtain ⟨ob, eb, pb, hob, hcb, hdb, hkb, hpb, hnb⟩ := id hb
  have la : v1.length = ea.size := by have := congrArg List.length hka; simpa using this.symm
  have lb : v2.length = eb.size := by have := congrArg List.length hkb; simpa using this.symm
  have hne : ¬ (ea.size != eb.size) = true := by simp; omega
  unfold Builtin.Dict.samePairs Builtin.Dict.showsAll
  rw [if_neg (by rw [sa]; exact Bool.false_ne_true), if_neg (by rw [sb]; exact Bool.false_ne_true)]
  refine wpAny_bind (wpAny_pure ?_)
  refine wpAny_bind (wpAny_pure ?_)
  refine wpAny_bind (wpAny_dictEntries hoa hda ?_)
  refine wpAny_bind (wpAny_dictEntries hob hdb ?_)
  rw [if_neg hne]
  refine wpAny_bind (wpAny_dictEpoch hoa hda ?_)
  refine wpAny_bind ?_
  rw [Std.Legacy.Range.forIn_eq_forIn_range']
  simp only [Std.Legacy.Range.size, Nat.sub_zero, Nat.add_sub_cancel, Nat.div_one]
  refine wpAny_forIn_list _ (fun rest b s' => ∃ i, s' = s ∧ rest = List.range' i (ea.size - i) ∧ i ≤ ea.size ∧ b.1 = none) _ ?_ ?_ _ _ ⟨0, rfl, by simp, Nat.zero_le _, rfl⟩
  · rintro x rest b s' ⟨i, rfl, hr', hi, hbn⟩
    have hlt : i < ea.size := by
      rcases Nat.lt_or_ge i ea.size with h | h
      · exact h
      · rw [Nat.sub_eq_zero_of_le h] at hr'; simp at hr'
    obtain ⟨rfl, hrest⟩ : x = i ∧ rest = List.range' (i + 1) (ea.size - (i + 1)) := by
      have e : ea.size - i = (ea.size - (i + 1)) + 1 := by omega
      rw [e, List.range'_succ] at hr'
      injection hr' with h1 h2
      exact ⟨h1, h2⟩
    refine wpAny_bind (wpAny_dictEntries hoa hda ?_)
    obtain ⟨kv, hkv⟩ : ∃ kv, v1[x]? = some kv := ⟨v1[x]'(by rw [la]; exact hlt), List.getElem?_eq_getElem _⟩
    obtain ⟨k, p, v⟩ := kv
    have hentry : ea[x]? = some (entryOfKey (tupleKind knd) (k, p, v)) := by rw [entry_at hka x, hkv]; rfl
    rw [hentry]
    obtain ⟨p', v', ev', heq⟩ := hv x k p v hkv
    refine wpAny_bind (wpAny_holding ?_)
    have hkey : (tupleKind knd).is s'.heap k p := hpa (k, p, v) (List.mem_of_getElem? hkv)
    refine wpAny_bind (wpAny_dictFind_heap (knd := tupleKind knd) (k := k) hr hkey hob hdb hkb hpb hnb (fun no => absurd ev' (no x (p', v'))) fun j q hj => ?_)
    obtain rfl := idxH_unique hnb hj ev'
    have he : eb[j]? = some (entryOfKey (tupleKind knd) (k, p', v')) := by rw [entry_at hkb j, ev']; rfl
    refine wpAny_bind (wpAny_dictEntries hob hdb ?_)
    rw [he]
    refine wpAny_holding ?_
    refine heq _ _ _ ?_
    refine wpAny_bind (wpAny_dictEpoch hoa hda ?_)
    rw [if_neg (by simp)]
    exact wpAny_pure ⟨j + 1, rfl, hrest, hlt, rfl⟩
  · rintro b s' ⟨i, rfl, hr', hi, hbn⟩
    obtain ⟨b1, b2⟩ := b
    cases hbn
    exact wpAny_pure h
theorem meets_neH {v1 v2 : List (List κ × Addr × Value)} (a b : Addr) (sa : (a == sysModules) = false) (sb : (b == sysModules) = false) (hl : v1.length = v2.length) :
    MeetsIn prog w (Builtin.«dict.__ne__» ⟨[.ref a, .ref b], []⟩) (fun A R s => A.units + 1 < cLine ∧ s.heap.DictOfH (tupleKind knd) a v1 ∧ s.heap.DictOfH (tupleKind knd) b v2 ∧
      (∀ (i : Nat) k p v, v1[i]? = some (k, p, v) → ∃ p' v', v2[i]? = some (k, p', v') ∧ ∀ (A : Around) (E : Value → Shared → Prop) (Q : Bool → Shared → Prop), Q true s → wpAny (model prog w) A (eqBool v v') Q E s) ∧ R (.ok (.ret (.bool false))) s) := by
  refine .of_wp fun A R s ⟨hr, ha, hb, hv, h⟩ => ?_
  unfold Builtin.«dict.__ne__»
  wp_delta
  refine wpAny_bind ?_
  unfold Builtin.Dict.dictSlotArgs
  refine wpAny_bind (wpAny_notOrdered_dict ha.typeIs ?_)
  show wpAny _ _ (pure (Value.ref a, Value.ref b)) _ _ s
  refine wpAny_pure ?_
  refine wpAny_bind (wpAny_isInstance (b := true) hb.typeIs (by rw [isSubtype_type]; kernel_rfl) ?_)
  rw [if_neg (by decide)]
  refine wpAny_bind (wpAny_pure ?_)
  refine wpAny_bind (wpAny_pure ?_)
  refine wpAny_bind (samePairs_trueH (by simpa using hr) ha hb sa sb hl hv ?_)
  exact wpAny_pure ⟨_, rfl, h⟩
end
end DT
namespace L2
open PySem PySem.Spec PyProof.Rows
section
variable {X : Cx}
/-- d != e of alike dicts, the keys tuples, the values ints -/
def rNeT : R2 := fun x y H Q => ∃ a b kvs, x = .ref a ∧ y = .ref b ∧ H a = some (.dT kvs) ∧ H b = some (.dT kvs) ∧ (∀ kv ∈ kvs, ∃ z : Int, kv.2 = .int z) ∧ Q (.bl false) H
theorem kt_get {H : Hp} {kvs : List (List Key × V)} {xs : List (List Key × Addr × Value)} (r : KT H kvs xs) : ∀ {i : Nat} {q : List Key × Addr × Value}, xs[i]? = some q → ∃ y, kvs[i]? = some (q.1, y) ∧ RelV y q.2.2 := by
  induction r with
  | nil => intro i q e; simp at e
  | @cons p q0 ps qs h t ih =>
    intro i q e
    cases i with
    | zero =>
      have e' : q0 = q := by simpa using e
      subst e'
      exact ⟨p.2, by rw [← h.1]; rfl, h.2.2⟩
    | succ i => simpa using ih (i := i) (q := q) (by simpa using e)
theorem kt_at {H : Hp} {kvs : List (List Key × V)} {xs : List (List Key × Addr × Value)} (r : KT H kvs xs) : ∀ {i : Nat} {k : List Key} {y : V}, kvs[i]? = some (k, y) → ∃ p v, xs[i]? = some (k, p, v) ∧ RelV y v := by
  induction r with
  | nil => intro i k y e; simp at e
  | @cons p q0 ps qs h t ih =>
    intro i k y e
    cases i with
    | zero =>
      have e' : p = (k, y) := by simpa using e
      subst e'
      exact ⟨q0.2.1, q0.2.2, by rw [show k = q0.1 from h.1]; rfl, h.2.2⟩
    | succ i => simpa using ih (i := i) (k := k) (y := y) (by simpa using e)
theorem op_neDT (hu : X.A.units + 64 < cLine) : OpR X (compareOp .NotEq) rNeT := by
  intro pins s σ H x y v u Q I rx ry h
  obtain ⟨a, b, kvs, rfl, rfl, ha, hb, hs, q⟩ := h
  cases rx
  cases ry
  obtain ⟨z1, d1, vs1, r1, dd1⟩ := dt_of I.hok ha
  obtain ⟨z2, d2, vs2, r2, dd2⟩ := dt_of I.hok hb
  have hl : vs1.length = vs2.length := by rw [← Paired.length r1, ← Paired.length r2]
  refine wpAny_richCompare_same_room (op := .NotEq) dd1.typeIs dd2.typeIs PySem.F.slot_dict_ne (call_meetsIn PySem.F.slot_dict_ne dd1.typeIs PySem.F.entry_dict_ne (PySem.F.args_dict_ne_2 _ _) (DT.meets_neH (knd := mixKind X.prog X.w) a b d1 d2 hl) ⟨?_, dd1, dd2, fun i k p v e => ?_, (fun x => nomatch x), ⟨.bl false, H, I, rfl, q⟩⟩) (by omega)
  · show X.A.units + _ < cLine; omega
  · obtain ⟨y, ey, ry⟩ := kt_get r1 e
    obtain ⟨z, hz⟩ := hs _ (List.mem_of_getElem? ey)
    obtain ⟨p', v', e', ry'⟩ := kt_at r2 ey
    have hz' : y = .int z := hz
    subst hz'
    obtain ⟨t1, rfl⟩ := (show ∃ t, v = Value.int z t from ry)
    obtain ⟨t2, rfl⟩ := (show ∃ t, v' = Value.int z t from ry')
    exact ⟨p', _, e', fun A E Q q => wpAny_eqBool_int (by rw [show (z == z) = true by simp]; exact q)⟩
end
end L2

set_option Elab.async false
set_option linter.all false
set_option maxRecDepth 100000
set_option maxHeartbeats 4000000
/-! dicts' items walked, whatever the keys: the model's steps. Own work. -/
namespace DT
open PySem PyProof.Rows
section
variable {prog : Program} {w : World} {A : Around} {E : Value → Shared → Prop} {s : Shared}
theorem next_item {it d : Addr} {i ep : Nat} {o : Obj} {es : Array DictEntry} {e : DictEntry} {ok ov : Value} {Q : Option Value → Shared → Prop} (hi : IsItemIter s.heap it d i es.size ep ok ov) (ho : s.heap.get? d = some o) (hd : o.data = .dict es ep) (he : es[i]? = some e)
    (h : ∀ h', IsItemIterOut h' it d (i + 1) es.size ep e.key e.val s.heap.objs.size → h'.get? s.heap.objs.size = some { cls := .type "tuple", data := .seq #[e.key, e.val] } → h'.objs.size = s.heap.objs.size + 1 → (∀ b o, b ≠ it → s.heap.get? b = some o → h'.get? b = some o) → Q (some (.ref s.heap.objs.size)) { s with heap := h' }) :
    wpAny (model prog w) A (pyNext (.ref it)) Q E s := by
  have hT : s.TypeIs (.ref it) "dict_itemiterator" := ⟨_, hi, rfl⟩
  unfold pyNext
  refine wpAny_bind (wpAny_attempt (wpAny_callSpecial?_slot (name := Str.ofString "__next__") hT PySem.F.slot_dict_itemiterator_next
    (wpAny_call_entry PySem.F.slot_dict_itemiterator_next hT PySem.F.entry_dict_itemiterator_next ?_ (PySem.F.args_dict_itemiterator_next_1 _))))
  unfold Builtin.«dict_itemiterator.__next__»
  wp_delta
  refine wpAny_bind (wpAny_pure ?_)
  refine wpAny_bind ?_
  wp_delta
  refine wpAny_bind ?_
  wp_delta
  refine wpAny_bind (wpAny_typeNameOfWhole_itemiter hT (wpAny_pure ?_))
  refine wpAny_bind (wpAny_fieldsOf hi rfl ?_)
  show wpAny _ _ (if (Value.ref d == Value.none) = true then _ else _) _ _ _
  rw [if_neg (show ¬ (Value.ref d == Value.none) = true from fun h => nomatch h)]
  refine wpAny_bind (wpAny_pure ?_)
  refine wpAny_bind (wpAny_dictEntries ho hd ?_)
  show wpAny _ _ (if ((es.size : Int) != (es.size : Int)) = true then _ else _) _ _ _
  rw [if_neg (by simp)]
  refine wpAny_bind (wpAny_pure ?_)
  refine wpAny_bind (wpAny_dictEpoch ho hd ?_)
  show wpAny _ _ (if ((ep : Int) != (ep : Int)) = true then _ else _) _ _ _
  rw [if_neg (by simp)]
  refine wpAny_pure ?_
  show wpAny _ _ (match if (i : Int) < 0 then none else es[(i : Int).toNat]? with | some e => _ | none => _) _ _ _
  rw [if_neg (by omega), Int.toNat_natCast, he]
  refine wpAny_bind ?_
  wp_delta
  refine wpAny_bind (wpAny_typeNameOfWhole_itemiter hT (wpAny_pure ?_))
  refine wpAny_bind (wpAny_isOneOf_itemiter hT ?_)
  show wpAny _ _ (setField (Value.ref it) 3 (rawInt ((i : Int) + 1)) >>= _) _ _ _
  refine wpAny_bind (wpAny_setField_rec hi (by simp) fun h1 e1 b1 => ?_)
  refine wpAny_bind (wpAny_holding ?_)
  have hT1 : (Shared.mk h1 s.gens s.drawn s.toks s.os).TypeIs (.ref it) "dict_itemiterator" := ⟨_, e1, rfl⟩
  wp_delta
  refine wpAny_bind (wpAny_isOneOf_itemiter hT1 ?_)
  show wpAny _ _ (if false = true then _ else _) _ _ _
  rw [if_neg (by decide)]
  refine wpAny_bind (wpAny_isOneOf_itemiter hT1 ?_)
  show wpAny _ _ (if false = true then _ else _) _ _ _
  rw [if_neg (by decide)]
  show wpAny _ _ (Builtin.Dict_items.pairFromOwner (Value.ref it) 6 e.key e.val) _ _ _
  unfold Builtin.Dict_items.pairFromOwner
  refine wpAny_bind (wpAny_newTuple ?_ (by show 2 ≤ sizeLine; rw [sizeLine_eq]; decide))
  have e2 : (h1.push { cls := .type "tuple", data := .seq [e.key, e.val].toArray }).get? it = some { cls := .type "dict_itemiterator", data := .fields (#[Value.none, Value.bool false, Value.ref d, Value.int (i : Int) 0, Value.int (es.size : Int) 0, Value.int (ep : Int) 0, ok, ov].setIfInBounds 3 (rawInt ((i : Int) + 1))) } := Heap.get?_push_of_some _ e1
  have t2 : (h1.push { cls := .type "tuple", data := .seq [e.key, e.val].toArray }).get? h1.objs.size = some { cls := .type "tuple", data := .seq [e.key, e.val].toArray } := Heap.get?_push_size _ rfl
  have z2 : (h1.push { cls := .type "tuple", data := .seq [e.key, e.val].toArray }).objs.size = h1.objs.size + 1 := by simp [Heap.push]
  have k2 : ∀ b o, h1.get? b = some o → (h1.push { cls := .type "tuple", data := .seq [e.key, e.val].toArray }).get? b = some o := fun b o q => Heap.get?_push_of_some _ q
  generalize (h1.push { cls := .type "tuple", data := .seq [e.key, e.val].toArray }) = h2 at e2 t2 z2 k2 ⊢
  refine wpAny_bind ?_
  unfold Builtin.Dict_items.ownedTupleIsFree
  refine wpAny_bind (wpAny_field e2 rfl (x := .none) (by simp) ?_)
  refine wpAny_pure ?_
  show wpAny _ _ (if true = true then _ else _) _ _ _
  rw [if_pos rfl]
  refine wpAny_bind (wpAny_field e2 rfl (x := ok) (by simp) ?_)
  refine wpAny_bind (wpAny_field e2 rfl (x := ov) (by simp) ?_)
  refine wpAny_bind (wpAny_setField_rec e2 (by simp) fun h3 e3 b3 => ?_)
  refine wpAny_bind (wpAny_setField_rec e3 (by simp) fun h4 e4 b4 => ?_)
  refine wpAny_bind (wpAny_setField_rec e4 (by simp) fun h5 e5 b5 => ?_)
  refine wpAny_bind (wpAny_setField_rec e5 (by simp) fun h6 e6 b6 => ?_)
  refine wpAny_bind (wpAny_letGo ?_)
  refine wpAny_pure (wpAny_pure ⟨_, rfl, wpAny_pure ?_⟩)
  have hz : h1.objs.size = s.heap.objs.size := b1.1
  have hlt : it < s.heap.objs.size := Heap.lt_size hi
  have nit : s.heap.objs.size ≠ it := Nat.ne_of_gt hlt
  rw [hz] at t2 z2 e5 e6 ⊢
  refine h h6 ?_ ?_ ?_ fun b o nb q => ?_
  · show h6.get? it = _
    rw [e6]; rfl
  · rw [b6.2 _ nit, b5.2 _ nit, b4.2 _ nit, b3.2 _ nit, t2]
  · rw [b6.1, b5.1, b4.1, b3.1, z2]
  · rw [b6.2 _ nb, b5.2 _ nb, b4.2 _ nb, b3.2 _ nb]
    exact k2 _ _ (by rw [b1.2 _ nb]; exact q)
theorem next_end {it d : Addr} {i ep : Nat} {o : Obj} {es : Array DictEntry} {ok ov : Value} {Q : Option Value → Shared → Prop} (hh : A.handled = none) (hi : IsItemIter s.heap it d i es.size ep ok ov) (ho : s.heap.get? d = some o) (hd : o.data = .dict es ep) (he : es[i]? = none)
    (h : ∀ h', (∀ b o, b ≠ it → s.heap.get? b = some o → h'.get? b = some o) → Q none { s with heap := h' }) :
    wpAny (model prog w) A (pyNext (.ref it)) Q E s := by
  have hT : s.TypeIs (.ref it) "dict_itemiterator" := ⟨_, hi, rfl⟩
  unfold pyNext
  refine wpAny_bind (wpAny_attempt (wpAny_callSpecial?_slot (name := Str.ofString "__next__") hT PySem.F.slot_dict_itemiterator_next
    (wpAny_call_entry PySem.F.slot_dict_itemiterator_next hT PySem.F.entry_dict_itemiterator_next ?_ (PySem.F.args_dict_itemiterator_next_1 _))))
  unfold Builtin.«dict_itemiterator.__next__»
  wp_delta
  refine wpAny_bind (wpAny_pure ?_)
  refine wpAny_bind ?_
  wp_delta
  refine wpAny_bind ?_
  wp_delta
  refine wpAny_bind (wpAny_typeNameOfWhole_itemiter hT (wpAny_pure ?_))
  refine wpAny_bind (wpAny_fieldsOf hi rfl ?_)
  show wpAny _ _ (if (Value.ref d == Value.none) = true then _ else _) _ _ _
  rw [if_neg (show ¬ (Value.ref d == Value.none) = true from fun h => nomatch h)]
  refine wpAny_bind (wpAny_pure ?_)
  refine wpAny_bind (wpAny_dictEntries ho hd ?_)
  show wpAny _ _ (if ((es.size : Int) != (es.size : Int)) = true then _ else _) _ _ _
  rw [if_neg (by simp)]
  refine wpAny_bind (wpAny_pure ?_)
  refine wpAny_bind (wpAny_dictEpoch ho hd ?_)
  show wpAny _ _ (if ((ep : Int) != (ep : Int)) = true then _ else _) _ _ _
  rw [if_neg (by simp)]
  refine wpAny_pure ?_
  show wpAny _ _ (match if (i : Int) < 0 then none else es[(i : Int).toNat]? with | some e => _ | none => _) _ _ _
  rw [if_neg (by omega), Int.toNat_natCast, he]
  refine wpAny_bind ?_
  wp_delta
  refine wpAny_bind (wpAny_typeNameOfWhole_itemiter hT (wpAny_pure ?_))
  show wpAny _ _ (setField (Value.ref it) 2 Value.none >>= _) _ _ _
  refine wpAny_bind (wpAny_setField_rec hi (by simp) fun h1 e1 b1 => ?_)
  exact wpAny_mono (SI.stop_ (E := E) (s := s) (it := it) (h0 := s.heap) hh h (fun b o hb e => by rw [b1.2 _ hb]; exact e)) (fun _ _ z => z.elim) fun e s' z => z
theorem iter_items {v d : Addr} {o : Obj} {es : Array DictEntry} {ep : Nat} {Q : Value → Shared → Prop} (hv : s.heap.IsItemsView v d) (ho : s.heap.get? d = some o) (hd : o.data = .dict es ep)
    (h : Q (.ref s.heap.objs.size) { s with heap := s.heap.push { cls := .type "dict_itemiterator", data := .fields #[.none, .bool false, .ref d, .int 0 0, .int es.size 0, .int ep 0, .none, .none] } }) :
    wpAny (model prog w) A (pyIter (.ref v)) Q E s := by
  have hT := hv.typeIs
  obtain ⟨ov, hov, hcv, hdv⟩ := hv
  refine wpAny_pyIter_slot hT PySem.F.slot_dict_items_iter (wpAny_call_entry PySem.F.slot_dict_items_iter hT PySem.F.entry_dict_items_iter ?_ (PySem.F.args_dict_items_iter_1 _))
  unfold Builtin.«dict_items.__iter__»
  refine wpAny_bind (m := Builtin.Dict_items.slot0 "__iter__" ⟨[.ref v], []⟩) (wpAny_of_eq (a := .ref v) rfl ?_)
  refine wpAny_bind ?_
  unfold Builtin.Dict_items.dictOf
  refine wpAny_bind (wpAny_field hov hdv (x := .ref d) (by simp) ?_)
  refine wpAny_pure ?_
  refine wpAny_bind ?_
  unfold Builtin.Dict_items.newIterator
  refine wpAny_bind (wpAny_dictEntries ho hd ?_)
  refine wpAny_bind (wpAny_dictEpoch ho hd ?_)
  show wpAny _ _ (newFields "dict_itemiterator" [.none, .bool false, .ref d, .int 0 0, .int es.size 0, .int ep 0, .none, .none]) _ _ _
  unfold newFields
  refine wpAny_newObj_type ?_ (by size_fits)
  exact wpAny_pure ⟨_, rfl, "dict_itemiterator", _, ⟨_, Heap.get?_push_size _ rfl, rfl⟩, PySem.F.slot_dict_itemiterator_next.lookup, h⟩
theorem call_items {d : Addr} {o : Obj} {es : Array DictEntry} {ep : Nat} {Q : Value → Shared → Prop} (sm : (d == sysModules) = false) (ho : s.heap.get? d = some o) (hex : o.ExactDict)
    (h : Q (.ref s.heap.objs.size) { s with heap := s.heap.push { cls := .type "dict_items", data := .fields #[.ref d] } }) :
    wpAny (model prog w) A (call (.builtin "dict.items") [.ref d]) Q E s := by
  have hT : s.TypeIs (.ref d) "dict" := ⟨_, ho, hex.1⟩
  refine wpAny_call_entry PySem.F.slot_dict_items hT PySem.F.entry_dict_items ?_ (PySem.F.args_dict_items_1 _)
  unfold Builtin.«dict.items» Builtin.Dict.noArgs
  refine wpAny_bind ?_
  refine wpAny_bind (wpAny_notOrdered_dict hT ?_)
  refine wpAny_bind (m := Builtin.Dict.nameIsSure "items" ⟨[.ref d], []⟩ _) (wpAny_of_eq (a := ()) rfl ?_)
  refine wpAny_bind (m := selfOnly _ ⟨[.ref d], []⟩) (wpAny_of_eq (a := .ref d) rfl ?_)
  refine wpAny_of_eq (a := d) rfl ?_
  refine wpAny_bind ?_
  unfold Builtin.Dict.showsAll
  rw [if_neg (by rw [sm]; exact Bool.false_ne_true)]
  refine wpAny_pure ?_
  refine wpAny_bind ?_
  unfold newFields
  refine wpAny_newObj_type ?_ (by size_fits)
  exact wpAny_pure ⟨_, rfl, h⟩
end
end DT

set_option Elab.async false
set_option linter.all false
set_option maxRecDepth 100000
set_option maxHeartbeats 4000000
/-! for k, v in d.items(): d's keys tuples, the body leaving d alone. Own work. -/
namespace L2
open PySem PySem.Spec PyProof.Rows
/-- out of sight -/
def rem (H : Hp) (a : Addr) : Hp := fun b => if b = a then none else H b
theorem rem_same {H : Hp} {a : Addr} : rem H a a = none := if_pos rfl
theorem rem_ne {H : Hp} {a b : Addr} (h : b ≠ a) : rem H a b = H b := if_neg h
section
variable {X : Cx} {pins : List (Addr × Obj)} {σ : St} {H : Hp} {s : Shared} {a : Addr} {kvs : List (List Key × V)}
/-- what is known of a dict out of sight -/
structure Hid (X : Cx) (pins : List (Addr × Obj)) (a : Addr) (kvs : List (List Key × V)) (xs : List (List Key × Addr × Value)) (o : Obj) (es : Array DictEntry) (ep : Nat) : Prop where
  len : kvs.length ≤ sizeLine
  sm : (a == sysModules) = false
  ex : o.ExactDict
  dat : o.data = .dict es ep
  ents : es.toList = xs.map (entryOfKey (tupleKind (mixKind X.prog X.w)))
  nod : (xs.map (·.1)).Nodup
  old : ∀ o', X.s₀.heap.get? a = some o' → X.H₀ a = none → a ∈ X.ex
  cells : ∀ x c, X.env.cells.lookup x = some c → c ≠ a
  pn : ∀ p ∈ X.pn ++ pins, p.1 ≠ a
theorem Inv.hide (I : Inv X pins σ H s) (ha : H a = some (.dT kvs)) : ∃ xs o es ep, KT H kvs xs ∧ s.heap.get? a = some o ∧ Hid X pins a kvs xs o es ep ∧ Inv X (pins ++ [(a, o)]) σ (rem H a) s := by
  obtain ⟨z, y, xs, r, o, es, ep, h1, h2, h3, h4, h5⟩ := (show ObjOk X.prog X.w H s.heap a (.dT kvs) from I.hok a _ ha)
  have nl : a ≠ X.env.locals := fun e => by rw [e, I.free] at ha; exact nomatch ha
  have nf : a ∉ X.fs := fun hb => by
    obtain ⟨_, o', ho', _⟩ := I.ok.funs.mem hb
    have := I.base.free a o' ho' (I.ok.frf a hb) (fun hx => I.ok.exfs a hx hb)
    rw [this] at ha; exact nomatch ha
  have ne : ∀ {b : Addr} {u : HO}, H b = some u → (∀ k, u ≠ .dT k) → b ≠ a := fun {b u} e hu z => by rw [z, ha] at e; exact hu kvs (Option.some.inj e).symm
  refine ⟨xs, o, es, ep, r, h1, ⟨z, y, h2, h3, h4, h5, fun o' e n => ?_, fun x c e ec => ?_, fun p hp e => ?_⟩, ⟨I.ok, I.os, I.bare, ⟨I.base.keep, I.base.slot, fun b ob e n hx => ?_, I.base.there, fun b ys e => ?_, fun b ob u e => ?_, fun b ps e => ?_⟩, I.loc, I.cell, ?_, fun x c e => ?_, fun p hp => ?_, fun b u e => ?_, I.len⟩⟩
  · apply Classical.byContradiction
    intro hx
    have := I.base.free a o' e n hx
    rw [this] at ha; exact nomatch ha
  · have := I.freeC x c e; rw [ec, ha] at this; exact nomatch this
  · have := (I.pin p hp).2.1; rw [e, ha] at this; exact nomatch this
  · by_cases hb : b = a
    · rw [hb]; exact rem_same
    · rw [rem_ne hb]; exact I.base.free b ob e n hx
  · have := I.base.tups b ys e
    rw [rem_ne (ne this fun k z => nomatch z)]; exact this
  · have := I.base.frzs b ob u e
    rw [rem_ne (ne this fun k z => nomatch z)]; exact this
  · obtain ⟨m, e2⟩ := I.base.tbls b ps e
    exact ⟨m, by rw [rem_ne (ne e2 fun k z => nomatch z)]; exact e2⟩
  · rw [rem_ne (Ne.symm nl)]; exact I.free
  · have hc := I.freeC x c e
    by_cases z : c = a
    · rw [z]; exact rem_same
    · rw [rem_ne z]; exact hc
  · rw [← List.append_assoc] at hp
    rcases List.mem_append.mp hp with hp | hp
    · obtain ⟨q1, q2, q3⟩ := I.pin p hp
      refine ⟨q1, ?_, q3⟩
      rw [rem_ne (fun z => by rw [z, ha] at q2; exact nomatch q2)]; exact q2
    · rw [List.mem_singleton.mp hp]
      exact ⟨h1, rem_same, nl, nf, fun v z => by rw [h3] at z; exact nomatch z⟩
  · have hb : b ≠ a := fun z => by rw [z, rem_same] at e; exact nomatch e
    rw [rem_ne hb] at e
    exact (I.hok b u e).stay (fun _ _ _ q => q) (fun c q => by rw [rem_ne (ne q fun k z => nomatch z)]; exact q) fun c ys q => by rw [rem_ne (ne q fun k z => nomatch z)]; exact q
theorem Inv.shw {xs : List (List Key × Addr × Value)} {o : Obj} {es : Array DictEntry} {ep : Nat} {pl : List (Addr × Obj)} (hp : (a, o) ∈ pl) (I : Inv X (pins ++ pl) σ H s) (hh : Hid X pins a kvs xs o es ep) (hk : KT H kvs xs) : Inv X pins σ (upd H a (.dT kvs)) s := by
  have hpa := I.pin (a, o) (List.mem_append_right _ (List.mem_append_right _ hp))
  have ha : H a = none := hpa.2.1
  have ne : ∀ {b : Addr} {u : HO}, H b = some u → b ≠ a := fun {b u} e => ne_of_none e ha
  refine ⟨I.ok, I.os, I.bare, ⟨I.base.keep, I.base.slot, fun b ob e n hx => ?_, I.base.there, fun b ys e => ?_, fun b ob u e => ?_, fun b ps e => ?_⟩, I.loc, I.cell, ?_, fun x c e => ?_, fun p hp' => ?_, fun b u e => ?_, I.len⟩
  · have hb : b ≠ a := fun z => by subst z; exact hx (hh.old ob e n)
    rw [upd_ne hb]; exact I.base.free b ob e n hx
  · have := I.base.tups b ys e
    rw [upd_ne (ne this)]; exact this
  · have := I.base.frzs b ob u e
    rw [upd_ne (ne this)]; exact this
  · obtain ⟨m, e2⟩ := I.base.tbls b ps e
    exact ⟨m, by rw [upd_ne (ne e2)]; exact e2⟩
  · rw [upd_ne (Ne.symm hpa.2.2.1)]; exact I.free
  · rw [upd_ne (hh.cells x c e)]; exact I.freeC x c e
  · have hq : p ∈ X.pn ++ (pins ++ pl) := by rw [← List.append_assoc]; exact List.mem_append_left _ hp'
    obtain ⟨q1, q2, q3⟩ := I.pin p hq
    exact ⟨q1, by rw [upd_ne (hh.pn p hp')]; exact q2, q3⟩
  · by_cases hb : b = a
    · subst hb
      rw [upd_same] at e
      cases e
      exact ⟨hh.len, hh.sm, xs, hk.keeps (fun c ys ec => by rw [upd_ne (ne ec)]; exact ec), o, es, ep, hpa.1, hh.ex, hh.dat, hh.ents, hh.nod⟩
    · rw [upd_ne hb] at e
      exact (I.hok b u e).stay (fun _ _ _ q => q) (fun c q => by rw [upd_ne (ne q)]; exact q) fun c ys q => by rw [upd_ne (ne q)]; exact q
def tItems (to : TE) (g : TG) (tb : TS) : TS := fun D σ H => to σ H fun x H1 => ∃ (a : Addr) (kvs : List (List Key × V)), x = .ref a ∧ H1 a = some (.dT kvs) ∧ ∃ Pv : Nat → St → Prop, Pv 0 σ ∧
  (∀ i k v b p σ' H', kvs[i]? = some (k, v) → Pv i σ' → Same (rem H1 a) H' → H' p = none → H' b = some (.tup (k.map kV)) →
    g (.ref p) σ' (upd H' p (.tup [.ref b, v])) fun σ2 H2 => tb { nx := fun σ3 H3 => Pv (i + 1) σ3 ∧ Same (rem H1 a) H3, ct := fun σ3 H3 => Pv (i + 1) σ3 ∧ Same (rem H1 a) H3, rt := fun _ _ => False, bk := fun _ _ => False } σ2 H2) ∧
  ∀ σ' H', Pv kvs.length σ' → Same H1 H' → D.nx σ' H'
theorem kt_key {H : Hp} {kvs : List (List Key × V)} {xs : List (List Key × Addr × Value)} (r : KT H kvs xs) : ∀ {i : Nat} {q : List Key × Addr × Value}, xs[i]? = some q → H q.2.1 = some (.tup (q.1.map kV)) := by
  induction r with
  | nil => intro i q e; simp at e
  | @cons p q0 ps qs h t ih =>
    intro i q e
    cases i with
    | zero =>
      have e' : q0 = q := by simpa using e
      subst e'
      rw [← h.1]; exact h.2.1
    | succ i => exact ih (i := i) (q := q) (by simpa using e)
theorem ps_items {o : Expr} {to : TE} {g : TG} {tb : TS} {elts : List Expr} {x1 : Nat} {pt apos cpos pos : Pos} {body : List Stmt} (hp : PassesOwn (model X.prog X.w) X.A X.env X.xe) (hc : X.calm = true) (ho : PE X o to) (hg : PG X (.Tuple elts x1 pt) g) (hb : PSs X body tb)
    (hbase : attributeBase o "items" X.env (eval o X.env) = eval o X.env := by rfl) (hline : (apos.endLine == cpos.line) = true := by rfl)
    (hs : ∀ x, foldedSetIterable (.Call (.Attribute o "items" apos) [] [] cpos) X.env x = pure x := by intro _; rfl) : PS X (.For (.Tuple elts x1 pt) (.Call (.Attribute o "items" apos) [] [] cpos) body [] pos) (tItems to g tb) := by
  intro pins s σ H D I h
  refine wpAny_For (wpAny_Call_method0_late hbase hline (thn (ho pins s σ H _ I h) fun v s1 ⟨x, H1, I1, r1, a, kvs, ex, ha, Pv, p0, step, fin⟩ => ?_)) hs
  subst ex
  obtain rfl : v = Value.ref a := r1
  obtain ⟨t1, t2, t3⟩ := isD_at I1 (.inr ⟨kvs, .inl ha⟩)
  obtain ⟨xs, ob, es, ep, hKT, hob, hh, Ih⟩ := I1.hide ha
  refine ⟨"dict", "dict.items", PySem.F.plainAttrs_dict, PySem.F.slot_dict_items, PySem.F.type_dict_items, t1, t2, Calls.callWith_builtin rfl (PySem.evalArgs_none (DT.call_items (es := es) (ep := ep) t3 hob hh.ex ?_))⟩
  have hv : (s1.heap.push { cls := .type "dict_items", data := .fields #[.ref a] }).IsItemsView s1.heap.objs.size a := ⟨_, Heap.get?_push_size _ rfl, rfl, rfl⟩
  refine DT.iter_items hv (Heap.get?_push_of_some _ hob) hh.dat ?_
  have hsz : (s1.heap.push { cls := .type "dict_items", data := .fields #[.ref a] }).objs.size = s1.heap.objs.size + 1 := by simp [Heap.push]
  rw [hsz]
  have hit0 : ((s1.heap.push { cls := .type "dict_items", data := .fields #[.ref a] }).push { cls := .type "dict_itemiterator", data := .fields #[.none, .bool false, .ref a, .int 0 0, .int es.size 0, .int ep 0, .none, .none] }).get? (s1.heap.objs.size + 1) = some { cls := .type "dict_itemiterator", data := .fields #[.none, .bool false, .ref a, .int 0 0, .int es.size 0, .int ep 0, .none, .none] } := by rw [← hsz]; exact Heap.get?_push_size _ rfl
  have I2 : Inv X (pins ++ [(a, ob)]) σ (rem H1 a) { s1 with heap := (s1.heap.push { cls := .type "dict_items", data := .fields #[.ref a] }).push { cls := .type "dict_itemiterator", data := .fields #[.none, .bool false, .ref a, .int 0 0, .int es.size 0, .int ep 0, .none, .none] } } := Ih.kept (t' := s1.toks) fun b u q => Heap.get?_push_of_some _ (Heap.get?_push_of_some _ q)
  have hle : s1.heap.objs.size ≤ s1.heap.objs.size + 1 := Nat.le_succ _
  have f0 : FpOk X (pins ++ [(a, ob)]) (rem H1 a) (s1.heap.objs.size + 1) := Ih.fpOk hle (Ih.hok.fresh hle)
  generalize s1.heap.objs.size + 1 = it at hit0 f0 ⊢
  have stat : ∀ {H' : Hp}, H' it = none → ∀ b ∈ [it], FpOk X (pins ++ [(a, ob)]) H' b := fun hn b hb => by rw [List.mem_singleton.mp hb]; exact ⟨hn, f0.2⟩
  have lenx : xs.length = kvs.length := (Paired.length hKT).symm
  have lene : es.size = kvs.length := by have := congrArg List.length hh.ents; rw [List.length_map, lenx] at this; simpa using this
  have keyT : ∀ {H' : Hp}, Same (rem H1 a) H' → ∀ b ys, H1 b = some (.tup ys) → H' b = some (.tup ys) := fun sm b ys e => sm b _ (by rw [rem_ne (fun z => by rw [z, ha] at e; exact nomatch e)]; exact e)
  refine codeAny_forLoop_any (fun n s' => ∃ i σ' H', n = kvs.length - i ∧ i ≤ kvs.length ∧ Inv X (pins ++ [(a, ob)]) σ' H' s' ∧ (∃ ok ov, IsItemIter s'.heap it a i es.size ep ok ov) ∧ H' it = none ∧ Same (rem H1 a) H' ∧ Pv i σ') ?_ kvs.length ⟨0, σ, rem H1 a, rfl, Nat.zero_le _, I2, ⟨_, _, hit0⟩, f0.1, Same.refl _, p0⟩
  rintro n s3 ⟨i, σ3, H3, rfl, hi, I3, ⟨ok, ov, hit⟩, fr3, sm3, p3⟩
  have ho3 : s3.heap.get? a = some ob := (I3.pin (a, ob) (List.mem_append_right _ (List.mem_append_right _ (List.mem_singleton.mpr rfl)))).1
  by_cases hlt : i < kvs.length
  · obtain ⟨⟨kk, vv⟩, hkv'⟩ : ∃ kv, kvs[i]? = some kv := ⟨kvs[i], List.getElem?_eq_getElem hlt⟩
    obtain ⟨b, val, hxi, rv⟩ := kt_at hKT hkv'
    have hb3 : H3 b = some (.tup (kk.map kV)) := keyT sm3 b _ (kt_key hKT hxi)
    have he : es[i]? = some (entryOfKey (tupleKind (mixKind X.prog X.w)) (kk, b, val)) := by rw [entry_at hh.ents i, hxi]; rfl
    refine wpAny_passesOwn hp (DT.next_item hit ho3 hh.dat he fun h' e1 e2 e3 e4 => ?_)
    refine wpAny_passesOwn hp (wpAny_letOwnedTupleGo_items e1 fun h2 g1 g2 => ?_)
    have itlt : it < s3.heap.objs.size := Heap.lt_size hit
    have g2' : Heap.SameBut it h' h2 := g2
    have hT2 : h2.get? s3.heap.objs.size = some { cls := .type "tuple", data := .seq #[.ref b, val] } := by rw [g2'.2 _ (Nat.ne_of_gt itlt)]; exact e2
    have nz := I3.hok.fresh (Nat.le_refl s3.heap.objs.size)
    have I5 : Inv X (pins ++ [(a, ob)]) σ3 (upd H3 s3.heap.objs.size (.tup [.ref b, vv])) { s3 with heap := h2 } := I3.turnedLaid (ch := [it]) (t' := s3.toks) (stat fr3) (fun c oc hcb q => by
      have nc : c ≠ it := fun z => hcb (by simp [z])
      rw [g2'.2 _ nc]; exact e4 c oc nc q) (Nat.le_refl _) ⟨by show 2 ≤ sizeLine; rw [sizeLine_eq]; decide, [.ref b, val], .cons rfl (.cons rv .nil), ⟨_, hT2, rfl, ⟨_, rfl⟩, rfl⟩⟩
    have fr5 : upd H3 s3.heap.objs.size (.tup [.ref b, vv]) it = none := by rw [upd_ne (Nat.ne_of_lt itlt)]; exact fr3
    have I5' := I5.pinned (fp := [it]) (stat fr5) (fun c hcb => by rw [List.mem_singleton.mp hcb]; exact ⟨_, g1, fun v z => nomatch z⟩)
    have sm5 : Same (rem H1 a) (upd H3 s3.heap.objs.size (.tup [.ref b, vv])) := fun c oc q => by rw [upd_ne (ne_of_none (sm3 _ _ q) nz)]; exact sm3 _ _ q
    refine wpAny_passesOwn hp (thn (hg _ _ σ3 _ (.ref s3.heap.objs.size) _ _ I5' rfl (step i kk vv b s3.heap.objs.size σ3 H3 hkv' p3 sm3 nz hb3)) fun _ s6 ⟨σ6, H6, I6, q6⟩ => ?_)
    refine wpAny_passesOwn hp (thn (hb _ s6 σ6 H6 _ I6 q6) fun f s7 q7 => ?_)
    have again : ∀ {σ7 : St} {H7 : Hp}, Inv X (pins ++ [(a, ob)] ++ pinsAt [it] h2) σ7 H7 s7 → Pv (i + 1) σ7 ∧ Same (rem H1 a) H7 → ∃ m, m < kvs.length - i ∧ ∃ i σ' H', m = kvs.length - i ∧ i ≤ kvs.length ∧ Inv X (pins ++ [(a, ob)]) σ' H' s7 ∧ (∃ ok ov, IsItemIter s7.heap it a i es.size ep ok ov) ∧ H' it = none ∧ Same (rem H1 a) H' ∧ Pv i σ' := fun {σ7 H7} I7 n7 => by
      have hpin := I7.pin (it, _) (List.mem_append_right _ (List.mem_append_right _ (mem_pinsAt (List.mem_singleton.mpr rfl) g1)))
      exact ⟨kvs.length - (i + 1), by omega, i + 1, σ7, H7, rfl, hlt, I7.unpinned, ⟨_, _, hpin.1⟩, hpin.2.1, n7.2, n7.1⟩
    cases f with
    | next => obtain ⟨σ7, H7, I7, n7⟩ := q7; exact again I7 n7
    | cont => obtain ⟨σ7, H7, I7, n7⟩ := q7; exact again I7 n7
    | brk => obtain ⟨σ7, H7, I7, q7⟩ := q7; exact q7.elim
    | ret v => obtain ⟨x7, σ7, H7, I7, r7, q7⟩ := q7; exact q7.elim
  · have ei : i = kvs.length := by omega
    have he : es[i]? = none := by rw [Array.getElem?_eq_none_iff]; omega
    refine wpAny_passesOwn hp (DT.next_end (I3.ok.hd hc) hit ho3 hh.dat he fun h' e4 => ?_)
    have I4 : Inv X (pins ++ [(a, ob)]) σ3 H3 { s3 with heap := h' } := I3.turnedL (ch := [it]) (t' := s3.toks) (stat fr3) fun c oc hcb q => e4 c oc (fun z => hcb (by simp [z])) q
    have I5 := I4.shw (List.mem_singleton.mpr rfl) hh (hKT.keeps (keyT sm3))
    refine wpAny_execs_nil ⟨σ3, _, I5, fin σ3 _ (by rw [← ei]; exact p3) fun c oc q => ?_⟩
    by_cases hca : c = a
    · rw [hca] at q ⊢; rw [upd_same]; rw [ha] at q; exact q
    · rw [upd_ne hca]; exact sm3 c oc (by rw [rem_ne hca]; exact q)
end
end L2

set_option Elab.async false
set_option linter.all false
set_option maxRecDepth 100000
set_option maxHeartbeats 4000000
/-! Rules over the hand layer: lists of different length compared, whatever they hold. Own work. -/
namespace L2
open PySem PySem.Spec PyProof.Rows SI
section
variable {X : Cx}
end
end L2

set_option Elab.async false
set_option linter.all false
set_option maxRecDepth 100000
set_option maxHeartbeats 4000000
/-! Comprehensions over enumerate, zip, range, whatever their elements do. Own work. -/
namespace L2
open PySem PySem.Spec PyProof.Rows
theorem lc_gen {J : It} {n : Nat} {g : TG} {tt : TT} {te : TE} {σ : St} {H : Hp} {D : Addr} {Q : Hp → Prop} (P : Nat → List V → St → Hp → Prop) (h0 : P 0 [] σ (upd H D (.lst [])))
    (hs : ∀ k ys σ' H', k < n → P k ys σ' H' → J.go k H' ∧ ∀ x H1, J.yld k H' x H1 → g x σ' H1 (fun σ2 H2 => tt σ2 H2 fun b H3 =>
      if b = true then te σ2 H3 fun y H4 => H4 D = some (.lst ys) ∧ ys.length < sizeLine ∧ ∃ m', m' < n - k ∧ m' = n - (k + 1) ∧ k + 1 ≤ n ∧ P (k + 1) (ys ++ [y]) σ2 (upd H4 D (.lst (ys ++ [y]))) else ∃ m', m' < n - k ∧ m' = n - (k + 1) ∧ k + 1 ≤ n ∧ P (k + 1) ys σ2 H3))
    (hd : ∀ ys σ' H', P n ys σ' H' → J.stop n H' ∧ Q H') :
    ∃ W : Nat → Nat → List V → St → Hp → Prop, (∃ m, W 0 m [] σ (upd H D (.lst []))) ∧ lcTurn J D g tt te Q W := by
  refine ⟨fun k m ys σ' H' => m = n - k ∧ k ≤ n ∧ P k ys σ' H', ⟨n, by simp, Nat.zero_le _, h0⟩, ?_⟩
  rintro k m ys σ' H' ⟨rfl, hk, hP⟩
  by_cases hlt : k < n
  · exact .inr (hs k ys σ' H' hlt hP)
  · have e : k = n := by omega
    subst e
    exact .inl (hd ys σ' H' hP)
/-- what stands behind a turn -/
def Beh (n k : Nat) (P : Nat → List V → St → Hp → Prop) (ys : List V) (σ : St) (H : Hp) : Prop := ∃ m', m' < n - k ∧ m' = n - (k + 1) ∧ k + 1 ≤ n ∧ P (k + 1) ys σ H
theorem Beh.of {n k : Nat} {P : Nat → List V → St → Hp → Prop} {ys : List V} {σ : St} {H : Hp} (hk : k < n) (h : P (k + 1) ys σ H) : Beh n k P ys σ H := ⟨n - (k + 1), by omega, rfl, hk, h⟩
theorem lc_zip {K : PySem.W.Frag} {a b : Addr} {xs zs : List V} {g : TG} {tt : TT} {te : TE} {σ : St} {H : Hp} {D : Addr} {Q : Hp → Prop} (hlen : xs.length = zs.length) (P : Nat → List V → St → Hp → Prop) (h0 : P 0 [] σ (upd H D (.lst []))) (hl : ∀ k ys σ' H', k ≤ xs.length → P k ys σ' H' → SqL K H' a xs ∧ SqL K H' b zs)
    (hs : ∀ k x z p ys σ' H', xs[k]? = some x → zs[k]? = some z → P k ys σ' H' → H' p = none → g (.ref p) σ' (upd H' p (.tup [x, z])) (fun σ2 H2 => tt σ2 H2 fun b H3 =>
      if b = true then te σ2 H3 fun y H4 => H4 D = some (.lst ys) ∧ ys.length < sizeLine ∧ Beh xs.length k P (ys ++ [y]) σ2 (upd H4 D (.lst (ys ++ [y]))) else Beh xs.length k P ys σ2 H3))
    (hd : ∀ ys σ' H', P xs.length ys σ' H' → Q H') :
    ∃ W : Nat → Nat → List V → St → Hp → Prop, (∃ m, W 0 m [] σ (upd H D (.lst []))) ∧ lcTurn (Itz K a b) D g tt te Q W := by
  refine lc_gen (n := xs.length) P h0 (fun k ys σ' H' hk hP => ?_) (fun ys σ' H' hP => ?_)
  · obtain ⟨q1, q2⟩ := hl k ys σ' H' (Nat.le_of_lt hk) hP
    have hk2 : k < zs.length := by omega
    refine ⟨⟨xs, zs, xs[k], zs[k], q1, q2, by simp [hk], by simp [hk2]⟩, fun x H1 y => ?_⟩
    obtain ⟨pp, u, v, rfl, hn, rfl, y1, y2⟩ := y
    exact hs k u v pp ys σ' H' (y1 xs q1) (y2 zs q2) hP hn
  · obtain ⟨q1, q2⟩ := hl _ ys σ' H' (Nat.le_refl _) hP
    exact ⟨⟨xs, zs, q1, q2, .inl (Nat.le_refl _)⟩, hd ys σ' H' hP⟩
end L2

set_option Elab.async false
set_option linter.all false
set_option maxRecDepth 100000
set_option maxHeartbeats 4000000
/-! A comprehension over a list, whatever its elements do. Own work (as in K24f). -/
namespace L2
open PySem PySem.Spec PyProof.Rows
theorem lc_lst {K : PySem.W.Frag} {a : Addr} {xs : List V} {g : TG} {tt : TT} {te : TE} {σ : St} {H : Hp} {D : Addr} {Q : Hp → Prop} (P : Nat → List V → St → Hp → Prop) (h0 : P 0 [] σ (upd H D (.lst []))) (hl : ∀ k ys σ' H', k ≤ xs.length → P k ys σ' H' → SqL K H' a xs)
    (hs : ∀ k x ys σ' H', xs[k]? = some x → P k ys σ' H' → g x σ' H' (fun σ2 H2 => tt σ2 H2 fun b H3 =>
      if b = true then te σ2 H3 fun y H4 => H4 D = some (.lst ys) ∧ ys.length < sizeLine ∧ Beh xs.length k P (ys ++ [y]) σ2 (upd H4 D (.lst (ys ++ [y]))) else Beh xs.length k P ys σ2 H3))
    (hd : ∀ ys σ' H', P xs.length ys σ' H' → Q H') :
    ∃ W : Nat → Nat → List V → St → Hp → Prop, (∃ m, W 0 m [] σ (upd H D (.lst []))) ∧ lcTurn (Itl K a) D g tt te Q W := by
  refine lc_gen (n := xs.length) P h0 (fun k ys σ' H' hk hP => ?_) (fun ys σ' H' hP => ⟨⟨xs, hl _ _ _ _ (Nat.le_refl _) hP, Nat.le_refl _⟩, hd ys σ' H' hP⟩)
  have q := hl k ys σ' H' (Nat.le_of_lt hk) hP
  refine ⟨⟨xs, xs[k], q, by simp [hk]⟩, fun x H1 y => ?_⟩
  obtain ⟨rfl, y⟩ := y
  exact hs k x ys σ' _ (y xs q) hP
end L2

set_option Elab.async false
set_option linter.all false
set_option maxRecDepth 100000
set_option maxHeartbeats 4000000
/-! t[lo:hi], the whole of it too. Own work. -/
namespace HT
open PySem PySem.Spec PyProof.Rows
section
variable {prog : Program} {w : World} {A : Around} {E : Value → Shared → Prop} {s : Shared}
end
end HT
namespace L2
open PySem PySem.Spec PyProof.Rows
end L2

set_option Elab.async false
set_option linter.all false
set_option maxRecDepth 100000
set_option maxHeartbeats 4000000
/-! The rules once more, behind structures: Lean's elaborator does not look into these, so that suites with long lists written out are read fast. Own work. -/
namespace Z
open PySem L2
structure E (X : Cx) (e : Expr) (t : TE) : Prop where h : PE X e t
structure T (X : Cx) (e : Expr) (t : TT) : Prop where h : PT X e t
structure W (X : Cx) (e : Expr) (t : TT) : Prop where h : PW X e t
structure A (X : Cx) (es : List Expr) (t : TA) : Prop where h : PA X es t
structure S (X : Cx) (st : Stmt) (t : TS) : Prop where h : PS X st t
structure Ss (X : Cx) (sts : List Stmt) (t : TS) : Prop where h : PSs X sts t
structure O (X : Cx) (e : Option Expr) (t : TO) : Prop where h : PO X e t
section
variable {X : Cx} {st : Stmt} {rest : List Stmt} {t u : TS} {a b e : Expr} {es : List Expr} {ta tb te : TE} {tA tB' : TT} {tt : TA} {pos p p2 : Pos}
theorem suite (h : Ss X rest t) : PSs X rest t := h.h
theorem pss_cons (h1 : S X st t) (h2 : Ss X rest u) : Ss X (st :: rest) (tSeq t u) := ⟨L2.pss_cons h1.h h2.h⟩
theorem pss_one (h1 : S X st t) : Ss X [st] t := ⟨L2.pss_one h1.h⟩
theorem ps_ret (he : E X e te) : S X (.Return (some e) pos) (tRet te) := ⟨L2.ps_ret he.h⟩
theorem ps_set {i : Nat} {x : Str} {pos' : Pos} (hN : X.N.Nodup) (hi : X.N[i]? = some x) (hx : Loc X.env.scope x) (he : E X e te) (hs : swapsWith e (some (.Name x pos')) pos.line X.env = pure false := by rfl) (hf : X.fn x = true ∨ X.env.scope.names.lookup x = some .local := by first | exact .inl rfl | exact .inr rfl | assumption) :
    S X (.Assign [.Name x pos'] e pos) (tAsg te (gName i)) := ⟨L2.ps_set hN hi hx he.h hs hf⟩
theorem pe_tup {x1} (h : A X es tt) : E X (.Tuple es x1 pos) (tTup tt) := ⟨L2.pe_tup h.h⟩
theorem pe_lst (h : A X es tt) : E X (.List es pos) (tLst tt) := ⟨L2.pe_lst h.h⟩
theorem pa_cons (ha : E X e te) (hr : A X es tt) (hs : starEach (e :: es) X.env = (false, eval e X.env) :: starEach es X.env := by rfl) : A X (e :: es) (tCons te tt) := ⟨L2.pa_cons ha.h hr.h hs⟩
theorem pa_nil : A X [] tNil := ⟨L2.pa_nil⟩
theorem pe_str {x j} : E X (.Constant (.str x) j pos) (tC (.str x)) := ⟨L2.pe_str⟩
theorem pe_int {i j} : E X (.Constant (.int i) j pos) (tC (.int i)) := ⟨L2.pe_int⟩
theorem pe_op {op : Operator} {r : R2} (ho : OpR X (binaryOp op) r) (ha : E X a ta) (hb : E X b tb) : E X (.BinOp a op b pos) (tOp r ta tb) := ⟨L2.pe_op ho ha.h hb.h⟩
theorem pv (i : Nat) {x : Str} (hN : X.N[i]? = some x := by rfl) (hv : Vis X.env.scope x := by first | exact Or.inl rfl | exact Or.inr (Or.inl rfl) | exact Or.inr (Or.inr rfl)) (hd : (x == ("__debug__" : Str)) = false := by decide)
    (hcd : (x == ("__classdict__" : Str)) = false := by decide) : E X (.Name x pos) (tVar i) := ⟨L2.pv i hN hv hd hcd⟩
theorem pe_ix {r : R2} (hr : IxR X r) (ha : E X a ta) (hb : E X b tb) (hs : PlainIx b) : E X (.Subscript a b pos) (tOp r ta tb) := ⟨L2.pe_ix hr ha.h hb.h hs⟩
theorem pe_call {CX : CXT} {k : Nat} {f : Addr} {fd : FuncData} {ps : List Str} {sp : Sp} {dvs : List V} {ds : List Value} {EE : XK} {x : Str} (F : FnOk X.prog X.w X.K X.mg X.base CX k f fd ps sp) (hr : Room k X.A) (hg : Gl X x) (hm : X.mg x = some (.ref f)) (hk : PySem.W.keepIn X.K (.ref f) = true) (hb : Binds X.K fd ps ds) (hd : Vals dvs ds) (hx : Passes CX X EE)
    (ha : A X (e :: es) tt) (hdb : (x == ("__debug__" : Str)) = false := by decide) (he : starEach (e :: es) X.env = (false, eval e X.env) :: starEach es X.env := by rfl) (hpl : (backTo pos (starEach es X.env)).any (·.1) = false := by rfl) :
    E X (.Call (.Name x p) (e :: es) [] pos) (tCall sp dvs EE tt) := ⟨L2.pe_call F hr hg hm hk hb hd hx ha.h hdb he hpl⟩
end
end Z

set_option Elab.async false
set_option linter.all false
set_option maxRecDepth 100000
set_option maxHeartbeats 4000000
/-! any list == []. Own work. -/
namespace L2
open PySem PySem.Spec PyProof.Rows SI
section
variable {X : Cx}
end
end L2

set_option Elab.async false
set_option linter.all false
set_option maxRecDepth 100000
set_option maxHeartbeats 4000000
/-! Rules that speak of the heap alone, in fewer words. Own work. -/
namespace L2
open PySem PySem.Spec PyProof.Rows
section
variable {X : Cx}
end
end L2
namespace Z
open PySem L2
variable {X : Cx}
end Z

set_option Elab.async false
set_option linter.all false
set_option maxRecDepth 100000
set_option maxHeartbeats 4000000
/-! Models of trees in the heap. Own work. -/
namespace TR
open PySem L2
mutual
/-- the model of a tree (tuples and lists), by short tags -/
def MdIn (N : Addr → Prop) (H : Hp) : Tr → V → Prop
  | .word n a b, v => ∃ p, v = .ref p ∧ N p ∧ H p = some (.tup [.str "w", .str n, .int a, .int b])
  | .fig z a, v => ∃ p, v = .ref p ∧ N p ∧ H p = some (.tup [.str "n", .int z, .int a])
  | .row ps a, v => ∃ p l vs, v = .ref p ∧ N p ∧ H p = some (.tup [.str "r", .ref l, .int a]) ∧ N l ∧ H l = some (.lst vs) ∧ ps.length ≤ 1000 ∧ MdsIn N H ps vs
def MdsIn (N : Addr → Prop) (H : Hp) : List Tr → List V → Prop
  | [], vs => vs = []
  | p :: r, vs => ∃ v ws, vs = v :: ws ∧ MdIn N H p v ∧ MdsIn N H r ws
end
mutual
theorem MdIn.mono {N N' : Addr → Prop} {H H' : Hp} (h : ∀ b o, N b → H b = some o → N' b ∧ H' b = some o) : ∀ {t : Tr} {v : V}, MdIn N H t v → MdIn N' H' t v
  | .word n a b, v, x => by
    simp only [MdIn] at x ⊢
    obtain ⟨p, e, np, hp⟩ := x
    exact ⟨p, e, (h p _ np hp).1, (h p _ np hp).2⟩
  | .fig z a, v, x => by
    simp only [MdIn] at x ⊢
    obtain ⟨p, e, np, hp⟩ := x
    exact ⟨p, e, (h p _ np hp).1, (h p _ np hp).2⟩
  | .row ps a, v, x => by
    simp only [MdIn] at x ⊢
    obtain ⟨p, l, vs, e, np, hp, nl, hl, le, r⟩ := x
    exact ⟨p, l, vs, e, (h p _ np hp).1, (h p _ np hp).2, (h l _ nl hl).1, (h l _ nl hl).2, le, MdsIn.mono h r⟩
theorem MdsIn.mono {N N' : Addr → Prop} {H H' : Hp} (h : ∀ b o, N b → H b = some o → N' b ∧ H' b = some o) : ∀ {ts : List Tr} {vs : List V}, MdsIn N H ts vs → MdsIn N' H' ts vs
  | [], vs, x => by simp only [MdsIn] at x ⊢; exact x
  | p :: r, vs, x => by
    simp only [MdsIn] at x ⊢
    obtain ⟨v, ws, e, y, z⟩ := x
    exact ⟨v, ws, e, MdIn.mono h y, MdsIn.mono h z⟩
end
theorem MdsIn.length {N : Addr → Prop} {H : Hp} : ∀ {ts : List Tr} {vs : List V}, MdsIn N H ts vs → vs.length = ts.length
  | [], vs, x => by simp only [MdsIn] at x; rw [x]; rfl
  | p :: r, vs, x => by
    simp only [MdsIn] at x
    obtain ⟨v, ws, e, y, z⟩ := x
    rw [e, List.length_cons, List.length_cons, MdsIn.length z]
theorem MdsIn.get {N : Addr → Prop} {H : Hp} : ∀ {ts : List Tr} {vs : List V} {i : Nat} {v : V}, MdsIn N H ts vs → vs[i]? = some v → ∃ t, ts[i]? = some t ∧ MdIn N H t v
  | [], vs, i, v, x, e => by simp only [MdsIn] at x; rw [x] at e; simp at e
  | p :: r, vs, i, v, x, e => by
    simp only [MdsIn] at x
    obtain ⟨u, ws, ev, y, z⟩ := x
    subst ev
    cases i with
    | zero => simp at e; subst e; exact ⟨p, rfl, y⟩
    | succ i =>
      obtain ⟨t, et, q⟩ := MdsIn.get z (i := i) (v := v) (by simpa using e)
      exact ⟨t, by simpa using et, q⟩
theorem MdsIn.snoc {N : Addr → Prop} {H : Hp} {t : Tr} {v : V} (y : MdIn N H t v) : ∀ {ts : List Tr} {vs : List V}, MdsIn N H ts vs → MdsIn N H (ts ++ [t]) (vs ++ [v])
  | [], vs, x => by simp only [MdsIn] at x; subst x; simp only [List.nil_append, MdsIn]; exact ⟨v, [], rfl, y, rfl⟩
  | p :: r, vs, x => by
    simp only [MdsIn] at x
    obtain ⟨u, ws, ev, y', z⟩ := x
    subst ev
    simp only [List.cons_append, MdsIn]
    exact ⟨u, ws ++ [v], rfl, y', MdsIn.snoc y z⟩
theorem MdIn.same {N : Addr → Prop} {H H' : Hp} {t : Tr} {v : V} (x : MdIn N H t v) (s : Same H H') : MdIn N H' t v := x.mono fun b o n e => ⟨n, s b o e⟩
end TR

set_option linter.all false
/-! Signs of texts as lists of numbers: parts at one sign, words between blanks, padding. Own work. -/
namespace TX
end TX

set_option Elab.async false
set_option linter.all false
set_option maxRecDepth 100000
set_option maxHeartbeats 4000000
/-! Texts over the hand layer: their mathematics as lists of numbers; split, replace, startswith, walks over the signs, cuts, repeats. Own work. -/
namespace L2
open PySem PySem.Spec PyProof.Rows Builtin Builtin.Str
/-! ### texts as lists of numbers -/
def cpl (x : Str) : List Nat := x.cps.toList
theorem cpl_len (x : Str) : (cpl x).length = x.length := by simp [cpl, Str.length]
theorem cpl_cat (x y : Str) : cpl (x ++ y) = cpl x ++ cpl y := by
  show (x ++ y).cps.toList = _
  rw [Str.cps_append, Array.toList_append]; rfl
/-! ### rules -/
section
variable {X : Cx}
end
end L2

set_option Elab.async false
set_option linter.all false
set_option maxRecDepth 100000
set_option maxHeartbeats 4000000
/-! Texts over the hand layer: walks over the signs, repeats, replace behind a def's entry. Own work. -/
namespace L2
open PySem PySem.Spec PyProof.Rows Builtin Builtin.Str
section
variable {X : Cx} {tg : Expr}
end
end L2

set_option Elab.async false
set_option linter.all false
set_option maxRecDepth 100000
set_option maxHeartbeats 4000000
/-! Behind a def's entry at least one token has been counted: str.replace with written texts. Own work. -/
namespace L2
open PySem PySem.Spec PyProof.Rows Builtin Builtin.Str
section
variable {X : Cx}
end
/-! ### the entry -/
section
variable {M : Model} {A : Around} {E : Value → Shared → Prop} {s₀ : Shared} {env : Env}
end
end L2

set_option Elab.async false
set_option linter.all false
set_option maxRecDepth 100000
set_option maxHeartbeats 4000000
/-! Texts over the hand layer: join. Own work. -/
namespace L2
open PySem PySem.Spec PyProof.Rows Builtin Builtin.Str
section
variable {X : Cx}
end
end L2
namespace TX
end TX
namespace L2
open PySem
end L2

set_option Elab.async false
set_option linter.all false
set_option maxRecDepth 100000
set_option maxHeartbeats 4000000
namespace K32
open PySem L2
def top (i : Nat) : Stmt := PySem.Challenge.pw_macrohouse_k32_variables.main.body.getD i (.Pass ⟨0, 0, 0, 0⟩)
abbrev sIsName : Stmt := top 10
abbrev sKeyOf : Stmt := top 11
abbrev sSign : Stmt := top 13
abbrev sPieces : Stmt := top 14
abbrev sFixed : Stmt := top 15
abbrev sIsPat : Stmt := top 16
abbrev sVars : Stmt := top 17
abbrev sDepthsOf : Stmt := top 18
abbrev sVarWords : Stmt := top 19
abbrev sCell : Stmt := top 21
abbrev sName : Stmt := top 22
abbrev sLeaf : Stmt := top 23
abbrev sLPieces : Stmt := top 24
abbrev sModel : Stmt := top 25
abbrev sRow : Stmt := top 26
abbrev sTree : Stmt := top 27
abbrev sAlike : Stmt := top 28
abbrev sDepths : Stmt := top 29
abbrev sTold : Stmt := top 30
abbrev sFixT : Stmt := top 31
abbrev sOdd : Stmt := top 32
abbrev sLaw : Stmt := top 33
structure Txt (K : PySem.W.Frag) (mg : Str → Option Value) (nn : Addr) : Prop where
  len : mg "len" = none
  isi : mg "isinstance" = none
  enum : mg "enumerate" = none
  all : mg "all" = none
  zip : mg "zip" = none
  tuple : mg "tuple" = none
  bool : mg "bool" = none
  dict : mg "dict" = none
  int : mg "int" = none
  min : mg "min" = none
  max : mg "max" = none
  mnn : mg "NO_NAMES" = some (.ref nn)
  nns : ∀ H, SqT K H nn [.str "*", .str "="]
/-- a statement that is not come to -/
theorem ps_never {X : Cx} {st : Stmt} : PS X st (fun _ _ _ => False) := fun _ _ _ _ _ _ h => h.elim
end K32

set_option Elab.async false
set_option linter.all false
set_option maxRecDepth 100000
set_option maxHeartbeats 4000000
/-! The classes of trees: how they are made, what their fields hold. Own work (made of a template for each statement that reaches them). -/
namespace K32
open PySem L2 TR
abbrev sTI : Stmt := inClass (top 6) 0
abbrev sWI : Stmt := inClass (top 7) 0
abbrev sFI : Stmt := inClass (top 8) 0
abbrev sRI : Stmt := inClass (top 9) 0
theorem maxI_deeps : ∀ (ts : List Tr), maxI (ts.map fun t => (deep t : Int)) 0 = (deeps ts : Int) := by
  have key : ∀ (ts : List Tr) (z : Nat), (ts.map fun t => (deep t : Int)).foldl (fun a b => if b > a then b else a) (z : Int) = ((max z (deeps ts) : Nat) : Int) := by
    intro ts
    induction ts with
    | nil => intro z; simp [deeps]
    | cons p r ih =>
      intro z
      simp only [List.map_cons, List.foldl_cons, deeps]
      by_cases h : (deep p : Int) > (z : Int)
      · rw [if_pos h, ih]; congr 1; omega
      · rw [if_neg h, ih]; congr 1; omega
  intro ts
  cases ts with
  | nil => rfl
  | cons p r =>
    show (r.map fun t => (deep t : Int)).foldl _ (deep p : Int) = _
    rw [key]; simp [deeps]
theorem sum_many (ts : List Tr) : (ts.map fun t => (many t : Int)).sum = (manys ts : Int) := by
  induction ts with
  | nil => rfl
  | cons p r ih => simp only [List.map_cons, List.sum_cons, manys, ih]; omega
/-! ### what is asked of the classes -/
structure TC (K : PySem.W.Frag) (C : Addr) : Prop where
  cl : Cls K C
  nA : NoAttr K C "at"
  nM : NoAttr K C "many"
  nD : NoAttr K C "deep"
  ha : PySem.W.findIn K (.ref C) "__class__" = some (some (.builtin "object.__class__"))
  hm : PySem.W.mroIn K C (.type "object") = some true
structure Tcs (K : PySem.W.Frag) (mg : Str → Option Value) (c : C4) : Prop where
  tw : TC K c.W
  tf : TC K c.F
  tr : TC K c.R
  nWn : NoAttr K c.W "name"
  nWb : NoAttr K c.W "bits"
  nFn : NoAttr K c.F "number"
  nRp : NoAttr K c.R "parts"
  mgT : mg "Tree" = some (.ref c.T)
  mgW : mg "Word" = some (.ref c.W)
  mgF : mg "Figure" = some (.ref c.F)
  mgR : mg "Row" = some (.ref c.R)
  hn : PySem.W.specialIn K (.builtin "object.__class__") "__get__" = some (some (.builtin "getset_descriptor.__get__"))
  htk : PySem.W.takesIn K (.builtin "object.__class__") = some true
  iWW : PySem.W.kitOne K (.ref c.W) (.ref c.W) = some true
  iFW : PySem.W.kitOne K (.ref c.F) (.ref c.W) = some false
  iRW : PySem.W.kitOne K (.ref c.R) (.ref c.W) = some false
  iWF : PySem.W.kitOne K (.ref c.W) (.ref c.F) = some false
  iFF : PySem.W.kitOne K (.ref c.F) (.ref c.F) = some true
  iRF : PySem.W.kitOne K (.ref c.R) (.ref c.F) = some false
  iWR : PySem.W.kitOne K (.ref c.W) (.ref c.R) = some false
  iFR : PySem.W.kitOne K (.ref c.F) (.ref c.R) = some false
  iRR : PySem.W.kitOne K (.ref c.R) (.ref c.R) = some true
  iWT : PySem.W.kitOne K (.ref c.W) (.ref c.T) = some true
  iFT : PySem.W.kitOne K (.ref c.F) (.ref c.T) = some true
  iRT : PySem.W.kitOne K (.ref c.R) (.ref c.T) = some true
  list : mg "list" = none
  max : mg "max" = none
  sum : mg "sum" = none
/-! ### fields -/
theorem fW_at {n : Str} {a : Int} {b : Nat} : (fW n a b).lookup ("at" : Str) = some (.int a) := by rfl
theorem fW_many {n : Str} {a : Int} {b : Nat} : (fW n a b).lookup ("many" : Str) = some (.int 1) := by rfl
theorem fW_deep {n : Str} {a : Int} {b : Nat} : (fW n a b).lookup ("deep" : Str) = some (.int 0) := by rfl
theorem fW_name {n : Str} {a : Int} {b : Nat} : (fW n a b).lookup ("name" : Str) = some (.str n) := by rfl
theorem fW_bits {n : Str} {a : Int} {b : Nat} : (fW n a b).lookup ("bits" : Str) = some (.int b) := by rfl
theorem fF_at {z a : Int} : (fF z a).lookup ("at" : Str) = some (.int a) := by rfl
theorem fF_many {z a : Int} : (fF z a).lookup ("many" : Str) = some (.int 1) := by rfl
theorem fF_deep {z a : Int} : (fF z a).lookup ("deep" : Str) = some (.int 0) := by rfl
theorem fF_num {z a : Int} : (fF z a).lookup ("number" : Str) = some (.int z) := by rfl
theorem fR_at {l : Addr} {m d : Nat} {a : Int} : (fR l m d a).lookup ("at" : Str) = some (.int a) := by rfl
theorem fR_many {l : Addr} {m d : Nat} {a : Int} : (fR l m d a).lookup ("many" : Str) = some (.int m) := by rfl
theorem fR_deep {l : Addr} {m d : Nat} {a : Int} : (fR l m d a).lookup ("deep" : Str) = some (.int d) := by rfl
theorem fR_parts {l : Addr} {m d : Nat} {a : Int} : (fR l m d a).lookup ("parts" : Str) = some (.ref l) := by rfl
/-! ### promises of the program -/
def spTI (K : PySem.W.Frag) : Sp := fun vs H Q _ => ∃ (p C dx : Addr) (a m d : Int), vs = [.ref p, .int a, .int m, .int d] ∧ H p = some (.ins C dx []) ∧ TC K C ∧ Q .non (upd H p (.ins C dx (f3 a m d)))
def spWI (c : C4) : Sp := fun vs H Q _ => ∃ (p dx : Addr) (n : Str) (a : Int) (b : Nat), vs = [.ref p, .str n, .int a, .int b] ∧ H p = some (.ins c.W dx []) ∧ Q .non (upd H p (.ins c.W dx (fW n a b)))
def spFI (c : C4) : Sp := fun vs H Q _ => ∃ (p dx : Addr) (z a : Int), vs = [.ref p, .int z, .int a] ∧ H p = some (.ins c.F dx []) ∧ Q .non (upd H p (.ins c.F dx (fF z a)))
def spRI (c : C4) : Sp := fun vs H Q _ => ∃ (p dx l : Addr) (us : List V) (ts : List Tr) (a : Int), vs = [.ref p, .ref l, .int a] ∧ H p = some (.ins c.R dx []) ∧ H l = some (.lst us) ∧ TrsIn c All H ts us ∧ ts.length ≤ 1000 ∧
  ∀ (H' : Hp) (l2 : Addr), (∀ b o, b ≠ p → H b = some o → H' b = some o) → H' p = some (.ins c.R dx (fR l2 (1 + manys ts) (deeps ts + 1) a)) → H l2 = none → H' l2 = some (.lst us) → Q .non H'
/-- the free addresses -/
abbrev Free (H : Hp) : Addr → Prop := fun q => H q = none
section
variable {P : Program} {w : World} {K : PySem.W.Frag} {mg : Str → Option Value} {base : Heap} {c : C4}
theorem scTI : FnScope ["self", "at", "many", "deep"] ["self", "at", "many", "deep"] (defScope sTI) := ⟨rfl, rfl, rfl, by decide +kernel, rfl, by decide +kernel, by decide +kernel⟩
theorem ok_ti {f : Addr} {fd : FuncData} (F : Fun K "__init__" "Tree.__init__" sTI f fd) : FnOk P w K mg base CX0 1 f fd ["self", "at", "many", "deep"] (spTI K) := by
  refine F.ok scTI (fun vs H Q E h => ?_) (fun cdv A outer s H vs Q E hr h => ?_)
  · obtain ⟨p, C, dx, a, m, d, rfl, _⟩ := h; rfl
  · obtain ⟨p, C, dx, a, m, d, rfl, hp, tc, q⟩ := h
    refine ⟨_, pss_cons (ps_fld (pv 0) (pv 1) rfl) (pss_cons (ps_fld (pv 0) (pv 2) rfl) (pss_one (ps_fld (pv 0) (pv 3) rfl))), ?_⟩
    refine ⟨_, rfl, _, rfl, p, C, dx, [], rfl, hp, tc.cl, tc.nA, (by show 0 < 1000; decide), ?_⟩
    rw [putF_nil]
    refine ⟨_, rfl, _, rfl, p, C, dx, _, rfl, upd_same, tc.cl, tc.nM, (by show 1 < 1000; decide), ?_⟩
    rw [put_many, upd_upd]
    refine ⟨_, rfl, _, rfl, p, C, dx, _, rfl, upd_same, tc.cl, tc.nD, (by show 2 < 1000; decide), ?_⟩
    rw [put_deep, upd_upd]
    exact q
theorem scWI : FnScope ["self", "name", "at", "bits"] ["self", "name", "at", "bits"] (defScope sWI) := ⟨rfl, rfl, rfl, by decide +kernel, rfl, by decide +kernel, by decide +kernel⟩
theorem ok_wi {f fT T0 : Addr} {fd fdT : FuncData} (F : FunD K "__init__" "Word.__init__" sWI f fd T0) (T : Tcs K mg c) (FT : Fun K "__init__" "Tree.__init__" sTI fT fdT) (bT : Binds K fdT ["self", "at", "many", "deep"] []) (cT : ClsFn K c.T "__init__" fT) :
    FnOk P w K mg base CX0 2 f fd ["self", "name", "at", "bits"] (spWI c) := by
  have GT : FnOk P w K mg base CX0 1 fT fdT ["self", "at", "many", "deep"] (spTI K) := ok_ti FT
  refine F.ok scWI (fun vs H Q E h => ?_) (fun cdv A outer s H vs Q E hr h => ?_)
  · obtain ⟨p, dx, n, a, b, rfl, _⟩ := h; rfl
  · obtain ⟨p, dx, n, a, b, rfl, hp, q⟩ := h
    refine ⟨_, pss_cons (ps_expr (pe_clsfn (by rfl) T.mgT cT GT hr bT .nil pass0 (pa_cons (pv 0) (pa_cons (pv 2) (pa_cons pe_int (pa_cons pe_int pa_nil))))))
      (pss_cons (ps_fld (pv 0) (pv 1) rfl) (pss_one (ps_fld (pv 0) (pv 3) rfl))), ?_⟩
    refine ⟨_, rfl, _, rfl, p, c.W, dx, a, 1, 0, rfl, hp, T.tw, ?_⟩
    refine ⟨_, rfl, _, rfl, p, c.W, dx, _, rfl, upd_same, T.tw.cl, T.nWn, (by show 3 < 1000; decide), ?_⟩
    rw [put_x (by decide +kernel) (by decide +kernel) (by decide +kernel), upd_upd]
    refine ⟨_, rfl, _, rfl, p, c.W, dx, _, rfl, upd_same, T.tw.cl, T.nWb, (by show 4 < 1000; decide), ?_⟩
    rw [put_bits, upd_upd]
    exact q
theorem scFI : FnScope ["self", "number", "at"] ["self", "number", "at"] (defScope sFI) := ⟨rfl, rfl, rfl, by decide +kernel, rfl, by decide +kernel, by decide +kernel⟩
theorem ok_fi {f fT : Addr} {fd fdT : FuncData} (F : Fun K "__init__" "Figure.__init__" sFI f fd) (T : Tcs K mg c) (FT : Fun K "__init__" "Tree.__init__" sTI fT fdT) (bT : Binds K fdT ["self", "at", "many", "deep"] []) (cT : ClsFn K c.T "__init__" fT) :
    FnOk P w K mg base CX0 2 f fd ["self", "number", "at"] (spFI c) := by
  have GT : FnOk P w K mg base CX0 1 fT fdT ["self", "at", "many", "deep"] (spTI K) := ok_ti FT
  refine F.ok scFI (fun vs H Q E h => ?_) (fun cdv A outer s H vs Q E hr h => ?_)
  · obtain ⟨p, dx, z, a, rfl, _⟩ := h; rfl
  · obtain ⟨p, dx, z, a, rfl, hp, q⟩ := h
    refine ⟨_, pss_cons (ps_expr (pe_clsfn (by rfl) T.mgT cT GT hr bT .nil pass0 (pa_cons (pv 0) (pa_cons (pv 2) (pa_cons pe_int (pa_cons pe_int pa_nil))))))
      (pss_one (ps_fld (pv 0) (pv 1) rfl)), ?_⟩
    refine ⟨_, rfl, _, rfl, p, c.F, dx, a, 1, 0, rfl, hp, T.tf, ?_⟩
    refine ⟨_, rfl, _, rfl, p, c.F, dx, _, rfl, upd_same, T.tf.cl, T.nFn, (by show 3 < 1000; decide), ?_⟩
    rw [put_x (by decide +kernel) (by decide +kernel) (by decide +kernel), upd_upd]
    exact q
/-! ### what a tree's fields hold -/
theorem fld_many {t : Tr} {v : V} {H : Hp} (T : Tcs K mg c) (x : TrIn c All H t v) : ∃ p C dx fs, v = .ref p ∧ H p = some (.ins C dx fs) ∧ Cls K C ∧ NoAttr K C "many" ∧ fs.lookup ("many" : Str) = some (.int (many t)) := by
  cases t with
  | word n a b =>
    simp only [TrIn] at x
    obtain ⟨p, dx, e, _, h⟩ := x
    exact ⟨p, _, dx, _, e, h, T.tw.cl, T.tw.nM, fW_many⟩
  | fig z a =>
    simp only [TrIn] at x
    obtain ⟨p, dx, e, _, h⟩ := x
    exact ⟨p, _, dx, _, e, h, T.tf.cl, T.tf.nM, fF_many⟩
  | row ps a =>
    simp only [TrIn] at x
    obtain ⟨p, dx, l, vs, e, _, h, _⟩ := x
    exact ⟨p, _, dx, _, e, h, T.tr.cl, T.tr.nM, by rw [fR_many]; simp only [many]⟩
theorem fld_deep {t : Tr} {v : V} {H : Hp} (T : Tcs K mg c) (x : TrIn c All H t v) : ∃ p C dx fs, v = .ref p ∧ H p = some (.ins C dx fs) ∧ Cls K C ∧ NoAttr K C "deep" ∧ fs.lookup ("deep" : Str) = some (.int (deep t)) := by
  cases t with
  | word n a b =>
    simp only [TrIn] at x
    obtain ⟨p, dx, e, _, h⟩ := x
    exact ⟨p, _, dx, _, e, h, T.tw.cl, T.tw.nD, fW_deep⟩
  | fig z a =>
    simp only [TrIn] at x
    obtain ⟨p, dx, e, _, h⟩ := x
    exact ⟨p, _, dx, _, e, h, T.tf.cl, T.tf.nD, fF_deep⟩
  | row ps a =>
    simp only [TrIn] at x
    obtain ⟨p, dx, l, vs, e, _, h, _⟩ := x
    exact ⟨p, _, dx, _, e, h, T.tr.cl, T.tr.nD, by rw [fR_deep]; simp only [deep]⟩
theorem take_snoc {α : Type} {xs : List α} {k : Nat} {x : α} (h : xs[k]? = some x) : xs.take (k + 1) = xs.take k ++ [x] := by rw [List.take_succ, h]; rfl
/-! ### Row.__init__ -/
theorem scRI : FnScope ["self", "parts", "at", "many", "deep"] ["self", "parts", "at"] (defScope sRI) := ⟨rfl, rfl, rfl, by decide +kernel, rfl, by decide +kernel, by decide +kernel⟩
theorem lcRI : LcS (defScope sRI).names [(".0", .local), ("part", .local)] ["self", "parts", "at", "many", "deep"] [false, false, false, false, false] :=
  ⟨by decide +kernel, by decide +kernel, by decide +kernel, by decide +kernel, by decide +kernel, rfl⟩
theorem ndRI : (["self", "parts", "at", "many", "deep", "part"] : List Str).Nodup := by decide +kernel
theorem ok_ri {f fT : Addr} {fd fdT : FuncData} (F : Fun K "__init__" "Row.__init__" sRI f fd) (T : Tcs K mg c) (FT : Fun K "__init__" "Tree.__init__" sTI fT fdT) (bT : Binds K fdT ["self", "at", "many", "deep"] []) (cT : ClsFn K c.T "__init__" fT) :
    FnOk P w K mg base CX0 2 f fd ["self", "parts", "at"] (spRI c) := by
  have GT : FnOk P w K mg base CX0 1 fT fdT ["self", "at", "many", "deep"] (spTI K) := ok_ti FT
  refine F.ok scRI (fun vs H Q E h => ?_) (fun cdv A outer s H vs Q E hr h => ?_)
  · obtain ⟨p, dx, l, us, ts, a, rfl, _⟩ := h; rfl
  · obtain ⟨p, dx, l, us, ts, a, rfl, hp, hl, hts, hlen, q⟩ := h
    have nd := scRI.nd
    refine ⟨_, pss_cons (ps_set (i := 3) nd rfl (Or.inl rfl) (pe_op op_add pe_int (pe_callB (call_sumI rfl) (by rfl) T.sum bt_sum (pa_cons (pe_lc (ext := ["part"]) lcRI rfl (pi_list (pv 1))
          ⟨fun _ _ _ _ _ => pg_name (i := 5) ndRI rfl (Or.inl rfl), fun _ _ _ _ _ => pts_nil, fun _ _ _ _ _ => (pe_fld (pv 5) rfl : PE _ _ (tFld K (tVar 5) ("many" : Str)))⟩) pa_nil))))
      (pss_cons (ps_set (i := 4) nd rfl (Or.inl rfl) (pe_op op_add pe_int (pe_maxD rfl (by rfl) T.max (pa_cons (pe_lc (ext := ["part"]) lcRI rfl (pi_list (pv 1))
          ⟨fun _ _ _ _ _ => pg_name (i := 5) ndRI rfl (Or.inl rfl), fun _ _ _ _ _ => pts_nil, fun _ _ _ _ _ => (pe_fld (pv 5) rfl : PE _ _ (tFld K (tVar 5) ("deep" : Str)))⟩) pa_nil))))
      (pss_cons (ps_expr (pe_clsfn (by rfl) T.mgT cT GT hr bT .nil pass0 (pa_cons (pv 0) (pa_cons (pv 2) (pa_cons (pv 3) (pa_cons (pv 4) pa_nil))))))
      (pss_one (ps_fld (pv 0) (pe_callTy call_list_of (by rfl) T.list bt_list (pa_cons (pv 1) pa_nil)) rfl)))), ?_⟩
    have hul : us.length = ts.length := hts.length
    have hsz : us.length ≤ sizeLine := by rw [sizeLine_eq]; omega
    -- many
    refine ⟨_, rfl, l, rfl, ⟨_, SqL.of hl⟩, fun D hD => ?_⟩
    refine lc_grow (xs := us) (fun k ys H1 => ys = (ts.take k).map fun t => V.int (many t)) hD (SqL.of hl) hsz rfl (fun k x v ys H1 R hx hy hS hDD hP hR => ?_) (fun ys H1 hy hS hDD hP => ?_)
    · obtain ⟨t, ht, htr⟩ := hts.get hx
      obtain ⟨p', C, dx', fs, ev, hp', cl, na, hlk⟩ := fld_many T (htr.same hS)
      refine ⟨_, rfl, p', C, dx', fs, _, ev, hp', cl, na, hlk, hR _ _ (Same.refl _) ?_⟩
      rw [take_snoc ht, List.map_append, hP]; rfl
    have hys : ys = (ts.map fun t => (many t : Int)).map V.int := by
      rw [hP, hul, List.take_length, List.map_map]; rfl
    refine ⟨D, ts.map fun t => (many t : Int), rfl, SqL.of (by rw [hDD, hys]), _, _, rfl, rfl, ?_⟩
    rw [sum_many]
    have hl1 := hS _ _ hl
    have hp1 := hS _ _ hp
    -- deep
    refine ⟨_, rfl, l, rfl, ⟨_, SqL.of hl1⟩, fun D2 hD2 => ?_⟩
    refine lc_grow (xs := us) (fun k ys H2 => ys = (ts.take k).map fun t => V.int (deep t)) hD2 (SqL.of hl1) hsz rfl (fun k x v ys H2 R hx hy hS2 hDD2 hP2 hR => ?_) (fun ys2 H2 hy2 hS2 hDD2 hP2 => ?_)
    · obtain ⟨t, ht, htr⟩ := hts.get hx
      obtain ⟨p', C, dx', fs, ev, hp', cl, na, hlk⟩ := fld_deep T (htr.same (hS.trans hS2))
      refine ⟨_, rfl, p', C, dx', fs, _, ev, hp', cl, na, hlk, hR _ _ (Same.refl _) ?_⟩
      rw [take_snoc ht, List.map_append, hP2]; rfl
    have hys2 : ys2 = (ts.map fun t => (deep t : Int)).map V.int := by
      rw [hP2, hul, List.take_length, List.map_map]; rfl
    refine ⟨D2, ts.map fun t => (deep t : Int), rfl, SqL.of (by rw [hDD2, hys2]), _, _, rfl, rfl, ?_⟩
    rw [maxI_deeps]
    have hl2 := hS2 _ _ hl1
    have hp2 := hS2 _ _ hp1
    have hSS := hS.trans hS2
    -- Tree.__init__
    refine ⟨_, rfl, _, rfl, _, rfl, _, rfl, p, c.R, dx, a, _, _, rfl, hp2, T.tr, ?_⟩
    have npl : l ≠ p := ne_of hl hp (by intro z; cases z)
    -- parts
    refine ⟨_, rfl, l, us, rfl, .inl (SqL.of (by rw [upd_ne npl]; exact hl2)), fun l2 hl2n => ?_⟩
    have np2 : l2 ≠ p := fun z => by rw [z, upd_same] at hl2n; cases hl2n
    refine ⟨_, rfl, p, c.R, dx, _, rfl, (by rw [upd_ne np2.symm, upd_same]), T.tr.cl, T.nRp, (by show 3 < 1000; decide), ?_⟩
    rw [put_x (by decide +kernel) (by decide +kernel) (by decide +kernel)]
    have hl2H : H2 l2 = none := by rw [upd_ne np2] at hl2n; exact hl2n
    refine q _ l2 (fun b o hb e => ?_) ?_ (hSS.free hl2H) ?_
    · have nb : b ≠ l2 := fun z => by rw [z, hSS.free hl2H] at e; cases e
      rw [upd_ne hb, upd_ne nb, upd_ne hb]
      exact hSS _ _ e
    · rw [upd_same]
      unfold fR
      simp only [Int.natCast_add, Int.natCast_one]
      congr 4
      all_goals first | rfl | (simp only [V.int.injEq, Prod.mk.injEq, List.cons.injEq, true_and, and_true]; omega)
    · rw [upd_ne np2, upd_same]
theorem tyW {n : Str} {a : Int} {b : Nat} {v : V} {H : Hp} (T : Tcs K mg c) (x : TrIn c All H (.word n a b) v) : TyOf K H v (.ref c.W) := by
  simp only [TrIn] at x
  obtain ⟨p, dx, rfl, _, h⟩ := x
  exact .ins h T.tw.cl T.tw.ha T.hn T.htk T.tw.hm
theorem tyF {z a : Int} {v : V} {H : Hp} (T : Tcs K mg c) (x : TrIn c All H (.fig z a) v) : TyOf K H v (.ref c.F) := by
  simp only [TrIn] at x
  obtain ⟨p, dx, rfl, _, h⟩ := x
  exact .ins h T.tf.cl T.tf.ha T.hn T.htk T.tf.hm
theorem tyR {ps : List Tr} {a : Int} {v : V} {H : Hp} (T : Tcs K mg c) (x : TrIn c All H (.row ps a) v) : TyOf K H v (.ref c.R) := by
  simp only [TrIn] at x
  obtain ⟨p, dx, l, vs, rfl, _, h, _⟩ := x
  exact .ins h T.tr.cl T.tr.ha T.hn T.htk T.tr.hm
theorem made_same {H : Hp} {x dx : Addr} {o : HO} {o' : HO} (hx : H x = none) (hd : H dx = none) : Same H (upd (upd H dx o) x o') := fun b u e => by
  rw [upd_ne (ne_of_none e hx), upd_ne (ne_of_none e hd)]; exact e
/-- the makers of the classes -/
structure Mks (K : PySem.W.Frag) (c : C4) (fW fF fR : Addr) : Prop where
  w : Mk K c.W fW
  f : Mk K c.F fF
  r : Mk K c.R fR
/-- a Row is made of parts that stand at addresses that are N -/
theorem row_made {N : Addr → Prop} {H : Hp} {l : Addr} {us : List V} {ts : List Tr} {a : Int} {Q : VK} (hN : ∀ b, H b = none → N b) (hl : H l = some (.lst us)) (hts : TrsIn c N H ts us) (hlen : ts.length ≤ 1000)
    (q : ∀ (H' : Hp) (x : V), Same H H' → TrIn c N H' (.row ts a) x → Q x H') (x dx : Addr) (nx : H x = none) (ndx : H dx = none) :
    spRI c (.ref x :: ([.ref l, .int a] ++ [])) (upd (upd H dx (.own x)) x (.ins c.R dx [])) (fun v H2 => v = .non ∧ Q (.ref x) H2) E0 := by
  have hM := made_same (o := .own x) (o' := .ins c.R dx []) nx ndx
  refine ⟨x, dx, l, us, ts, a, rfl, upd_same, hM _ _ hl, hts.mono fun b o _ e => ⟨trivial, hM _ _ e⟩, hlen, fun H' l2 hk hx hl2 hl2' => ⟨rfl, ?_⟩⟩
  have hS' : Same H H' := fun b o e => hk b o (ne_of_none e nx) (hM _ _ e)
  refine q _ _ hS' ?_
  simp only [TrIn]
  exact ⟨x, dx, l2, us, rfl, hN _ nx, hx, hN _ (hM.free hl2), hl2', hlen, hts.mono fun b o n e => ⟨n, hS' _ _ e⟩⟩
theorem deeps_get {ts : List Tr} {i : Nat} {t : Tr} (h : ts[i]? = some t) : deep t ≤ deeps ts := deep_le_of_mem (List.mem_of_getElem? h)
end
end K32

set_option Elab.async false
set_option linter.all false
set_option maxRecDepth 100000
set_option maxHeartbeats 4000000
set_option exponentiation.threshold 3000
/-! k32: the law's small defs: cells, names. Own work. -/
namespace K32
open PySem L2 TR
theorem iteN {b : Bool} {A B : Prop} (h : b = false) (q : B) : if b = true then A else B := by rw [h]; exact iteF q
theorem iteY {b : Bool} {A B : Prop} (h : b = true) (q : A) : if b = true then A else B := by rw [h]; exact iteT q
theorem atI_some {α : Type} {xs : List α} {i : Int} (h0 : 0 ≤ i) (h1 : i < xs.length) : ∃ x, atI xs i = some x ∧ x ∈ xs := by
  have hi : i.toNat < xs.length := by omega
  refine ⟨xs[i.toNat], ?_, List.getElem_mem hi⟩
  unfold atI ixN
  rw [if_pos h0, if_pos h1]
  exact List.getElem?_eq_getElem hi
def spCell (K : PySem.W.Frag) : Sp := fun vs H Q _ => ∃ (a : Addr) (k : Int) (ns : List Int), vs = [.ref a, .int k] ∧ SqL K H a (ns.map V.int) ∧ 0 ≤ k ∧ ∀ z : Int, Q (.int z) H
/-- no sign by itself -/
def Nv (x : Str) : Prop := ∃ d r, cpl x = d :: r ∧ d ≠ 42 ∧ d ≠ 61
theorem Nv.star {x : Str} (h : Nv x) : x ≠ "*" := fun e => by
  obtain ⟨d, r, e1, h1, _⟩ := h
  rw [e, show cpl ("*" : Str) = [42] from rfl] at e1
  injection e1 with e2; exact h1 e2.symm
theorem Nv.same {x : Str} (h : Nv x) : x ≠ "=" := fun e => by
  obtain ⟨d, r, e1, _, h1⟩ := h
  rw [e, show cpl ("=" : Str) = [61] from rfl] at e1
  injection e1 with e2; exact h1 e2.symm
theorem Nv.cat {x y : Str} (h : Nv x) : Nv (x ++ y) := by
  obtain ⟨d, r, e, h1, h2⟩ := h
  exact ⟨d, r ++ cpl y, by rw [cpl_cat, e]; rfl, h1, h2⟩
def spName : Sp := fun vs H Q _ => ∃ z : Int, vs = [.int z] ∧ ∀ x : Str, Nv x → Q (.str x) H
section
variable {P : Program} {w : World} {K : PySem.W.Frag} {mg : Str → Option Value} {base : Heap} {c : C4}
theorem scCell : FnScope ["_law_script", "_law_k"] ["_law_script", "_law_k"] (defScope sCell) := ⟨rfl, rfl, rfl, by decide +kernel, rfl, by decide +kernel, by decide +kernel⟩
theorem ok_cell {f : Addr} {fd : FuncData} (F : Fun K "_law_cell_at" "_law_cell_at" sCell f fd) {nn : Addr} (T : Txt K mg nn) : FnOk P w K mg base CX0 1 f fd ["_law_script", "_law_k"] (spCell K) := by
  refine F.ok scCell (fun vs H Q E h => ?_) (fun cdv A outer s H vs Q E hr h => ?_)
  · obtain ⟨a, k, ns, rfl, _⟩ := h; rfl
  · obtain ⟨a, k, ns, rfl, hS, k0, q⟩ := h
    refine ⟨_, pss_cons (ps_if (pt_cmpR op_lt (pv 1) (pe_callB call_len_seq (by rfl) T.len bt_len (pa_cons (pv 0) pa_nil)) (nomark _)) (pss_one (ps_ret (pe_ix ix_list (pv 0) (pv 1) (fun _ _ => rfl)))) pss_nil)
      (pss_one (ps_ret pe_int)), ?_⟩
    refine ⟨_, rfl, _, rfl, a, _, rfl, .inl hS, _, _, rfl, rfl, _, rfl, ite2 (fun hlt => ?_) (fun _ => q 0)⟩
    obtain ⟨v, ev, hv⟩ := atI_some (xs := ns.map V.int) (i := k) k0 (of_decide_eq_true hlt)
    obtain ⟨z, _, rfl⟩ := List.mem_map.mp hv
    exact ⟨_, rfl, _, rfl, a, _, _, _, rfl, rfl, hS, ev, q z⟩
/-! ### _law_name -/
theorem scName : FnScope ["_law_cell", "_law_letters", "_law_some", "_law_name_here"] ["_law_cell"] (defScope sName) := ⟨rfl, rfl, rfl, by decide +kernel, rfl, by decide +kernel, by decide +kernel⟩
theorem ok_name {f : Addr} {fd : FuncData} (F : Fun K "_law_name" "_law_name" sName f fd) : FnOk P w K mg base CX0 1 f fd ["_law_cell"] spName := by
  refine F.ok scName (fun vs H Q E h => ?_) (fun cdv A outer s H vs Q E hr h => ?_)
  · obtain ⟨z, rfl, _⟩ := h; rfl
  · obtain ⟨z, rfl, q⟩ := h
    have nd := scName.nd
    refine ⟨_, pss_cons (ps_set (i := 1) nd rfl (Or.inl rfl) pe_str)
      (pss_cons (ps_set (i := 2) nd rfl (Or.inl rfl) (pe_op op_add_str (pv 1) pe_str))
      (pss_cons (ps_set (i := 3) nd rfl (Or.inl rfl) (pe_ix ix_str (pv 1) (pe_op op_mod (pv 0) pe_int) (fun _ _ => rfl)))
      (pss_cons (ps_set (i := 0) nd rfl (Or.inl rfl) (pe_op op_mod (pe_op op_fdiv (pv 0) pe_int) (pe_op op_pow pe_int pe_int)))
      (pss_cons (ps_while PassesOwn.never (pt_cmpR op_gt (pv 0) pe_int (nomark _))
        (pss_cons (ps_set (i := 3) nd rfl (Or.inl rfl) (pe_op op_add_str (pv 3) (pe_ix ix_str (pv 2) (pe_op op_mod (pv 0) pe_int) (fun _ _ => rfl))))
        (pss_one (ps_set (i := 0) nd rfl (Or.inl rfl) (pe_op op_fdiv (pv 0) pe_int)))))
      (pss_one (ps_ret (pv 3))))))), ?_⟩
    have a0 := Int.emod_nonneg z (show (26 : Int) ≠ 0 by decide)
    have a1 := Int.emod_lt_of_pos z (show (0 : Int) < 26 by decide)
    obtain ⟨d, ed, hdm⟩ := atI_some (xs := cpl ("abcdefghijklmnopqrstuvwxyz" : Str)) (i := z % 26) a0 (by rw [show (cpl ("abcdefghijklmnopqrstuvwxyz" : Str)).length = 26 from by decide]; exact a1)
    have b0 := Int.emod_nonneg (z / 26) (show ((10 : Int) ^ (12 : Int).toNat) ≠ 0 by decide)
    have b1 := Int.emod_lt_of_pos (z / 26) (show (0 : Int) < (10 : Int) ^ (12 : Int).toNat by decide)
    refine ⟨_, rfl, _, _, rfl, rfl, (by show 26 + 10 ≤ sizeLine; rw [sizeLine_eq]; decide), ?_⟩
    refine ⟨_, rfl, _, rfl, _, _, rfl, rfl, (by show (0 : Int) < _; decide), ("abcdefghijklmnopqrstuvwxyz" : Str), _, d, rfl, rfl, by decide, ed, ?_⟩
    refine ⟨_, rfl, _, _, rfl, rfl, ⟨by decide, by decide⟩, _, _, rfl, rfl, ⟨by decide, by decide, by decide⟩, _, _, rfl, rfl, (by show (0 : Int) < _; decide), ?_⟩
    refine while_by (fun σ H' => ∃ (n : Nat) (nm : Str) (k : Nat), σ = [some (.int (n : Int)), some (.str "abcdefghijklmnopqrstuvwxyz"), some (.str (("abcdefghijklmnopqrstuvwxyz" : Str) ++ "0123456789")), some (.str nm)] ∧ H' = H ∧ n < 36 ^ k ∧ nm.length + k ≤ 10 ∧ Nv nm)
      (fun σ _ => match σ with | some (.int n) :: _ => n.toNat | _ => 0) ⟨(z / 26 % 10 ^ (12 : Int).toNat).toNat, ⟨#[d]⟩, 8, ?_, rfl, ?_, (by show 1 + 8 ≤ 10; decide), ⟨d, [], rfl, (show ∀ k ∈ cpl ("abcdefghijklmnopqrstuvwxyz" : Str), k ≠ 42 ∧ k ≠ 61 by decide) d hdm⟩⟩ ?_ ?_
    · rw [Int.toNat_of_nonneg b0]; rfl
    · have : z / 26 % 10 ^ (12 : Int).toNat < 36 ^ 8 := Int.lt_trans b1 (by decide)
      omega
    · rintro σ H' ⟨n, nm, k, rfl, rfl, hn, hk, hnv⟩
      refine ⟨_, rfl, _, _, rfl, rfl, _, rfl, ite2 (fun hg => ?_) (fun _ => ⟨_, rfl, q nm hnv⟩)⟩
      have hg' : (n : Int) > 0 := of_decide_eq_true hg
      obtain ⟨k', rfl⟩ : ∃ k', k = k' + 1 := by
        cases k with
        | zero => rw [Nat.pow_zero] at hn; omega
        | succ k' => exact ⟨k', rfl⟩
      have c0 := Int.emod_nonneg (n : Int) (show (36 : Int) ≠ 0 by decide)
      have c1 := Int.emod_lt_of_pos (n : Int) (show (0 : Int) < 36 by decide)
      obtain ⟨e, ee, _⟩ := atI_some (xs := cpl (("abcdefghijklmnopqrstuvwxyz" : Str) ++ "0123456789")) (i := (n : Int) % 36) c0 (by rw [show (cpl (("abcdefghijklmnopqrstuvwxyz" : Str) ++ "0123456789")).length = 36 from by decide]; exact c1)
      refine ⟨_, rfl, _, rfl, _, rfl, _, _, rfl, rfl, (by show (0 : Int) < _; decide), (("abcdefghijklmnopqrstuvwxyz" : Str) ++ "0123456789"), _, e, rfl, rfl, by decide, ee, _, _, rfl, rfl, (by show nm.length + 1 ≤ sizeLine; rw [sizeLine_eq]; omega), ?_⟩
      refine ⟨_, rfl, _, _, rfl, rfl, ⟨by decide, by decide⟩, ⟨n / 36, nm ++ ⟨#[e]⟩, k', rfl, rfl, ?_, ?_, hnv.cat⟩, ?_⟩
      · rw [Nat.pow_succ] at hn
        exact Nat.div_lt_of_lt_mul (by omega)
      · rw [← cpl_len, cpl_cat, List.length_append, cpl_len]
        show nm.length + 1 + k' ≤ 10; omega
      · show ((n : Int) / 36).toNat < (n : Int).toNat
        omega
    · rintro σ H' Q1 Q2 hQ ⟨v, h, i, j, e1, e2, k, e3, q⟩
      exact ⟨v, h, i, j, e1, e2, k, e3, hQ _ _ q⟩
end
end K32

set_option Elab.async false
set_option linter.all false
set_option maxRecDepth 100000
set_option maxHeartbeats 4000000
/-! list.insert; a comprehension over a tuple. Own work. -/
namespace L2
open PySem PySem.Spec PyProof.Rows
section
variable {X : Cx}
end
end L2

set_option Elab.async false
set_option linter.all false
set_option maxRecDepth 100000
set_option maxHeartbeats 4000000
/-! k32: trees made of models, and held against them. Own work. -/
namespace K32
open PySem L2 TR
theorem yes_if {σ : St} {H : Hp} {A B : Hp → Prop} (h : A H) : tYes σ H (fun b H3 => if b = true then A H3 else B H3) := by
  show if true = true then A H else B H
  exact iteT h
theorem e_nw : decide (V.str (Str.ofString "n") = V.str (Str.ofString "w")) = false := by decide +kernel
theorem e_rw : decide (V.str (Str.ofString "r") = V.str (Str.ofString "w")) = false := by decide +kernel
theorem e_rn : decide (V.str (Str.ofString "r") = V.str (Str.ofString "n")) = false := by decide +kernel
theorem ne_self (x : V) : (!decide (x = x)) = false := by simp
def spNo : Sp := fun _ _ _ _ => False
def spTree (c : C4) (d : Nat) : Sp := fun vs H Q _ => ∃ (v : V) (t : Tr), vs = [v] ∧ MdIn All H t v ∧ deep t ≤ d ∧ ∀ (H' : Hp) (x : V), Same H H' → TrIn c (Free H) H' t x → Q x H'
def spAlike (c : C4) (d : Nat) : Sp := fun vs H Q _ => ∃ (v m : V) (t : Tr), vs = [v, m] ∧ TrIn c All H t v ∧ MdIn All H t m ∧ deep t ≤ d ∧ ∀ H', Same H H' → Q (.bl true) H'
/-- whether a tree is the word * -/
def starB : Tr → Bool
  | .word n _ _ => decide (V.str n = V.str "*")
  | _ => false
theorem eqVs_self : ∀ {xs : List V}, xs.all flatV = true → eqVs xs xs = true
  | [], _ => rfl
  | x :: r, h => by
    rw [List.all_cons, Bool.and_eq_true] at h
    have ih := eqVs_self h.2
    show (eqV x x && eqVs r r) = true
    rw [ih, Bool.and_true]
    cases x with
    | int i => show (i == i) = true; simp
    | str i => show (i == i) = true; simp
    | bl i => cases i <;> rfl
    | non => rfl
    | _ => first | rfl | (exact absurd h.1 (by decide)) | (have := h.1; simp [flatV] at this)
section
variable {P : Program} {w : World} {K : PySem.W.Frag} {mg : Str → Option Value} {base : Heap} {c : C4}
theorem fn_no {k : Nat} {f : Addr} {fd : FuncData} {ps : List Str} : FnOk P w K mg base CX0 k f fd ps spNo := ⟨fun _ _ _ _ h => h.elim, fun _ _ _ _ _ _ _ _ _ _ _ _ _ h => h.elim⟩
theorem scTree : FnScope ["_law_model_here"] ["_law_model_here"] (defScope sTree) := ⟨rfl, rfl, rfl, by decide +kernel, rfl, by decide +kernel, by decide +kernel⟩
theorem lcTree1 : LcS (defScope sTree).names [(".0", .local), ("_law_part", .local), ("_law_tree", .globalImplicit)] ["_law_model_here"] [false] := ⟨by decide +kernel, by decide +kernel, by decide +kernel, by decide +kernel, by decide +kernel, rfl⟩
theorem ndTree1 : (["_law_model_here", "_law_part"] : List Str).Nodup := by decide +kernel
theorem lcAlike1 : LcS (defScope sAlike).names [(".0", .local), ("_law_part", .local), ("_law_other", .local), ("_law_alike", .globalImplicit)] ["_law_found", "_law_model_here"] [false, false] := ⟨by decide +kernel, by decide +kernel, by decide +kernel, by decide +kernel, by decide +kernel, rfl⟩
theorem ndAlike1 : (["_law_found", "_law_model_here", "_law_part", "_law_other"] : List Str).Nodup := by decide +kernel
theorem tree_step {d : Nat} {f fWI fFI fRI : Addr} {fd fdW fdF fdR : FuncData} {sp : Sp} (FT : Fun K "_law_tree" "_law_tree" sTree f fd) (T : Tcs K mg c) (M : Mks K c fWI fFI fRI)
    (GW : FnOk P w K mg base CX0 2 fWI fdW ["self", "name", "at", "bits"] (spWI c)) (bW : Binds K fdW ["self", "name", "at", "bits"] []) (GF : FnOk P w K mg base CX0 2 fFI fdF ["self", "number", "at"] (spFI c)) (bF : Binds K fdF ["self", "number", "at"] [])
    (GR : FnOk P w K mg base CX0 2 fRI fdR ["self", "parts", "at"] (spRI c)) (bR : Binds K fdR ["self", "parts", "at"] []) (GT : FnOk P w K mg base CX0 (d + 3) f fd ["_law_model_here"] sp) (bT : Binds K fd ["_law_model_here"] []) (mT : mg "_law_tree" = some (.ref f))
    (hsp : ∀ e, d = e + 1 → sp = spTree c e) : FnOk P w K mg base CX0 (d + 4) f fd ["_law_model_here"] (spTree c d) := by
  refine FT.ok scTree (fun vs H Q E h => ?_) (fun cdv A outer s H vs Q E hr h => ?_)
  · obtain ⟨v, t, rfl, _⟩ := h; rfl
  · obtain ⟨v, t, rfl, ht, hd, q⟩ := h
    have hr3 : Room 3 _ := hr.mono (by omega)
    refine ⟨_, pss_cons (ps_if (pt_cmpR op_eq (pe_ix ix_tup (pv 0) pe_int (fun _ _ => rfl)) pe_str (nomark _))
      (pss_one (ps_ret (pe_make M.w GW hr3 (by rfl) T.mgW bW .nil pass0 (pa_cons (pe_ix ix_tup (pv 0) pe_int (fun _ _ => rfl)) (pa_cons (pe_ix ix_tup (pv 0) pe_int (fun _ _ => rfl)) (pa_cons (pe_ix ix_tup (pv 0) pe_int (fun _ _ => rfl)) pa_nil))))))
      pss_nil)
      (pss_cons (ps_if (pt_cmpR op_eq (pe_ix ix_tup (pv 0) pe_int (fun _ _ => rfl)) pe_str (nomark _))
      (pss_one (ps_ret (pe_make M.f GF hr3 (by rfl) T.mgF bF .nil pass0 (pa_cons (pe_ix ix_tup (pv 0) pe_int (fun _ _ => rfl)) (pa_cons (pe_ix ix_tup (pv 0) pe_int (fun _ _ => rfl)) pa_nil)))))
      pss_nil)
      (pss_one (ps_ret (pe_make M.r GR hr3 (by rfl) T.mgR bR .nil pass0 (pa_cons (pe_lc (ext := ["_law_part"]) lcTree1 rfl (pi_list (pe_ix ix_tup (pv 0) pe_int (fun _ _ => rfl)))
          ⟨fun _ _ _ _ _ => (pg_name (i := 1) ndTree1 rfl (Or.inl rfl) (.inr rfl)), fun _ _ _ _ _ => pts_nil, fun _ _ _ _ _ => (pe_call GT hr (by rfl) mT FT.kp bT .nil pass0 (pa_cons (pv 1) pa_nil))⟩) (pa_cons (pe_ix ix_tup (pv 0) pe_int (fun _ _ => rfl)) pa_nil)))))), ?_⟩
    cases t with
    | word n a b =>
      simp only [MdIn] at ht
      obtain ⟨p, rfl, _, h⟩ := ht
      refine ⟨_, rfl, p, _, _, _, rfl, rfl, SqT.of h, rfl, rfl, _, rfl, iteY (decide_eq_true rfl) ?_⟩
      refine ⟨_, rfl, p, _, _, _, rfl, rfl, SqT.of h, rfl, _, rfl, p, _, _, _, rfl, rfl, SqT.of h, rfl, _, rfl, p, _, _, _, rfl, rfl, SqT.of h, rfl, ?_⟩
      intro x dx' nx ndx nex
      refine ⟨x, dx', n, a, b, rfl, upd_same, rfl, ?_⟩
      rw [upd_upd]
      refine q _ _ (made_same nx ndx) ?_
      simp only [TrIn]
      exact ⟨x, dx', rfl, nx, upd_same⟩
    | fig z a =>
      simp only [MdIn] at ht
      obtain ⟨p, rfl, _, h⟩ := ht
      refine ⟨_, rfl, p, _, _, _, rfl, rfl, SqT.of h, rfl, rfl, _, rfl, iteN e_nw ?_⟩
      refine ⟨_, rfl, p, _, _, _, rfl, rfl, SqT.of h, rfl, rfl, _, rfl, iteY (decide_eq_true rfl) ?_⟩
      refine ⟨_, rfl, p, _, _, _, rfl, rfl, SqT.of h, rfl, _, rfl, p, _, _, _, rfl, rfl, SqT.of h, rfl, ?_⟩
      intro x dx' nx ndx nex
      refine ⟨x, dx', z, a, rfl, upd_same, rfl, ?_⟩
      rw [upd_upd]
      refine q _ _ (made_same nx ndx) ?_
      simp only [TrIn]
      exact ⟨x, dx', rfl, nx, upd_same⟩
    | row ps a =>
      simp only [MdIn] at ht
      obtain ⟨p, l, us, rfl, _, h, _, hl, hlen, hts⟩ := ht
      have hul : us.length = ps.length := hts.length
      simp only [deep] at hd
      refine ⟨_, rfl, p, _, _, _, rfl, rfl, SqT.of h, rfl, rfl, _, rfl, iteN e_rw ?_⟩
      refine ⟨_, rfl, p, _, _, _, rfl, rfl, SqT.of h, rfl, rfl, _, rfl, iteN e_rn ?_⟩
      refine ⟨_, rfl, p, _, _, _, rfl, rfl, SqT.of h, rfl, l, rfl, ⟨_, SqL.of hl⟩, fun D hDn => ?_⟩
      refine lc_grow (xs := us) (fun j ys H1 => TrsIn c (fun b => Free H b ∧ b ≠ D) H1 (ps.take j) ys) hDn (SqL.of hl) (by rw [sizeLine_eq]; omega) (by simp only [List.take_zero, TrsIn]) (fun j x v ys H1 R hx hy hS hDD hP hR => ?_) (fun ys H1 hy hS hDD hP => ?_)
      · obtain ⟨t, ht, htr⟩ := hts.get hx
        have hdt : deep t ≤ deeps ps := deeps_get ht
        obtain ⟨e, he⟩ : ∃ e, d = e + 1 := ⟨d - 1, by omega⟩
        have hs := hsp e he
        subst hs
        refine ⟨_, rfl, _, t, rfl, htr.same hS, by omega, fun H2 y hS2 hy2 => ?_⟩
        refine hR y H2 hS2 ?_
        rw [take_snoc ht]
        refine TrsIn.snoc (hy2.mono fun b o n e => ?_) (hP.mono fun b o n e => ⟨n, by rw [upd_ne n.2]; exact hS2 _ _ e⟩)
        have nb : b ≠ D := fun z => by rw [z] at n; rw [show H1 D = none from n] at hDD; cases hDD
        exact ⟨⟨hS.free n, nb⟩, by rw [upd_ne nb]; exact e⟩
      · refine ⟨_, rfl, p, _, _, _, rfl, rfl, SqT.of (hS _ _ h), rfl, ?_⟩
        rw [hul, List.take_length] at hP
        intro x dx' nx ndx nex
        exact row_made (N := Free H) (fun b hb => hS.free hb) hDD (hP.mono fun b o n e => ⟨n.1, e⟩) hlen (fun H' z hS' hz => q H' z (hS.trans hS') hz) x dx' nx ndx
theorem ok_tree {f fWI fFI fRI : Addr} {fd fdW fdF fdR : FuncData} (F : Fun K "_law_tree" "_law_tree" sTree f fd) (T : Tcs K mg c) (M : Mks K c fWI fFI fRI)
    (GW : FnOk P w K mg base CX0 2 fWI fdW ["self", "name", "at", "bits"] (spWI c)) (bW : Binds K fdW ["self", "name", "at", "bits"] []) (GF : FnOk P w K mg base CX0 2 fFI fdF ["self", "number", "at"] (spFI c)) (bF : Binds K fdF ["self", "number", "at"] [])
    (GR : FnOk P w K mg base CX0 2 fRI fdR ["self", "parts", "at"] (spRI c)) (bR : Binds K fdR ["self", "parts", "at"] []) (bT : Binds K fd ["_law_model_here"] []) (mT : mg "_law_tree" = some (.ref f)) :
    ∀ d, FnOk P w K mg base CX0 (d + 4) f fd ["_law_model_here"] (spTree c d)
  | 0 => tree_step (sp := spNo) F T M GW bW GF bF GR bR fn_no bT mT fun e h => by omega
  | d + 1 => tree_step (sp := spTree c d) F T M GW bW GF bF GR bR (ok_tree F T M GW bW GF bF GR bR bT mT d) bT mT fun e h => by
    obtain rfl : e = d := by omega
    rfl
/-! ### _law_alike -/
theorem scAlike : FnScope ["_law_found", "_law_model_here"] ["_law_found", "_law_model_here"] (defScope sAlike) := ⟨rfl, rfl, rfl, by decide +kernel, rfl, by decide +kernel, by decide +kernel⟩
theorem alike_step {d : Nat} {f : Addr} {fd : FuncData} {sp : Sp} (FA : Fun K "_law_alike" "_law_alike" sAlike f fd) (T : Tcs K mg c) {nn : Addr} (X : Txt K mg nn) (GA : FnOk P w K mg base CX0 d f fd ["_law_found", "_law_model_here"] sp) (bA : Binds K fd ["_law_found", "_law_model_here"] []) (mA : mg "_law_alike" = some (.ref f))
    (hsp : ∀ e, d = e + 1 → sp = spAlike c e) : FnOk P w K mg base CX0 (d + 1) f fd ["_law_found", "_law_model_here"] (spAlike c d) := by
  refine FA.ok scAlike (fun vs H Q E h => ?_) (fun cdv A outer s H vs Q E hr h => ?_)
  · obtain ⟨v, m, t, rfl, _⟩ := h; rfl
  · obtain ⟨v, m, t, rfl, ht, hm, hd, q⟩ := h
    have hu := hu_of hr
    have z3 : 3 ≤ sizeLine := by rw [sizeLine_eq]; decide
    have z2 : 2 ≤ sizeLine := by rw [sizeLine_eq]; decide
    refine ⟨_, pss_cons (ps_if (pt_cmpR op_eq (pe_ix ix_tup (pv 1) pe_int (fun _ _ => rfl)) pe_str (nomark _))
      (pss_one (ps_ret (pe_and (pe_callB call_isI (by rfl) X.isi bt_isinstance (pa_cons (pv 0) (pa_cons (pe_glob (v := .ref c.W) (by rfl) T.mgW rfl) pa_nil))) (pe_one (pe_cmpR (op_eqT hu) (pe_tup (pa_cons (pe_fld (pv 0) rfl : PE _ _ (tFld K (tVar 0) ("name" : Str))) (pa_cons (pe_fld (pv 0) rfl : PE _ _ (tFld K (tVar 0) ("at" : Str))) (pa_cons (pe_fld (pv 0) rfl : PE _ _ (tFld K (tVar 0) ("bits" : Str))) pa_nil)))) (pe_slice sl_tup (pv 1) (po_some pe_int) po_none) (nomark _))))))
      pss_nil)
      (pss_cons (ps_if (pt_cmpR op_eq (pe_ix ix_tup (pv 1) pe_int (fun _ _ => rfl)) pe_str (nomark _))
      (pss_one (ps_ret (pe_and (pe_callB call_isI (by rfl) X.isi bt_isinstance (pa_cons (pv 0) (pa_cons (pe_glob (v := .ref c.F) (by rfl) T.mgF rfl) pa_nil))) (pe_one (pe_cmpR (op_eqT hu) (pe_tup (pa_cons (pe_fld (pv 0) rfl : PE _ _ (tFld K (tVar 0) ("number" : Str))) (pa_cons (pe_fld (pv 0) rfl : PE _ _ (tFld K (tVar 0) ("at" : Str))) pa_nil))) (pe_slice sl_tup (pv 1) (po_some pe_int) po_none) (nomark _))))))
      pss_nil)
      (pss_cons (ps_if (PW.pt (pw_or (pt_not (pt_val (pe_callB call_isI (by rfl) X.isi bt_isinstance (pa_cons (pv 0) (pa_cons (pe_glob (v := .ref c.R) (by rfl) T.mgR rfl) pa_nil))))) (pw_or (pt_cmpR op_ne (pe_fld (pv 0) rfl : PE _ _ (tFld K (tVar 0) ("at" : Str))) (pe_ix ix_tup (pv 1) pe_int (fun _ _ => rfl)) (nomark _)) (pw_or1 (pt_cmpR op_ne (pe_callB call_len_seq (by rfl) X.len bt_len (pa_cons (pe_fld (pv 0) rfl : PE _ _ (tFld K (tVar 0) ("parts" : Str))) pa_nil)) (pe_callB call_len_seq (by rfl) X.len bt_len (pa_cons (pe_ix ix_tup (pv 1) pe_int (fun _ _ => rfl)) pa_nil)) (nomark _))))))
      (pss_one (ps_ret pe_bl))
      pss_nil)
      (pss_one (ps_ret (pe_callB (call_allB rfl) (by rfl) X.all bt_all (pa_cons (pe_lc (g := gTup K 2 (gCons (gName 2) (gCons (gName 3) gNil))) (ext := ["_law_part", "_law_other"]) lcAlike1 rfl (pi_zip (by rfl) X.zip (pa_cons (pe_fld (pv 0) rfl : PE _ _ (tFld K (tVar 0) ("parts" : Str))) (pa_cons (pe_ix ix_tup (pv 1) pe_int (fun _ _ => rfl)) pa_nil)))
          ⟨fun _ _ _ _ _ => (pg_tup rfl (pgs_cons (pg_name (i := 2) ndAlike1 rfl (Or.inl rfl) (.inr rfl)) (pgs_cons (pg_name (i := 3) ndAlike1 rfl (Or.inl rfl) (.inr rfl)) pgs_nil))), fun _ _ _ _ _ => pts_nil, fun _ _ _ _ _ => (pe_call GA hr (by rfl) mA FA.kp bA .nil pass0 (pa_cons (pv 2) (pa_cons (pv 3) pa_nil)))⟩) pa_nil)))))), ?_⟩
    cases t with
    | word n a b =>
      have tw := tyW T ht
      simp only [MdIn] at hm
      simp only [TrIn] at ht
      obtain ⟨p, rfl, _, hp⟩ := hm
      obtain ⟨x, dx, rfl, _, h⟩ := ht
      refine ⟨_, rfl, p, _, _, _, rfl, rfl, SqT.of hp, rfl, rfl, _, rfl, iteY (decide_eq_true rfl) ?_⟩
      refine ⟨_, rfl, _, .ref c.W, _, _, true, rfl, rfl, tw, T.iWW, _, rfl, iteT ?_⟩
      refine ⟨_, rfl, x, c.W, dx, _, _, rfl, h, T.tw.cl, T.nWn, fW_name, _, rfl, x, c.W, dx, _, _, rfl, h, T.tw.cl, T.tw.nA, fW_at, _, rfl, x, c.W, dx, _, _, rfl, h, T.tw.cl, T.nWb, fW_bits, z3, fun p1 hp1 => ?_⟩
      have s1 := same_upd (o := .tup [.str n, .int a, .int b]) hp1
      refine ⟨_, rfl, _, rfl, p, _, rfl, SqT.of (s1 _ _ hp), (by simp [HT.sIx]), fun p2 hp2 => ?_⟩
      have s2 := same_upd (o := .tup (cutV [.str "w", .str n, .int a, .int b] (some 1) none)) hp2
      refine ⟨p1, p2, [.str n, .int a, .int b], [.str n, .int a, .int b], rfl, rfl, SqT.of (s2 _ _ upd_same), SqT.of upd_same, rfl, rfl, ?_⟩
      show Q (.bl (eqVs [.str n, .int a, .int b] [.str n, .int a, .int b])) _
      rw [eqVs_self rfl]
      exact q _ (s1.trans s2)
    | fig z a =>
      have tw := tyF T ht
      simp only [MdIn] at hm
      simp only [TrIn] at ht
      obtain ⟨p, rfl, _, hp⟩ := hm
      obtain ⟨x, dx, rfl, _, h⟩ := ht
      refine ⟨_, rfl, p, _, _, _, rfl, rfl, SqT.of hp, rfl, rfl, _, rfl, iteN e_nw ?_⟩
      refine ⟨_, rfl, p, _, _, _, rfl, rfl, SqT.of hp, rfl, rfl, _, rfl, iteY (decide_eq_true rfl) ?_⟩
      refine ⟨_, rfl, _, .ref c.F, _, _, true, rfl, rfl, tw, T.iFF, _, rfl, iteT ?_⟩
      refine ⟨_, rfl, x, c.F, dx, _, _, rfl, h, T.tf.cl, T.nFn, fF_num, _, rfl, x, c.F, dx, _, _, rfl, h, T.tf.cl, T.tf.nA, fF_at, z2, fun p1 hp1 => ?_⟩
      have s1 := same_upd (o := .tup [.int z, .int a]) hp1
      refine ⟨_, rfl, _, rfl, p, _, rfl, SqT.of (s1 _ _ hp), (by simp [HT.sIx]), fun p2 hp2 => ?_⟩
      have s2 := same_upd (o := .tup (cutV [.str "n", .int z, .int a] (some 1) none)) hp2
      refine ⟨p1, p2, [.int z, .int a], [.int z, .int a], rfl, rfl, SqT.of (s2 _ _ upd_same), SqT.of upd_same, rfl, rfl, ?_⟩
      show Q (.bl (eqVs [.int z, .int a] [.int z, .int a])) _
      rw [eqVs_self rfl]
      exact q _ (s1.trans s2)
    | row ps a =>
      have tw := tyR T ht
      simp only [MdIn] at hm
      simp only [TrIn] at ht
      obtain ⟨p, l, us, rfl, _, hp, _, hl, hlen, hms⟩ := hm
      obtain ⟨x, dx, lx, ws, rfl, _, h, _, hlx, _, hts⟩ := ht
      have hul : us.length = ps.length := hms.length
      have hwl : ws.length = ps.length := hts.length
      simp only [deep] at hd
      refine ⟨_, rfl, p, _, _, _, rfl, rfl, SqT.of hp, rfl, rfl, _, rfl, iteN e_rw ?_⟩
      refine ⟨_, rfl, p, _, _, _, rfl, rfl, SqT.of hp, rfl, rfl, _, rfl, iteN e_rn ?_⟩
      refine ⟨_, rfl, _, .ref c.R, _, _, true, rfl, rfl, tw, T.iRR, _, rfl, iteF ?_⟩
      refine ⟨_, rfl, x, c.R, dx, _, _, rfl, h, T.tr.cl, T.tr.nA, fR_at, _, rfl, p, _, _, _, rfl, rfl, SqT.of hp, rfl, rfl, _, rfl, iteN (ne_self _) ?_⟩
      refine ⟨_, rfl, x, c.R, dx, _, _, rfl, h, T.tr.cl, T.nRp, fR_parts, lx, _, rfl, .inl (SqL.of hlx), _, rfl, p, _, _, _, rfl, rfl, SqT.of hp, rfl, l, _, rfl, .inl (SqL.of hl), rfl, _, rfl, iteN (by rw [hul, hwl]; exact ne_self _) ?_⟩
      refine ⟨_, rfl, x, c.R, dx, _, _, rfl, h, T.tr.cl, T.nRp, fR_parts, _, rfl, p, _, _, _, rfl, rfl, SqT.of hp, rfl, lx, l, rfl, ⟨_, SqL.of hlx⟩, ⟨_, SqL.of hl⟩, fun D hD => ?_⟩
      refine lc_zip (K := K) (a := lx) (b := l) (xs := ws) (zs := us) (by omega) (fun k ys σ' H' => (∃ v2 v3, σ' = [none, none, v2, v3]) ∧ Same H H' ∧ H' D = some (.lst ys) ∧ ys = List.replicate k (V.bl true))
        ⟨⟨_, _, rfl⟩, same_upd hD, upd_same, rfl⟩ (fun k ys σ' H' _ hP => ⟨SqL.of (hP.2.1 _ _ hlx), SqL.of (hP.2.1 _ _ hl)⟩) ?_ ?_
      · rintro k y z p2 ys σ' H' hy hz ⟨⟨v2, v3, rfl⟩, sH, hDy, rfl⟩ hp2
        have hk : k < ws.length := (List.getElem?_eq_some_iff.mp hy).1
        obtain ⟨t, ht, htr⟩ := hts.get hy
        obtain ⟨t2, ht2, hmt⟩ := hms.get hz
        rw [ht] at ht2
        cases ht2
        have sp := same_upd (o := .tup [y, z]) hp2
        have hdt : deep t ≤ deeps ps := deeps_get ht
        obtain ⟨e, he⟩ : ∃ e, d = e + 1 := ⟨d - 1, by omega⟩
        have hs := hsp e he
        subst hs
        refine ⟨p2, _, rfl, SqT.of upd_same, rfl, _, _, rfl, _, _, rfl, rfl, ?_⟩
        refine yes_if ?_
        refine ⟨_, rfl, _, rfl, y, z, t, rfl, htr.same (sH.trans sp), hmt.same (sH.trans sp), by omega, fun H2 s2 => ?_⟩
        have s3 := sp.trans s2
        refine ⟨s3 _ _ hDy, by rw [List.length_replicate, sizeLine_eq]; omega, Beh.of hk ⟨⟨_, _, rfl⟩, fun b o e => ?_, upd_same, by rw [List.replicate_succ']⟩⟩
        rw [upd_ne (ne_of_none e hD)]
        exact s3 _ _ (sH _ _ e)
      · rintro ys σ' H1 ⟨_, sH, hDy, rfl⟩
        refine ⟨D, List.replicate ws.length true, rfl, SqL.of (by rw [hDy, List.map_replicate]), ?_⟩
        rw [show (List.replicate ws.length true).all id = true from List.all_eq_true.mpr fun b hb => (List.mem_replicate.mp hb).2]
        exact q _ sH
theorem ok_alike {f : Addr} {fd : FuncData} (F : Fun K "_law_alike" "_law_alike" sAlike f fd) (T : Tcs K mg c) {nn : Addr} (X : Txt K mg nn) (bA : Binds K fd ["_law_found", "_law_model_here"] []) (mA : mg "_law_alike" = some (.ref f)) : ∀ d, FnOk P w K mg base CX0 (d + 1) f fd ["_law_found", "_law_model_here"] (spAlike c d)
  | 0 => alike_step (sp := spNo) F T X fn_no bA mA fun e h => by omega
  | d + 1 => alike_step (sp := spAlike c d) F T X (ok_alike F T X bA mA d) bA mA fun e h => by
    obtain rfl : e = d := by omega
    rfl
/-! ### _law_is_star -/
end
end K32

set_option Elab.async false
set_option linter.all false
set_option maxRecDepth 100000
set_option maxHeartbeats 4000000
/-! k32: is_name, key_of, is_sign, pieces, fixed_word, is_pattern. Own work. -/
namespace K32
open PySem L2 TR
def sgnB (nm : Str) : Tr → Bool
  | .word n _ _ => decide (V.str n = V.str nm)
  | _ => false
theorem sgn_star (t : Tr) : sgnB "*" t = starB t := by cases t <;> rfl
def nameB : Tr → Bool
  | .word n _ _ => !inV (.str n) [.str "*", .str "="]
  | _ => false
theorem nameB_nv {n : Str} {a : Int} {b : Nat} (h : Nv n) : nameB (.word n a b) = true := by
  show (!inV (.str n) [.str "*", .str "="]) = true
  have h1 := h.star
  have h2 := h.same
  have : inV (.str n) [.str "*", .str "="] = false := by
    simp [inV, eqV]
    exact ⟨fun e => h1 e.symm, fun e => h2 e.symm⟩
  rw [this]; rfl
def fixT : Tr → Option Tr
  | .row [x, y] _ => if (sgnB "=" x && nameB y) = true then some y else none
  | _ => none
def isRow : Tr → Bool
  | .row _ _ => true
  | _ => false
def spIsName (c : C4) : Sp := fun vs H Q _ => ∃ (v : V) (t : Tr), vs = [v] ∧ TrIn c All H t v ∧ Q (.bl (nameB t)) H
def spKeyOf (c : C4) : Sp := fun vs H Q _ => ∃ (v : V) (n : Str) (a : Int) (b : Nat), vs = [v] ∧ TrIn c All H (.word n a b) v ∧ ∀ p, H p = none → Q (.ref p) (upd H p (.tup [.str n, .int (b : Int)]))
def spSign (c : C4) : Sp := fun vs H Q _ => ∃ (v : V) (t : Tr) (nm : Str), vs = [v, .str nm] ∧ TrIn c All H t v ∧ Q (.bl (sgnB nm t)) H
def spFixed (c : C4) : Sp := fun vs H Q _ => ∃ (v : V) (t : Tr), vs = [v] ∧ TrIn c All H t v ∧ (fixT t = none → Q .non H) ∧ ∀ y u, fixT t = some y → TrIn c All H y u → Q u H
def spIsPat (c : C4) : Sp := fun vs H Q _ => ∃ (v : V) (t : Tr), vs = [v] ∧ TrIn c All H t v ∧ Q (.bl (isRow t && (fixT t).isNone)) H
/-! ### the pieces of a row -/
def setL (acc : List (Tr × Bool)) : List (Tr × Bool) := match acc.getLast? with
  | some q => acc.dropLast ++ [(q.1, true)]
  | none => []
def pcsA : List Tr → Bool → List (Tr × Bool) → Option (List (Tr × Bool))
  | [], _, acc => some acc
  | t :: r, st, acc => if starB t = true then (if (st || acc.isEmpty) = true then none else pcsA r true (setL acc)) else pcsA r st (acc ++ [(t, false)])
def pcs (ts : List Tr) : Option (List (Tr × Bool)) := pcsA ts false []
def PcIn (c : C4) (N : Addr → Prop) (H : Hp) (q : Tr × Bool) (u : V) : Prop := ∃ p v, u = .ref p ∧ N p ∧ H p = some (.tup [v, .bl q.2]) ∧ TrIn c N H q.1 v
def PcsIn (c : C4) (N : Addr → Prop) (H : Hp) : List (Tr × Bool) → List V → Prop
  | [], us => us = []
  | q :: r, us => ∃ u ws, us = u :: ws ∧ PcIn c N H q u ∧ PcsIn c N H r ws
section
variable {c : C4} {N N' : Addr → Prop} {H H' : Hp}
theorem PcIn.mono (h : ∀ b o, N b → H b = some o → N' b ∧ H' b = some o) {q : Tr × Bool} {u : V} (x : PcIn c N H q u) : PcIn c N' H' q u := by
  obtain ⟨p, v, e, n, hp, ht⟩ := x
  exact ⟨p, v, e, (h _ _ n hp).1, (h _ _ n hp).2, ht.mono h⟩
theorem PcsIn.mono (h : ∀ b o, N b → H b = some o → N' b ∧ H' b = some o) : ∀ {qs : List (Tr × Bool)} {us : List V}, PcsIn c N H qs us → PcsIn c N' H' qs us
  | [], us, x => by simp only [PcsIn] at x ⊢; exact x
  | q :: r, us, x => by
    simp only [PcsIn] at x ⊢
    obtain ⟨u, ws, e, a, b⟩ := x
    exact ⟨u, ws, e, a.mono h, PcsIn.mono h b⟩
theorem PcsIn.length : ∀ {qs : List (Tr × Bool)} {us : List V}, PcsIn c N H qs us → us.length = qs.length
  | [], us, x => by simp only [PcsIn] at x; rw [x]; rfl
  | q :: r, us, x => by
    simp only [PcsIn] at x
    obtain ⟨u, ws, e, a, b⟩ := x
    rw [e, List.length_cons, List.length_cons, PcsIn.length b]
theorem PcsIn.snoc {q : Tr × Bool} {u : V} (y : PcIn c N H q u) : ∀ {qs : List (Tr × Bool)} {us : List V}, PcsIn c N H qs us → PcsIn c N H (qs ++ [q]) (us ++ [u])
  | [], us, x => by simp only [PcsIn] at x; rw [x]; simp only [List.nil_append, PcsIn]; exact ⟨u, [], rfl, y, rfl⟩
  | q' :: r, us, x => by
    simp only [PcsIn] at x
    obtain ⟨v, ws, e, a, b⟩ := x
    rw [e]
    simp only [List.cons_append, PcsIn]
    exact ⟨v, ws ++ [u], rfl, a, PcsIn.snoc y b⟩
theorem PcsIn.last {q : Tr × Bool} : ∀ {qs : List (Tr × Bool)} {us : List V}, PcsIn c N H (qs ++ [q]) us → ∃ ws u, us = ws ++ [u] ∧ PcsIn c N H qs ws ∧ PcIn c N H q u
  | [], us, x => by
    simp only [List.nil_append, PcsIn] at x
    obtain ⟨u, ws, e, a, b⟩ := x
    rw [b] at e
    exact ⟨[], u, e, by simp only [PcsIn], a⟩
  | q' :: r, us, x => by
    simp only [List.cons_append, PcsIn] at x
    obtain ⟨u, ws, e, a, b⟩ := x
    obtain ⟨zs, z, e2, x2, y2⟩ := PcsIn.last b
    refine ⟨u :: zs, z, by rw [e, e2]; rfl, ?_, y2⟩
    simp only [PcsIn]
    exact ⟨u, zs, rfl, a, x2⟩
theorem PcsIn.get : ∀ {qs : List (Tr × Bool)} {us : List V} {i : Nat} {u : V}, PcsIn c N H qs us → us[i]? = some u → ∃ q, qs[i]? = some q ∧ PcIn c N H q u
  | [], us, i, u, x, e => by simp only [PcsIn] at x; rw [x] at e; simp at e
  | q :: r, us, i, u, x, e => by
    simp only [PcsIn] at x
    obtain ⟨v, ws, ev, a, b⟩ := x
    subst ev
    cases i with
    | zero => simp at e; subst e; exact ⟨q, rfl, a⟩
    | succ i =>
      obtain ⟨q', eq, y⟩ := PcsIn.get b (i := i) (u := u) (by simpa using e)
      exact ⟨q', by simpa using eq, y⟩
end
theorem setL_snoc (acc : List (Tr × Bool)) (q : Tr × Bool) : setL (acc ++ [q]) = acc ++ [(q.1, true)] := by
  unfold setL
  rw [List.getLast?_concat, List.dropLast_concat]
theorem last_of {acc : List (Tr × Bool)} (h : acc.isEmpty = false) : ∃ a q, acc = a ++ [q] := by
  have hn : acc ≠ [] := fun e => by rw [e] at h; cases h
  exact ⟨acc.dropLast, acc.getLast hn, (List.dropLast_concat_getLast hn).symm⟩
def spPieces (c : C4) : Sp := fun vs H Q _ => ∃ (v : V) (ts : List Tr) (a : Int) (ps : List (Tr × Bool)) (N : Addr → Prop), vs = [v] ∧ TrIn c N H (.row ts a) v ∧ ts.length ≤ 300 ∧ pcs ts = some ps ∧
  ∀ (H' : Hp) (D : Addr) (us : List V), Same H H' → H D = none → H' D = some (.lst us) → PcsIn c (fun b => b ≠ D ∧ (N b ∨ H b = none)) H' ps us → Q (.ref D) H'
section
variable {P : Program} {w : World} {K : PySem.W.Frag} {mg : Str → Option Value} {base : Heap} {c : C4} {nn : Addr}
theorem scIsName : FnScope ["tree"] ["tree"] (defScope sIsName) := ⟨rfl, rfl, rfl, by decide +kernel, rfl, by decide +kernel, by decide +kernel⟩
theorem ok_isName {f : Addr} {fd : FuncData} (F : Fun K "is_name" "is_name" sIsName f fd) (T : Tcs K mg c) (X : Txt K mg nn) : FnOk P w K mg base CX0 1 f fd ["tree"] (spIsName c) := by
  refine F.ok scIsName (fun vs H Q E h => ?_) (fun cdv A outer s H vs Q E hr h => ?_)
  · obtain ⟨v, t, rfl, _⟩ := h; rfl
  · obtain ⟨v, t, rfl, ht, q⟩ := h
    refine ⟨_, pss_one (ps_ret (pe_and (pe_callB call_isI (by rfl) X.isi bt_isinstance (pa_cons (pv 0) (pa_cons (pe_glob (v := .ref c.W) (by rfl) T.mgW rfl) pa_nil)))
      (pe_one (pe_cmpR op_notIn_seq (pe_fld (pv 0) rfl : PE _ _ (tFld K (tVar 0) ("name" : Str))) (pe_glob (v := .ref nn) (by rfl) X.mnn rfl) rfl)))), ?_⟩
    cases t with
    | word n a b =>
      refine ⟨_, rfl, v, .ref c.W, _, _, true, rfl, rfl, tyW T ht, T.iWW, true, rfl, iteT ?_⟩
      simp only [TrIn] at ht
      obtain ⟨p, dx, rfl, _, h⟩ := ht
      exact ⟨_, rfl, p, c.W, dx, _, _, rfl, h, T.tw.cl, T.nWn, fW_name, nn, _, rfl, .inr (X.nns H), rfl, rfl, q⟩
    | fig z a => exact ⟨_, rfl, v, .ref c.W, _, _, false, rfl, rfl, tyF T ht, T.iFW, false, rfl, iteF q⟩
    | row ps a => exact ⟨_, rfl, v, .ref c.W, _, _, false, rfl, rfl, tyR T ht, T.iRW, false, rfl, iteF q⟩
theorem scKeyOf : FnScope ["word"] ["word"] (defScope sKeyOf) := ⟨rfl, rfl, rfl, by decide +kernel, rfl, by decide +kernel, by decide +kernel⟩
theorem ok_keyOf {f : Addr} {fd : FuncData} (F : Fun K "key_of" "key_of" sKeyOf f fd) (T : Tcs K mg c) : FnOk P w K mg base CX0 1 f fd ["word"] (spKeyOf c) := by
  refine F.ok scKeyOf (fun vs H Q E h => ?_) (fun cdv A outer s H vs Q E hr h => ?_)
  · obtain ⟨v, n, a, b, rfl, _⟩ := h; rfl
  · obtain ⟨v, n, a, b, rfl, ht, q⟩ := h
    simp only [TrIn] at ht
    obtain ⟨p, dx, rfl, _, h⟩ := ht
    refine ⟨_, pss_one (ps_ret (pe_tup (pa_cons (pe_fld (pv 0) rfl : PE _ _ (tFld K (tVar 0) ("name" : Str))) (pa_cons (pe_fld (pv 0) rfl : PE _ _ (tFld K (tVar 0) ("bits" : Str))) pa_nil)))), ?_⟩
    exact ⟨_, rfl, p, c.W, dx, _, _, rfl, h, T.tw.cl, T.nWn, fW_name, _, rfl, p, c.W, dx, _, _, rfl, h, T.tw.cl, T.nWb, fW_bits, (by show 2 ≤ sizeLine; rw [sizeLine_eq]; decide), fun z hz => q z hz⟩
theorem scSign : FnScope ["tree", "name"] ["tree", "name"] (defScope sSign) := ⟨rfl, rfl, rfl, by decide +kernel, rfl, by decide +kernel, by decide +kernel⟩
theorem ok_sign {f : Addr} {fd : FuncData} (F : Fun K "is_sign" "is_sign" sSign f fd) (T : Tcs K mg c) (X : Txt K mg nn) : FnOk P w K mg base CX0 1 f fd ["tree", "name"] (spSign c) := by
  refine F.ok scSign (fun vs H Q E h => ?_) (fun cdv A outer s H vs Q E hr h => ?_)
  · obtain ⟨v, t, nm, rfl, _⟩ := h; rfl
  · obtain ⟨v, t, nm, rfl, ht, q⟩ := h
    refine ⟨_, pss_one (ps_ret (pe_and (pe_callB call_isI (by rfl) X.isi bt_isinstance (pa_cons (pv 0) (pa_cons (pe_glob (v := .ref c.W) (by rfl) T.mgW rfl) pa_nil))) (pe_one (pe_cmpR op_eq (pe_fld (pv 0) rfl : PE _ _ (tFld K (tVar 0) ("name" : Str))) (pv 1) (nomark _))))), ?_⟩
    cases t with
    | word n a b =>
      have tw := tyW T ht
      simp only [TrIn] at ht
      obtain ⟨p, dx, rfl, _, h⟩ := ht
      refine ⟨_, rfl, _, .ref c.W, _, _, true, rfl, rfl, tw, T.iWW, _, rfl, iteT ?_⟩
      exact ⟨_, rfl, p, c.W, dx, _, _, rfl, h, T.tw.cl, T.nWn, fW_name, _, rfl, rfl, q⟩
    | fig z a =>
      have tw := tyF T ht
      simp only [TrIn] at ht
      obtain ⟨p, dx, rfl, _, h⟩ := ht
      exact ⟨_, rfl, _, .ref c.W, _, _, false, rfl, rfl, tw, T.iFW, _, rfl, iteF q⟩
    | row ps a =>
      have tw := tyR T ht
      simp only [TrIn] at ht
      obtain ⟨p, dx, l, us, rfl, _⟩ := ht
      exact ⟨_, rfl, _, .ref c.W, _, _, false, rfl, rfl, tw, T.iRW, _, rfl, iteF q⟩
abbrev NPc : List Str := ["row", "found", "starred", "part"]
theorem scPieces : FnScope NPc ["row"] (defScope sPieces) := ⟨rfl, rfl, rfl, by decide +kernel, rfl, by decide +kernel, by decide +kernel⟩
theorem ok_pieces {f fG : Addr} {fd fdG : FuncData} (F : Fun K "pieces" "pieces" sPieces f fd) (T : Tcs K mg c) (X : Txt K mg nn) (FG : Fun K "is_sign" "is_sign" sSign fG fdG) (bG : Binds K fdG ["tree", "name"] []) (mG : mg "is_sign" = some (.ref fG)) :
    FnOk P w K mg base CX0 2 f fd ["row"] (spPieces c) := by
  have GG : FnOk P w K mg base CX0 1 fG fdG ["tree", "name"] (spSign c) := ok_sign FG T X
  refine F.ok scPieces (fun vs H Q E h => ?_) (fun cdv A outer s H vs Q E hr h => ?_)
  · obtain ⟨v, ts, a, ps, N, rfl, _⟩ := h; rfl
  · obtain ⟨v, ts, a, ps, N, rfl, ht, hlen, hps, q⟩ := h
    have nd := scPieces.nd
    have z2 : 2 ≤ sizeLine := by rw [sizeLine_eq]; decide
    refine ⟨_, pss_cons (ps_set (i := 1) nd rfl (Or.inl rfl) (pe_lst pa_nil))
      (pss_cons (ps_set (i := 2) nd rfl (Or.inl rfl) pe_bl)
      (pss_cons (ps_for PassesOwn.never rfl (pi_list (pe_fld (pv 0) rfl : PE _ _ (tFld K (tVar 0) ("parts" : Str)))) (pg_name (i := 3) nd rfl (Or.inl rfl))
      (pss_one (ps_if (pt_not (pt_val (pe_call GG hr (by rfl) mG FG.kp bG .nil pass0 (pa_cons (pv 3) (pa_cons pe_str pa_nil)))))
        (pss_one (ps_expr (pe_bm PySem.F.plainAttrs_list PySem.F.slot_list_append PySem.F.type_list_append mt_append (pv 1) (pa_cons (pe_tup (pa_cons (pv 3) (pa_cons pe_bl pa_nil))) pa_nil))))
        (pss_one (ps_if (PW.pt (pw_or (pt_val (pv 2)) (pw_or1 (pt_cmpR op_eq (pe_callB call_len_seq (by rfl) X.len bt_len (pa_cons (pv 1) pa_nil)) pe_int (nomark _)))))
          (pss_one ps_never)
          (pss_cons (ps_set (i := 2) nd rfl (Or.inl rfl) pe_bl)
            (pss_one (ps_asg (pe_tup (pa_cons (pe_ix ix_tup (pe_ix ix_list (pv 1) (pe_un un_neg pe_int) (fun _ _ => rfl)) pe_int (fun _ _ => rfl)) (pa_cons pe_bl pa_nil))) (pg_sub (pv 1) (pe_un un_neg pe_int) set_list)))))))))
      (pss_one (ps_ret (pv 1))))), ?_⟩
    have ht0 := ht
    simp only [TrIn] at ht
    obtain ⟨p, dx, l, us, rfl, _, h, _, hl, _, hts⟩ := ht
    have hul : us.length = ts.length := hts.length
    refine ⟨Nat.zero_le _, fun D hD => ?_⟩
    have s0 := same_upd (o := .lst []) hD
    refine ⟨_, rfl, p, c.R, dx, _, _, rfl, s0 _ _ h, T.tr.cl, T.nRp, fR_parts, l, rfl, ⟨_, SqL.of (s0 _ _ hl)⟩, ?_⟩
    refine for_list (K := K) (a := l) (xs := us) (fun i σ H' => ∃ (st : Bool) (acc : List (Tr × Bool)) (ws : List V) (v3 : Option V), σ = [some (.ref p), some (.ref D), some (.bl st), v3] ∧ Same H H' ∧ H' D = some (.lst ws) ∧ PcsIn c (fun b => b ≠ D ∧ (N b ∨ H b = none)) H' acc ws ∧ acc.length ≤ i ∧ pcsA (ts.drop i) st acc = pcs ts)
      ⟨false, [], [], none, rfl, s0, upd_same, by simp only [PcsIn], Nat.le_refl _, rfl⟩ (fun i σ H' _ ⟨_, _, _, _, _, sH, _⟩ => SqL.of (sH _ _ hl)) ?_ ?_
    · rintro i x σ H' hi ⟨st, acc, ws, v3, rfl, sH, hw, hp, hacc, hpc⟩
      obtain ⟨t, hti, htr⟩ := hts.get hi
      have hil : i < ts.length := (List.getElem?_eq_some_iff.mp hti).1
      have edrop : ts.drop i = t :: ts.drop (i + 1) := by
        rw [List.drop_eq_getElem_cons hil]
        congr 1
        exact (List.getElem?_eq_some_iff.mp hti).2
      rw [edrop] at hpc
      have hwl := hp.length
      have htD : TrIn c (fun b => b ≠ D ∧ (N b ∨ H b = none)) H' t x := htr.mono fun b o n e => ⟨⟨ne_of_none e hD, .inl n⟩, sH _ _ e⟩
      refine ⟨_, rfl, x, t, "*", rfl, htr.all.same sH, ?_⟩
      rw [sgn_star]
      by_cases hst : starB t = true
      · unfold pcsA at hpc
        rw [if_pos hst] at hpc
        refine ⟨_, rfl, ?_⟩
        rw [hst]
        refine iteF ?_
        have bad : (st || acc.isEmpty) = true → pcs ts = none := fun e => by rw [if_pos e] at hpc; exact hpc.symm
        have no : ¬ (st || acc.isEmpty) = true := fun e => by rw [bad e] at hps; exact nomatch hps
        cases hsb : st with
        | true =>
          exact absurd (by rw [hsb]; rfl) no
        | false =>
          refine ⟨_, rfl, _, rfl, iteF ⟨_, rfl, D, _, rfl, .inl (SqL.of hw), rfl, decide (acc = []), ?_, ?_⟩⟩
          · show V.bl (decide (V.int (ws.length : Int) = V.int 0)) = _
            rw [hwl]
            congr 1
            rw [decide_eq_decide]
            constructor
            · intro e
              have : (acc.length : Int) = 0 := V.int.inj e
              exact List.length_eq_zero_iff.mp (by omega)
            · intro e; rw [e]; rfl
          by_cases he : acc = []
          · exact absurd (by rw [he]; cases st <;> rfl) no
          · rw [decide_eq_false he]
            refine iteF ?_
            have hem : acc.isEmpty = false := by cases acc with | nil => exact absurd rfl he | cons _ _ => rfl
            obtain ⟨ac, qq, rfl⟩ := last_of hem
            obtain ⟨wr, u, rfl, hp1, pp, pvv, rfl, nq, hpp, htq⟩ := hp.last
            rw [hsb, hem] at hpc
            rw [if_neg (by decide), setL_snoc] at hpc
            have eat : atI (wr ++ [V.ref pp]) (-1) = some (V.ref pp) := by
              unfold atI ixN
              rw [if_neg (by decide), if_pos (by rw [List.length_append, List.length_singleton]; omega)]
              show (wr ++ [V.ref pp])[(-1 + ((wr ++ [V.ref pp]).length : Int)).toNat]? = _
              rw [List.length_append, List.length_singleton, show (-1 + ((wr.length + 1 : Nat) : Int)).toNat = wr.length by omega]
              simp
            refine ⟨_, rfl, _, rfl, D, _, _, _, rfl, rfl, SqL.of hw, eat, pp, _, _, _, rfl, rfl, SqT.of hpp, rfl, z2, fun p3 hp3 => ?_⟩
            have s3 := same_upd (o := .tup [pvv, .bl true]) hp3
            have n3 : p3 ≠ D := fun z => by rw [z, hw] at hp3; cases hp3
            refine ⟨_, rfl, _, rfl, D, _, _, wr.length, rfl, rfl, s3 _ _ hw, ?_, ?_⟩
            · unfold ixN
              rw [if_neg (by decide), if_pos (by rw [List.length_append, List.length_singleton]; omega), List.length_append, List.length_singleton]
              congr 1; omega
            refine ⟨true, ac ++ [(qq.1, true)], wr ++ [.ref p3], _, rfl, fun b o e => ?_, ?_, ?_, ?_, hpc⟩
            · rw [upd_ne (ne_of_none e hD)]; exact s3 _ _ (sH _ _ e)
            · rw [upd_same]
              congr 2
              simp
            · refine PcsIn.snoc (q := (qq.1, true)) (u := .ref p3) ?_ ?_
              · exact ⟨p3, pvv, rfl, ⟨n3, .inr (sH.free hp3)⟩, by rw [upd_ne n3, upd_same], htq.mono fun b o n e => ⟨n, by rw [upd_ne n.1]; exact s3 _ _ e⟩⟩
              · exact hp1.mono fun b o n e => ⟨n, by rw [upd_ne n.1]; exact s3 _ _ e⟩
            · rw [List.length_append, List.length_singleton] at hacc ⊢; omega
      · have hst' : starB t = false := by cases e : starB t with | true => exact absurd e hst | false => rfl
        unfold pcsA at hpc
        rw [if_neg hst] at hpc
        refine ⟨_, rfl, ?_⟩
        rw [hst']
        refine iteT ?_
        refine ⟨_, rfl, .inl ⟨rfl, _, SqL.of hw⟩, _, rfl, z2, fun p3 hp3 => ?_⟩
        have s3 := same_upd (o := .tup [x, .bl false]) hp3
        have n3 : p3 ≠ D := fun z => by rw [z, hw] at hp3; cases hp3
        refine ⟨D, _, _, rfl, rfl, s3 _ _ hw, by rw [hwl, sizeLine_eq]; omega, ?_⟩
        refine ⟨st, acc ++ [(t, false)], ws ++ [.ref p3], _, rfl, fun b o e => ?_, upd_same, ?_, by rw [List.length_append, List.length_singleton]; omega, hpc⟩
        · rw [upd_ne (ne_of_none e hD)]; exact s3 _ _ (sH _ _ e)
        · refine PcsIn.snoc ⟨p3, x, rfl, ⟨n3, .inr (sH.free hp3)⟩, by rw [upd_ne n3, upd_same], htD.mono fun b o n e => ⟨n, by rw [upd_ne n.1]; exact s3 _ _ e⟩⟩ (hp.mono fun b o n e => ⟨n, by rw [upd_ne n.1]; exact s3 _ _ e⟩)
    · rintro σ H' ⟨st, acc, ws, v3, rfl, sH, hw, hp, hacc, hpc⟩
      rw [hul, List.drop_length] at hpc
      rw [hps] at hpc
      have e1 := Option.some.inj hpc
      subst e1
      exact ⟨_, rfl, q H' D ws sH hD hw hp⟩
theorem scFixed : FnScope ["tree"] ["tree"] (defScope sFixed) := ⟨rfl, rfl, rfl, by decide +kernel, rfl, by decide +kernel, by decide +kernel⟩
theorem ok_fixed {f fG fN : Addr} {fd fdG fdN : FuncData} (F : Fun K "fixed_word" "fixed_word" sFixed f fd) (T : Tcs K mg c) (X : Txt K mg nn) (FG : Fun K "is_sign" "is_sign" sSign fG fdG) (bG : Binds K fdG ["tree", "name"] []) (mG : mg "is_sign" = some (.ref fG))
    (FN : Fun K "is_name" "is_name" sIsName fN fdN) (bN : Binds K fdN ["tree"] []) (mN : mg "is_name" = some (.ref fN)) : FnOk P w K mg base CX0 2 f fd ["tree"] (spFixed c) := by
  have GG : FnOk P w K mg base CX0 1 fG fdG ["tree", "name"] (spSign c) := ok_sign FG T X
  have GN : FnOk P w K mg base CX0 1 fN fdN ["tree"] (spIsName c) := ok_isName FN T X
  refine F.ok scFixed (fun vs H Q E h => ?_) (fun cdv A outer s H vs Q E hr h => ?_)
  · obtain ⟨v, t, rfl, _⟩ := h; rfl
  · obtain ⟨v, t, rfl, ht, q0, q1⟩ := h
    refine ⟨_, pss_cons (ps_if (PW.pt (pw_or (pt_not (pt_val (pe_callB call_isI (by rfl) X.isi bt_isinstance (pa_cons (pv 0) (pa_cons (pe_glob (v := .ref c.R) (by rfl) T.mgR rfl) pa_nil))))) (pw_or1 (pt_cmpR op_ne (pe_callB call_len_seq (by rfl) X.len bt_len (pa_cons (pe_fld (pv 0) rfl : PE _ _ (tFld K (tVar 0) ("parts" : Str))) pa_nil)) pe_int (nomark _)))))
      (pss_one (ps_ret pe_non))
      pss_nil)
      (pss_cons (ps_if (PW.pt (pw_and (pt_val (pe_call GG hr (by rfl) mG FG.kp bG .nil pass0 (pa_cons (pe_ix ix_list (pe_fld (pv 0) rfl : PE _ _ (tFld K (tVar 0) ("parts" : Str))) pe_int (fun _ _ => rfl)) (pa_cons pe_str pa_nil)))) (pw_and1 (pt_val (pe_call GN hr (by rfl) mN FN.kp bN .nil pass0 (pa_cons (pe_ix ix_list (pe_fld (pv 0) rfl : PE _ _ (tFld K (tVar 0) ("parts" : Str))) pe_int (fun _ _ => rfl)) pa_nil))))))
      (pss_one (ps_ret (pe_ix ix_list (pe_fld (pv 0) rfl : PE _ _ (tFld K (tVar 0) ("parts" : Str))) pe_int (fun _ _ => rfl))))
      pss_nil)
      (pss_one (ps_ret pe_non))), ?_⟩
    cases t with
    | word n a b => exact ⟨_, rfl, v, .ref c.R, _, _, false, rfl, rfl, tyW T ht, T.iWR, _, rfl, iteT (iteT (q0 rfl))⟩
    | fig z a => exact ⟨_, rfl, v, .ref c.R, _, _, false, rfl, rfl, tyF T ht, T.iFR, _, rfl, iteT (iteT (q0 rfl))⟩
    | row ps a =>
      refine ⟨_, rfl, v, .ref c.R, _, _, true, rfl, rfl, tyR T ht, T.iRR, _, rfl, iteF ?_⟩
      simp only [TrIn] at ht
      obtain ⟨p, dx, l, us, rfl, _, h, _, hl, _, hts⟩ := ht
      have hul := hts.length
      refine ⟨_, rfl, p, c.R, dx, _, _, rfl, h, T.tr.cl, T.nRp, fR_parts, l, _, rfl, .inl (SqL.of hl), rfl, ?_⟩
      by_cases h2 : ps.length = 2
      · obtain ⟨x, y, rfl⟩ : ∃ x y, ps = [x, y] := by
          cases ps with
          | nil => exact nomatch h2
          | cons x r =>
            cases r with
            | nil => exact nomatch h2
            | cons y r2 =>
              cases r2 with
              | nil => exact ⟨x, y, rfl⟩
              | cons _ _ => simp at h2
        simp only [TrsIn] at hts
        obtain ⟨vx, wx, rfl, hx, vy, wy, rfl, hy, rfl⟩ := hts
        refine ⟨false, rfl, iteF ?_⟩
        refine ⟨_, rfl, p, c.R, dx, _, _, rfl, h, T.tr.cl, T.nRp, fR_parts, l, _, _, _, rfl, rfl, SqL.of hl, rfl, vx, x, "=", rfl, hx, _, rfl, ?_⟩
        have ef : fixT (.row [x, y] a) = if (sgnB "=" x && nameB y) = true then some y else none := rfl
        cases e1 : sgnB "=" x with
        | false =>
          rw [e1] at ef
          exact iteF (iteF (q0 ef))
        | true =>
          refine iteT ⟨_, rfl, p, c.R, dx, _, _, rfl, h, T.tr.cl, T.nRp, fR_parts, l, _, _, _, rfl, rfl, SqL.of hl, rfl, vy, y, rfl, hy, _, rfl, ?_⟩
          cases e2 : nameB y with
          | false =>
            rw [e1, e2] at ef
            exact iteF (q0 ef)
          | true =>
            rw [e1, e2] at ef
            exact iteT ⟨_, rfl, p, c.R, dx, _, _, rfl, h, T.tr.cl, T.nRp, fR_parts, l, _, _, _, rfl, rfl, SqL.of hl, rfl, q1 y vy ef hy⟩
      · have ef : fixT (.row ps a) = none := by
          unfold fixT
          split
          · rename_i e; injection e with e1 e2; subst e1; exact absurd rfl h2
          · rfl
        refine ⟨true, ?_, iteT (q0 ef)⟩
        show V.bl (!decide (V.int ((us.length : Nat) : Int) = V.int 2)) = _
        rw [decide_eq_false]
        · rfl
        · intro z; have z1 := V.int.inj z; omega
theorem scIsPat : FnScope ["tree"] ["tree"] (defScope sIsPat) := ⟨rfl, rfl, rfl, by decide +kernel, rfl, by decide +kernel, by decide +kernel⟩
theorem ok_isPat {f fW : Addr} {fd fdW : FuncData} (F : Fun K "is_pattern" "is_pattern" sIsPat f fd) (T : Tcs K mg c) (X : Txt K mg nn) (kW : PySem.W.keepIn K (.ref fW) = true) (bW : Binds K fdW ["tree"] []) (mW : mg "fixed_word" = some (.ref fW)) (GW : FnOk P w K mg base CX0 2 fW fdW ["tree"] (spFixed c)) : FnOk P w K mg base CX0 3 f fd ["tree"] (spIsPat c) := by
  refine F.ok scIsPat (fun vs H Q E h => ?_) (fun cdv A outer s H vs Q E hr h => ?_)
  · obtain ⟨v, t, rfl, _⟩ := h; rfl
  · obtain ⟨v, t, rfl, ht, q⟩ := h
    refine ⟨_, pss_one (ps_ret (pe_and (pe_callB call_isI (by rfl) X.isi bt_isinstance (pa_cons (pv 0) (pa_cons (pe_glob (v := .ref c.R) (by rfl) T.mgR rfl) pa_nil))) (pe_one (pe_cmpR op_isN (pe_call GW hr (by rfl) mW kW bW .nil pass0 (pa_cons (pv 0) pa_nil)) pe_non (nomark _))))), ?_⟩
    cases t with
    | word n a b => exact ⟨_, rfl, v, .ref c.R, _, _, false, rfl, rfl, tyW T ht, T.iWR, _, rfl, iteF q⟩
    | fig z a => exact ⟨_, rfl, v, .ref c.R, _, _, false, rfl, rfl, tyF T ht, T.iFR, _, rfl, iteF q⟩
    | row ps a =>
      refine ⟨_, rfl, v, .ref c.R, _, _, true, rfl, rfl, tyR T ht, T.iRR, _, rfl, iteT ?_⟩
      refine ⟨_, rfl, v, .row ps a, rfl, ht, fun e => ?_, fun y u e hu => ?_⟩
      · refine ⟨rfl, ?_⟩
        rw [e] at q
        exact q
      · refine ⟨rfl, ?_⟩
        rw [e] at q
        have hne : u ≠ .non := fun z => by
          subst z
          cases y <;> (simp only [TrIn] at hu; obtain ⟨_, _, e2, _⟩ := hu; first | exact nomatch e2 | (obtain ⟨_, e3, _⟩ := e2; exact nomatch e3))
        rw [decide_eq_false hne]
        exact q
end
end K32

set_option Elab.async false
set_option linter.all false
set_option maxRecDepth 100000
set_option maxHeartbeats 4000000
/-! k32: variable_words, depths_of, variables. Own work. -/
namespace K32
open PySem L2 TR
/-- a pattern's words, each with the depth of its stars -/
def vwQ (f : Int → Tr → List (Tr × Int)) (d : Int) (q : Tr × Bool) : List (Tr × Int) :=
  if nameB q.1 = true then [(q.1, if q.2 = true then d + 1 else d)] else if (isRow q.1 && (fixT q.1).isNone) = true then f (if q.2 = true then d + 1 else d) q.1 else []
def prts : Tr → List Tr
  | .row ts _ => ts
  | _ => []
def vw : Nat → Int → Tr → List (Tr × Int)
  | 0, _, _ => []
  | n + 1, d, t => ((pcs (prts t)).getD []).flatMap (vwQ (vw n) d)
/-- rows all whose pieces can be told -/
def GoodP : Nat → Tr → Prop
  | 0, _ => False
  | n + 1, t => isRow t = true ∧ (prts t).length ≤ 300 ∧ ∃ ps, pcs (prts t) = some ps ∧ ∀ q ∈ ps, nameB q.1 = false → (isRow q.1 && (fixT q.1).isNone) = true → GoodP n q.1
def PwIn (c : C4) (N : Addr → Prop) (H : Hp) (q : Tr × Int) (u : V) : Prop := ∃ p x, u = .ref p ∧ N p ∧ H p = some (.tup [x, .int q.2]) ∧ TrIn c N H q.1 x
/-- one for one -/
def Al {α : Type} (R : α → V → Prop) (xs : List α) (vs : List V) : Prop := vs.length = xs.length ∧ ∀ (i : Nat) a, xs[i]? = some a → ∃ v, vs[i]? = some v ∧ R a v
section
variable {α : Type} {R R' : α → V → Prop} {xs : List α} {vs : List V}
theorem Al.nil : Al R [] [] := ⟨rfl, fun i a e => by simp at e⟩
theorem Al.mono (f : ∀ a v, R a v → R' a v) (h : Al R xs vs) : Al R' xs vs := ⟨h.1, fun i a e => by obtain ⟨v, e1, r⟩ := h.2 i a e; exact ⟨v, e1, f _ _ r⟩⟩
theorem Al.append {ys : List α} {us : List V} (h : Al R xs vs) (g : Al R ys us) : Al R (xs ++ ys) (vs ++ us) := by
  refine ⟨by rw [List.length_append, List.length_append, h.1, g.1], fun i b e => ?_⟩
  by_cases hi : i < xs.length
  · rw [List.getElem?_append_left hi] at e
    obtain ⟨u, e1, r1⟩ := h.2 i b e
    exact ⟨u, by rw [List.getElem?_append_left (by rw [h.1]; exact hi)]; exact e1, r1⟩
  · rw [List.getElem?_append_right (by omega)] at e
    obtain ⟨u, e1, r1⟩ := g.2 _ b e
    exact ⟨u, by rw [List.getElem?_append_right (by rw [h.1]; omega), h.1]; exact e1, r1⟩
theorem Al.one {a : α} {v : V} (r : R a v) : Al R [a] [v] := ⟨rfl, fun i b e => by
  cases i with
  | zero => simp at e; subst e; exact ⟨v, rfl, r⟩
  | succ i => simp at e⟩
theorem Al.snoc (h : Al R xs vs) {a : α} {v : V} (r : R a v) : Al R (xs ++ [a]) (vs ++ [v]) := h.append (Al.one r)
theorem Al.at (h : Al R xs vs) {i : Nat} {v : V} (hv : vs[i]? = some v) : ∃ a, xs[i]? = some a ∧ R a v := by
  have hi := (List.getElem?_eq_some_iff.mp hv).1
  have hx : i < xs.length := by rw [← h.1]; exact hi
  obtain ⟨u, eu, r⟩ := h.2 i xs[i] (List.getElem?_eq_getElem hx)
  rw [hv] at eu
  have : v = u := by injection eu
  exact ⟨xs[i], List.getElem?_eq_getElem hx, by rw [this]; exact r⟩
end
theorem PwIn.mono {c : C4} {N N' : Addr → Prop} {H H' : Hp} (h : ∀ b o, N b → H b = some o → N' b ∧ H' b = some o) {q : Tr × Int} {u : V} (x : PwIn c N H q u) : PwIn c N' H' q u := by
  obtain ⟨p, y, e, n, hp, ht⟩ := x
  exact ⟨p, y, e, (h p _ n hp).1, (h p _ n hp).2, ht.mono h⟩
theorem take_flat {α β : Type} (f : α → List β) {xs : List α} {i : Nat} {a : α} (e : xs[i]? = some a) : (xs.take (i + 1)).flatMap f = (xs.take i).flatMap f ++ f a := by
  rw [List.take_succ, e]
  simp
theorem flat_le {α β : Type} (f : α → List β) (xs : List α) (i : Nat) : ((xs.take i).flatMap f).length ≤ (xs.flatMap f).length := by
  have e : xs.flatMap f = (xs.take i).flatMap f ++ (xs.drop i).flatMap f := by rw [← List.flatMap_append, List.take_append_drop]
  rw [e, List.length_append]; omega
def spVW (c : C4) (n : Nat) : Sp := fun vs H Q _ => ∃ (v : V) (t : Tr) (d : Int) (N : Addr → Prop), vs = [v, .int d] ∧ TrIn c N H t v ∧ GoodP n t ∧ (vw n d t).length ≤ 100000 ∧
  ∀ (H' : Hp) (D : Addr) (us : List V), Same H H' → H D = none → H' D = some (.lst us) → Al (PwIn c (fun b => b ≠ D ∧ (N b ∨ H b = none)) H') (vw n d t) us → Q (.ref D) H'
section
variable {P : Program} {w : World} {K : PySem.W.Frag} {mg : Str → Option Value} {base : Heap} {c : C4} {nn : Addr}
abbrev pVW : List Str := ["pattern", "depth"]
abbrev NVW : List Str := ["pattern", "depth", "pairs", "tree", "starred", "inner"]
theorem scVW : FnScope NVW pVW (defScope sVarWords) := ⟨rfl, rfl, rfl, by decide +kernel, rfl, by decide +kernel, by decide +kernel⟩
theorem vw_step {n : Nat} {f fI fN fP : Addr} {fd fdI fdN fdP : FuncData} {sp : Sp} (F : Fun K "variable_words" "variable_words" sVarWords f fd)
    (kI : PySem.W.keepIn K (.ref fI) = true) (bI : Binds K fdI ["row"] []) (mI : mg "pieces" = some (.ref fI)) (GI : FnOk P w K mg base CX0 2 fI fdI ["row"] (spPieces c))
    (kN : PySem.W.keepIn K (.ref fN) = true) (bN : Binds K fdN ["tree"] []) (mN : mg "is_name" = some (.ref fN)) (GN : FnOk P w K mg base CX0 1 fN fdN ["tree"] (spIsName c))
    (kP : PySem.W.keepIn K (.ref fP) = true) (bP : Binds K fdP ["tree"] []) (mP : mg "is_pattern" = some (.ref fP)) (GP : FnOk P w K mg base CX0 3 fP fdP ["tree"] (spIsPat c))
    (GV : FnOk P w K mg base CX0 (n + 3) f fd pVW sp) (bV : Binds K fd pVW []) (mV : mg "variable_words" = some (.ref f)) (hsp : ∀ m, n = m + 1 → sp = spVW c m) : FnOk P w K mg base CX0 (n + 4) f fd pVW (spVW c n) := by
  refine F.ok scVW (fun vs H Q E h => ?_) (fun cdv A outer s H vs Q E hr h => ?_)
  · obtain ⟨v, t, d, N, rfl, _⟩ := h; rfl
  · obtain ⟨v, t, d, N, rfl, ht, hg, hlen, q⟩ := h
    have nd := scVW.nd
    have hr1 : Room 1 _ := hr.mono (by omega)
    have hr2 : Room 2 _ := hr.mono (by omega)
    have hr3 : Room 3 _ := hr.mono (by omega)
    have z2 : 2 ≤ sizeLine := by rw [sizeLine_eq]; decide
    refine ⟨_, pss_cons (ps_set (i := 2) nd rfl (Or.inl rfl) (pe_lst pa_nil))
      (pss_cons (ps_for (g := gTup K 2 (gCons (gName 3) (gCons (gName 4) gNil))) PassesOwn.never rfl (pi_list (pe_call GI hr2 (by rfl) mI kI bI .nil pass0 (pa_cons (pv 0) pa_nil))) (pg_tup rfl (pgs_cons (pg_name (i := 3) nd rfl (Or.inl rfl)) (pgs_cons (pg_name (i := 4) nd rfl (Or.inl rfl)) pgs_nil)))
      (pss_cons (ps_set (i := 5) nd rfl (Or.inl rfl) (pe_ifExp (pt_val (pv 4)) (pe_op op_add (pv 1) pe_int) (pv 1)))
        (pss_one (ps_if (pt_val (pe_call GN hr1 (by rfl) mN kN bN .nil pass0 (pa_cons (pv 3) pa_nil)))
        (pss_one (ps_expr (pe_bm PySem.F.plainAttrs_list PySem.F.slot_list_append PySem.F.type_list_append mt_append (pv 2) (pa_cons (pe_tup (pa_cons (pv 3) (pa_cons (pv 5) pa_nil))) pa_nil))))
        (pss_one (ps_if (pt_val (pe_call GP hr3 (by rfl) mP kP bP .nil pass0 (pa_cons (pv 3) pa_nil)))
          (pss_one (ps_expr (pe_bm PySem.F.plainAttrs_list PySem.F.slot_list_extend PySem.F.type_list_extend mt_extend (pv 2) (pa_cons (pe_call GV hr (by rfl) mV F.kp bV .nil pass0 (pa_cons (pv 3) (pa_cons (pv 5) pa_nil))) pa_nil))))
          pss_nil))))))
      (pss_one (ps_ret (pv 2)))), ?_⟩
    cases n with
    | zero => exact hg.elim
    | succ n =>
      obtain ⟨hrow, hl3, ps, hps, hsub⟩ := hg
      have hq := hsp n rfl
      subst hq
      obtain ⟨ts, a, rfl⟩ : ∃ ts a, t = .row ts a := by
        cases t with
        | row ts a => exact ⟨ts, a, rfl⟩
        | _ => exact nomatch hrow
      have hl3' : ts.length ≤ 300 := hl3
      have hps' : pcs ts = some ps := hps
      have hvw : vw (n + 1) d (.row ts a) = ps.flatMap (vwQ (vw n) d) := by
        show ((pcs ts).getD []).flatMap _ = _
        rw [hps']; rfl
      rw [hvw] at hlen q
      refine ⟨Nat.zero_le _, fun D hD => ?_⟩
      have s0 := same_upd (o := .lst []) hD
      refine ⟨_, rfl, v, ts, a, ps, (fun b => b ≠ D ∧ N b), rfl, ht.mono (fun b o n e => ⟨⟨ne_of_none e hD, n⟩, s0 _ _ e⟩), hl3', hps', fun H1 L us s1 hL hL1 hpc => ?_⟩
      have hLn : H L = none := s0.free hL
      have nLD : L ≠ D := fun z => by rw [z] at hL; rw [show upd H D (.lst []) D = some (.lst []) from upd_same] at hL; exact nomatch hL
      have hD1 := s1 _ _ (show upd H D (.lst []) D = some (.lst []) from upd_same)
      refine ⟨L, rfl, ⟨_, SqL.of hL1⟩, for_list (xs := us) (fun i σ H' => ∃ (v3 v4 v5 : Option V) (ws : List V), σ = [some v, some (.int d), some (.ref D), v3, v4, v5] ∧ (∀ b o, b ≠ D → H1 b = some o → H' b = some o) ∧ H' D = some (.lst ws) ∧ Al (PwIn c (fun b => b ≠ D ∧ (N b ∨ H b = none)) H') ((ps.take i).flatMap (vwQ (vw n) d)) ws)
        ⟨none, none, none, [], rfl, fun _ _ _ e => e, hD1, Al.nil⟩ (fun i σ H' _ hP => by obtain ⟨_, _, _, _, _, k, _⟩ := hP; exact SqL.of (k _ _ nLD hL1)) ?_ ?_⟩
      · rintro i x σ H' hi ⟨v3, v4, v5, ws, rfl, kp, hDw, hw⟩
        obtain ⟨qq, eqq, pp, tv, rfl, npp, hpp, htq⟩ := hpc.get hi
        have hqm := List.mem_of_getElem? eqq
        have nD : ∀ b, (b ≠ L ∧ ((b ≠ D ∧ N b) ∨ upd H D (.lst []) b = none)) → b ≠ D ∧ (N b ∨ H b = none) := fun b hb => by
          rcases hb.2 with z | z
          · exact ⟨z.1, .inl z.2⟩
          · have nb : b ≠ D := fun e => by rw [e, upd_same] at z; exact nomatch z
            rw [upd_ne nb] at z
            exact ⟨nb, .inr z⟩
        have hpp' := kp _ _ (nD _ npp).1 hpp
        have ht' : TrIn c (fun b => b ≠ D ∧ (N b ∨ H b = none)) H' qq.1 tv := htq.mono fun b o nb e => ⟨nD b nb, kp _ _ (nD b nb).1 e⟩
        have hfl := flat_le (vwQ (vw n) d) ps i
        have hwl := hw.1
        refine ⟨pp, _, rfl, SqT.of hpp', rfl, _, _, rfl, _, _, rfl, rfl, ?_⟩
        have nm : nameB qq.1 = true → ∀ e, (if qq.2 = true then d + 1 else d) = e → vwQ (vw n) d qq = [(qq.1, e)] := fun h e he => by unfold vwQ; rw [if_pos h, he]
        have pt : nameB qq.1 = false → (isRow qq.1 && (fixT qq.1).isNone) = true → ∀ e, (if qq.2 = true then d + 1 else d) = e → vwQ (vw n) d qq = vw n e qq.1 := fun h h2 e he => by
          unfold vwQ; rw [if_neg (by rw [h]; decide), if_pos h2, he]
        have ot : nameB qq.1 = false → (isRow qq.1 && (fixT qq.1).isNone) = false → vwQ (vw n) d qq = [] := fun h h2 => by
          unfold vwQ; rw [if_neg (by rw [h]; decide), if_neg (by rw [h2]; decide)]
        have hnx := take_flat (vwQ (vw n) d) eqq
        have hfl2 := flat_le (vwQ (vw n) d) ps (i + 1)
        rw [hnx, List.length_append] at hfl2
        have frH : ∀ b, b ≠ D → H' b = none → H b = none := fun b nb z => by
          cases e : H b with
          | none => rfl
          | some o => have := kp _ _ nb (s1 _ _ (s0 _ _ e)); rw [z] at this; exact nomatch this
        refine ⟨_, rfl, qq.2, rfl, ite2 (fun hb => ⟨_, rfl, _, _, rfl, rfl, ?_⟩) (fun hb => ⟨_, rfl, ?_⟩)⟩
        · have hd' : (if qq.2 = true then d + 1 else d) = d + 1 := if_pos hb
          refine ⟨_, rfl, tv, qq.1, rfl, ht'.all, _, rfl, ?_⟩
          cases hn : nameB qq.1 with
          | true =>
            refine iteT ⟨_, rfl, .inl ⟨rfl, _, SqL.of hDw⟩, _, rfl, _, rfl, z2, fun p3 hp3 => ?_⟩
            have s3 := same_upd (o := .tup [tv, .int (d + 1)]) hp3
            have n3 : p3 ≠ D := fun z => by rw [z, hDw] at hp3; cases hp3
            rw [nm hn _ hd'] at hfl2 hnx
            rw [List.length_singleton] at hfl2
            refine ⟨D, ws, .ref p3, rfl, rfl, s3 _ _ hDw, by rw [hwl, sizeLine_eq]; omega, _, _, _, _, rfl, fun b o nb e => by rw [upd_ne nb]; exact s3 _ _ (kp _ _ nb e), upd_same, ?_⟩
            rw [hnx]
            refine (hw.mono fun _ _ r => r.mono fun b o nb e => ⟨nb, by rw [upd_ne nb.1]; exact s3 _ _ e⟩).snoc ⟨p3, tv, rfl, ⟨n3, .inr ?_⟩, by rw [upd_ne n3, upd_same], ht'.mono fun b o nb e => ⟨nb, by rw [upd_ne nb.1]; exact s3 _ _ e⟩⟩
            exact frH p3 n3 hp3
          | false =>
            refine iteF ⟨_, rfl, tv, qq.1, rfl, ht'.all, _, rfl, ?_⟩
            cases hp : (isRow qq.1 && (fixT qq.1).isNone) with
            | true =>
              rw [pt hn hp _ hd'] at hfl2 hnx
              refine iteT ⟨_, rfl, .inl ⟨rfl, _, SqL.of hDw⟩, _, rfl, _, rfl, tv, qq.1, d + 1, _, rfl, ht', hsub qq hqm hn hp, by omega, fun H2 D2 us2 s2 hD2 hD22 hw2 => ?_⟩
              have h2D : ∀ b, (b ≠ D2 ∧ ((b ≠ D ∧ (N b ∨ H b = none)) ∨ H' b = none)) → b ≠ D ∧ (N b ∨ H b = none) := fun b hb => by
                rcases hb.2 with z | z
                · exact z
                · have nb : b ≠ D := fun e => by rw [e, hDw] at z; exact nomatch z
                  exact ⟨nb, .inr (frH b nb z)⟩
              have l2 := hw2.1
              refine ⟨D, D2, ws, us2, rfl, rfl, s2 _ _ hDw, hD22, by rw [hwl, l2, sizeLine_eq]; omega, _, _, _, _, rfl, fun b o nb e => by rw [upd_ne nb]; exact s2 _ _ (kp _ _ nb e), upd_same, ?_⟩
              rw [hnx]
              exact (hw.mono fun _ _ r => r.mono fun b o nb e => ⟨nb, by rw [upd_ne nb.1]; exact s2 _ _ e⟩).append (hw2.mono fun _ _ r => r.mono fun b o nb e => ⟨h2D b nb, by rw [upd_ne (h2D b nb).1]; exact e⟩)
            | false =>
              rw [ot hn hp, List.append_nil] at hnx
              refine iteF ⟨_, _, _, _, rfl, kp, hDw, ?_⟩
              rw [hnx]; exact hw
        · have hd' : (if qq.2 = true then d + 1 else d) = d := if_neg hb
          refine ⟨_, rfl, tv, qq.1, rfl, ht'.all, _, rfl, ?_⟩
          cases hn : nameB qq.1 with
          | true =>
            refine iteT ⟨_, rfl, .inl ⟨rfl, _, SqL.of hDw⟩, _, rfl, _, rfl, z2, fun p3 hp3 => ?_⟩
            have s3 := same_upd (o := .tup [tv, .int (d)]) hp3
            have n3 : p3 ≠ D := fun z => by rw [z, hDw] at hp3; cases hp3
            rw [nm hn _ hd'] at hfl2 hnx
            rw [List.length_singleton] at hfl2
            refine ⟨D, ws, .ref p3, rfl, rfl, s3 _ _ hDw, by rw [hwl, sizeLine_eq]; omega, _, _, _, _, rfl, fun b o nb e => by rw [upd_ne nb]; exact s3 _ _ (kp _ _ nb e), upd_same, ?_⟩
            rw [hnx]
            refine (hw.mono fun _ _ r => r.mono fun b o nb e => ⟨nb, by rw [upd_ne nb.1]; exact s3 _ _ e⟩).snoc ⟨p3, tv, rfl, ⟨n3, .inr ?_⟩, by rw [upd_ne n3, upd_same], ht'.mono fun b o nb e => ⟨nb, by rw [upd_ne nb.1]; exact s3 _ _ e⟩⟩
            exact frH p3 n3 hp3
          | false =>
            refine iteF ⟨_, rfl, tv, qq.1, rfl, ht'.all, _, rfl, ?_⟩
            cases hp : (isRow qq.1 && (fixT qq.1).isNone) with
            | true =>
              rw [pt hn hp _ hd'] at hfl2 hnx
              refine iteT ⟨_, rfl, .inl ⟨rfl, _, SqL.of hDw⟩, _, rfl, _, rfl, tv, qq.1, d, _, rfl, ht', hsub qq hqm hn hp, by omega, fun H2 D2 us2 s2 hD2 hD22 hw2 => ?_⟩
              have h2D : ∀ b, (b ≠ D2 ∧ ((b ≠ D ∧ (N b ∨ H b = none)) ∨ H' b = none)) → b ≠ D ∧ (N b ∨ H b = none) := fun b hb => by
                rcases hb.2 with z | z
                · exact z
                · have nb : b ≠ D := fun e => by rw [e, hDw] at z; exact nomatch z
                  exact ⟨nb, .inr (frH b nb z)⟩
              have l2 := hw2.1
              refine ⟨D, D2, ws, us2, rfl, rfl, s2 _ _ hDw, hD22, by rw [hwl, l2, sizeLine_eq]; omega, _, _, _, _, rfl, fun b o nb e => by rw [upd_ne nb]; exact s2 _ _ (kp _ _ nb e), upd_same, ?_⟩
              rw [hnx]
              exact (hw.mono fun _ _ r => r.mono fun b o nb e => ⟨nb, by rw [upd_ne nb.1]; exact s2 _ _ e⟩).append (hw2.mono fun _ _ r => r.mono fun b o nb e => ⟨h2D b nb, by rw [upd_ne (h2D b nb).1]; exact e⟩)
            | false =>
              rw [ot hn hp, List.append_nil] at hnx
              refine iteF ⟨_, _, _, _, rfl, kp, hDw, ?_⟩
              rw [hnx]; exact hw
      · rintro σ H' ⟨v3, v4, v5, ws, rfl, kp, hDw, hw⟩
        have hul : us.length = ps.length := hpc.length
        rw [hul, List.take_length] at hw
        refine ⟨_, rfl, q H' D ws (fun b o e => kp _ _ (ne_of_none e hD) (s1 _ _ (s0 _ _ e))) hD hDw hw⟩
end
end K32

set_option Elab.async false
set_option linter.all false
set_option maxRecDepth 100000
set_option maxHeartbeats 4000000
/-! k32: variable_words by depth, depths_of, variables. Own work. -/
namespace K32
open PySem L2 TR
theorem bt_dictT : bootBuiltins "dict" = some (.type "dict") := by decide +kernel
def kyT : Tr → List Key
  | .word n _ b => [.inr n, .inl (some (b : Int))]
  | _ => []
def prsOf (ws : List (Tr × Int)) : List (List Key × V) := ws.map fun q => (kyT q.1, .int q.2)
theorem vw_name : ∀ (n : Nat) (d : Int) (t : Tr) (q : Tr × Int), q ∈ vw n d t → nameB q.1 = true
  | 0, d, t, q, h => by simp [vw] at h
  | n + 1, d, t, q, h => by
    rw [show vw (n + 1) d t = ((pcs (prts t)).getD []).flatMap (vwQ (vw n) d) from rfl] at h
    obtain ⟨p, _, h2⟩ := List.mem_flatMap.mp h
    unfold vwQ at h2
    split at h2
    · rename_i hn
      rw [List.mem_singleton] at h2
      rw [h2]; exact hn
    · split at h2
      · exact vw_name n _ _ q h2
      · simp at h2
theorem name_word {t : Tr} (h : nameB t = true) : ∃ n a b, t = .word n a b := by
  cases t with
  | word n a b => exact ⟨n, a, b, rfl⟩
  | _ => exact nomatch h
def KpIn (D : Addr) (H : Hp) (q : Tr × Int) (u : V) : Prop := ∃ t b, u = .ref t ∧ t ≠ D ∧ b ≠ D ∧ H t = some (.tup [.ref b, .int q.2]) ∧ H b = some (.tup ((kyT q.1).map kV))
def spDO (c : C4) : Sp := fun vs H Q _ => ∃ (l : Addr) (us : List V) (ws : List (Tr × Int)), vs = [.ref l] ∧ H l = some (.lst us) ∧ Al (PwIn c All H) ws us ∧ (∀ q ∈ ws, nameB q.1 = true) ∧ ws.length ≤ 100000 ∧
  ∀ (H' : Hp) (D : Addr), Same H H' → H D = none → H' D = some (.dT (dOfT (prsOf ws))) → Q (.ref D) H'
def spVars (c : C4) (n : Nat) : Sp := fun vs H Q _ => ∃ (v : V) (t : Tr), vs = [v] ∧ TrIn c All H t v ∧ GoodP n t ∧ (vw n 0 t).length ≤ 100000 ∧
  ∀ (H' : Hp) (D : Addr), Same H H' → H D = none → H' D = some (.dT (dOfT (prsOf (vw n 0 t)))) → Q (.ref D) H'
section
variable {P : Program} {w : World} {K : PySem.W.Frag} {mg : Str → Option Value} {base : Heap} {c : C4} {nn : Addr}
theorem ok_vw {f fI fN fP : Addr} {fd fdI fdN fdP : FuncData} (F : Fun K "variable_words" "variable_words" sVarWords f fd)
    (kI : PySem.W.keepIn K (.ref fI) = true) (bI : Binds K fdI ["row"] []) (mI : mg "pieces" = some (.ref fI)) (GI : FnOk P w K mg base CX0 2 fI fdI ["row"] (spPieces c))
    (kN : PySem.W.keepIn K (.ref fN) = true) (bN : Binds K fdN ["tree"] []) (mN : mg "is_name" = some (.ref fN)) (GN : FnOk P w K mg base CX0 1 fN fdN ["tree"] (spIsName c))
    (kP : PySem.W.keepIn K (.ref fP) = true) (bP : Binds K fdP ["tree"] []) (mP : mg "is_pattern" = some (.ref fP)) (GP : FnOk P w K mg base CX0 3 fP fdP ["tree"] (spIsPat c))
    (bV : Binds K fd pVW []) (mV : mg "variable_words" = some (.ref f)) : ∀ n, FnOk P w K mg base CX0 (n + 4) f fd pVW (spVW c n)
  | 0 => vw_step (sp := spNo) F kI bI mI GI kN bN mN GN kP bP mP GP fn_no bV mV fun e h => by omega
  | n + 1 => vw_step (sp := spVW c n) F kI bI mI GI kN bN mN GN kP bP mP GP (ok_vw F kI bI mI GI kN bN mN GN kP bP mP GP bV mV n) bV mV fun e h => by
    obtain rfl : e = n := by omega
    rfl
theorem scDO : FnScope ["pairs"] ["pairs"] (defScope sDepthsOf) := ⟨rfl, rfl, rfl, by decide +kernel, rfl, by decide +kernel, by decide +kernel⟩
theorem lcDO1 : LcS (defScope sDepthsOf).names [(".0", .local), ("word", .local), ("depth", .local), ("key_of", .globalImplicit)] ["pairs"] [false] := ⟨by decide +kernel, by decide +kernel, by decide +kernel, by decide +kernel, by decide +kernel, rfl⟩
theorem ndDO1 : (["pairs", "word", "depth"] : List Str).Nodup := by decide +kernel
theorem ok_depthsOf {f fK : Addr} {fd fdK : FuncData} (F : Fun K "depths_of" "depths_of" sDepthsOf f fd) (X : Txt K mg nn)
    (kK : PySem.W.keepIn K (.ref fK) = true) (bK : Binds K fdK ["word"] []) (mK : mg "key_of" = some (.ref fK)) (GK : FnOk P w K mg base CX0 1 fK fdK ["word"] (spKeyOf c)) : FnOk P w K mg base CX0 2 f fd ["pairs"] (spDO c) := by
  refine F.ok scDO (fun vs H Q E h => ?_) (fun cdv A outer s H vs Q E hr h => ?_)
  · obtain ⟨l, us, ws, rfl, _⟩ := h; rfl
  · obtain ⟨l, us, ws, rfl, hl, hA, hnm, hlen, q⟩ := h
    have hu := hr.units
    have z2 : 2 ≤ sizeLine := by rw [sizeLine_eq]; decide
    refine ⟨_, pss_one (ps_ret (pe_callTy (call_dpairsK rfl hu) (by rfl) X.dict bt_dictT (pa_cons (pe_lc (g := gTup K 2 (gCons (gName 1) (gCons (gName 2) gNil))) (ext := ["word", "depth"]) lcDO1 rfl (pi_list (pv 0))
          ⟨fun _ _ _ _ _ => (pg_tup rfl (pgs_cons (pg_name (i := 1) ndDO1 rfl (Or.inl rfl) (.inr rfl)) (pgs_cons (pg_name (i := 2) ndDO1 rfl (Or.inl rfl) (.inr rfl)) pgs_nil))), fun _ _ _ _ _ => pts_nil, fun _ _ _ _ _ => (pe_tup (pa_cons (pe_call GK hr (by rfl) mK kK bK .nil pass0 (pa_cons (pv 1) pa_nil)) (pa_cons (pv 2) pa_nil)))⟩) pa_nil))), ?_⟩
    have hul := hA.1
    refine ⟨_, rfl, l, rfl, ⟨_, SqL.of hl⟩, fun D hD => ?_⟩
    refine lc_lst (K := K) (a := l) (xs := us) (fun k ys σ' H' => (∃ v1 v2, σ' = [none, v1, v2]) ∧ Same H H' ∧ H' D = some (.lst ys) ∧ Al (KpIn D H') (ws.take k) ys)
      ⟨⟨_, _, rfl⟩, same_upd hD, upd_same, Al.nil⟩ (fun k ys σ' H' _ hP => SqL.of (hP.2.1 _ _ hl)) ?_ ?_
    · rintro k x ys σ' H' hx ⟨⟨v1, v2, rfl⟩, sH, hDy, hal⟩
      have hk : k < us.length := (List.getElem?_eq_some_iff.mp hx).1
      obtain ⟨qq, eqq, p, y, rfl, _, hp, ht⟩ := hA.at hx
      obtain ⟨n, a, b, hw⟩ := name_word (hnm _ (List.mem_of_getElem? eqq))
      have hpD : H p = some (.tup [y, .int qq.2]) := hp
      refine ⟨p, _, rfl, SqT.of (sH _ _ hp), rfl, _, _, rfl, _, _, rfl, rfl, ?_⟩
      refine yes_if ?_
      rw [hw] at ht
      refine ⟨_, rfl, _, n, a, b, rfl, (ht.same sH), fun p1 hp1 => ?_⟩
      have s1 := same_upd (o := .tup [.str n, .int (b : Int)]) hp1
      have n1 : p1 ≠ D := fun z => by rw [z, hDy] at hp1; cases hp1
      refine ⟨_, rfl, z2, fun p2 hp2 => ?_⟩
      have s2 := same_upd (o := .tup [.ref p1, .int qq.2]) hp2
      have n2 : p2 ≠ D := fun z => by rw [z, s1 _ _ hDy] at hp2; cases hp2
      have s3 := s1.trans s2
      have hyl := hal.1
      rw [List.length_take] at hyl
      refine ⟨s3 _ _ hDy, by rw [sizeLine_eq]; omega, Beh.of hk ⟨⟨_, _, rfl⟩, fun b o e => ?_, upd_same, ?_⟩⟩
      · rw [upd_ne (ne_of_none e hD)]
        exact s3 _ _ (sH _ _ e)
      · rw [List.take_succ, eqq]
        refine (hal.mono fun _ _ r => ?_).snoc ?_
        · obtain ⟨t, b, e, nt, nb, h1, h2⟩ := r
          exact ⟨t, b, e, nt, nb, by rw [upd_ne nt]; exact s3 _ _ h1, by rw [upd_ne nb]; exact s3 _ _ h2⟩
        · refine ⟨p2, p1, rfl, n2, n1, by rw [upd_ne n2]; exact upd_same, ?_⟩
          rw [upd_ne n1, hw]
          exact s2 _ _ upd_same
    · rintro ys σ' H1 ⟨_, sH, hDy, hal⟩
      rw [hul, List.take_length] at hal
      refine ⟨D, ys, prsOf ws, rfl, hDy, by rw [hal.1]; unfold prsOf; rw [List.length_map], fun i kv e => ?_, fun l1 hl1 => ?_⟩
      · unfold prsOf at e
        rw [List.getElem?_map] at e
        cases eq : ws[i]? with
        | none => rw [eq] at e; cases e
        | some qq =>
          rw [eq] at e
          injection e with e
          subst e
          obtain ⟨u, eu, t, b, rfl, _, _, h1, h2⟩ := hal.2 i qq eq
          exact ⟨t, b, eu, h1, h2⟩
      · exact q _ _ (sH.trans (same_upd hl1)) (sH.free hl1) upd_same
theorem scVars : FnScope ["pattern"] ["pattern"] (defScope sVars) := ⟨rfl, rfl, rfl, by decide +kernel, rfl, by decide +kernel, by decide +kernel⟩
theorem ok_vars {n : Nat} {f fV fO : Addr} {fd fdV fdO : FuncData} (F : Fun K "variables" "variables" sVars f fd)
    (kV' : PySem.W.keepIn K (.ref fV) = true) (bV : Binds K fdV pVW []) (mV : mg "variable_words" = some (.ref fV)) (GV : FnOk P w K mg base CX0 (n + 4) fV fdV pVW (spVW c n))
    (kO : PySem.W.keepIn K (.ref fO) = true) (bO : Binds K fdO ["pairs"] []) (mO : mg "depths_of" = some (.ref fO)) (GO : FnOk P w K mg base CX0 2 fO fdO ["pairs"] (spDO c)) : FnOk P w K mg base CX0 (n + 5) f fd ["pattern"] (spVars c n) := by
  refine F.ok scVars (fun vs H Q E h => ?_) (fun cdv A outer s H vs Q E hr h => ?_)
  · obtain ⟨v, t, rfl, _⟩ := h; rfl
  · obtain ⟨v, t, rfl, ht, hg, hlen, q⟩ := h
    have hr2 : Room 2 _ := hr.mono (by omega)
    refine ⟨_, pss_one (ps_ret (pe_call GO hr2 (by rfl) mO kO bO .nil pass0 (pa_cons (pe_call GV hr (by rfl) mV kV' bV .nil pass0 (pa_cons (pv 0) (pa_cons pe_int pa_nil))) pa_nil))), ?_⟩
    refine ⟨_, rfl, v, t, 0, _, rfl, ht, hg, hlen, fun H1 D us s1 hD hD1 hA => ?_⟩
    exact ⟨D, us, _, rfl, hD1, hA.mono fun _ _ r => r.mono fun b o _ e => ⟨trivial, e⟩, vw_name n 0 t, hlen, fun H2 D2 s2 h2 h22 => q H2 D2 (s1.trans s2) (s1.free h2) h22⟩
end
end K32

set_option Elab.async false
set_option linter.all false
set_option maxRecDepth 100000
set_option maxHeartbeats 4000000
set_option exponentiation.threshold 3000
/-! k32: the law's pieces and its leaves. Own work. -/
namespace K32
open PySem L2 TR
inductive Pc where
  | v (n : Str) (a : Int) (b : Nat)
  | f (n : Str) (a : Int) (b : Nat)
  | n (z a : Int)
  | p (inner : List Pc) (star a deep : Int)
mutual
/-- how a piece lies on the heap -/
def QIn (N : Addr → Prop) (H : Hp) : Pc → V → Prop
  | .v n a b, u => ∃ p, u = .ref p ∧ N p ∧ H p = some (.tup [.str "v", .str n, .int a, .int b]) ∧ Nv n
  | .f n a b, u => ∃ p, u = .ref p ∧ N p ∧ H p = some (.tup [.str "f", .str n, .int a, .int b]) ∧ Nv n
  | .n z a, u => ∃ p, u = .ref p ∧ N p ∧ H p = some (.tup [.str "n", .int z, .int a])
  | .p ps st a d, u => ∃ p l us, u = .ref p ∧ N p ∧ H p = some (.tup [.str "p", .ref l, .int st, .int a, .int d]) ∧ N l ∧ H l = some (.lst us) ∧ QsIn N H ps us
def QsIn (N : Addr → Prop) (H : Hp) : List Pc → List V → Prop
  | [], us => us = []
  | q :: r, us => ∃ u ws, us = u :: ws ∧ QIn N H q u ∧ QsIn N H r ws
end
mutual
theorem QIn.mono {N N' : Addr → Prop} {H H' : Hp} (h : ∀ b o, N b → H b = some o → N' b ∧ H' b = some o) : ∀ {q : Pc} {u : V}, QIn N H q u → QIn N' H' q u
  | .v n a b, u, x => by
    simp only [QIn] at x ⊢
    obtain ⟨p, e, np, hp, hn⟩ := x
    exact ⟨p, e, (h p _ np hp).1, (h p _ np hp).2, hn⟩
  | .f n a b, u, x => by
    simp only [QIn] at x ⊢
    obtain ⟨p, e, np, hp, hn⟩ := x
    exact ⟨p, e, (h p _ np hp).1, (h p _ np hp).2, hn⟩
  | .n z a, u, x => by
    simp only [QIn] at x ⊢
    obtain ⟨p, e, np, hp⟩ := x
    exact ⟨p, e, (h p _ np hp).1, (h p _ np hp).2⟩
  | .p ps st a d, u, x => by
    simp only [QIn] at x ⊢
    obtain ⟨p, l, us, e, np, hp, nl, hl, r⟩ := x
    exact ⟨p, l, us, e, (h p _ np hp).1, (h p _ np hp).2, (h l _ nl hl).1, (h l _ nl hl).2, QsIn.mono h r⟩
theorem QsIn.mono {N N' : Addr → Prop} {H H' : Hp} (h : ∀ b o, N b → H b = some o → N' b ∧ H' b = some o) : ∀ {qs : List Pc} {us : List V}, QsIn N H qs us → QsIn N' H' qs us
  | [], us, x => by simp only [QsIn] at x ⊢; exact x
  | q :: r, us, x => by
    simp only [QsIn] at x ⊢
    obtain ⟨v, ws, e, y, z⟩ := x
    exact ⟨v, ws, e, QIn.mono h y, QsIn.mono h z⟩
end
section
variable {N : Addr → Prop} {H : Hp}
theorem QsIn.al : ∀ {qs : List Pc} {us : List V}, QsIn N H qs us → Al (QIn N H) qs us
  | [], us, x => by simp only [QsIn] at x; rw [x]; exact Al.nil
  | q :: r, us, x => by
    simp only [QsIn] at x
    obtain ⟨u, ws, e, y, z⟩ := x
    rw [e]
    exact (Al.one y).append (QsIn.al z)
theorem QsIn.of : ∀ {qs : List Pc} {us : List V}, Al (QIn N H) qs us → QsIn N H qs us
  | [], us, x => by simp only [QsIn]; exact List.eq_nil_of_length_eq_zero x.1
  | q :: r, us, x => by
    simp only [QsIn]
    obtain ⟨u, eu, y⟩ := x.2 0 q rfl
    cases us with
    | nil => simp at eu
    | cons w ws =>
      have : w = u := by simpa using eu
      subst this
      exact ⟨w, ws, rfl, y, QsIn.of ⟨by have := x.1; simpa using this, fun i a e => by obtain ⟨v, ev, r⟩ := x.2 (i + 1) a (by simpa using e); exact ⟨v, by simpa using ev, r⟩⟩⟩
end
theorem Al.drop {α : Type} {R : α → V → Prop} {xs : List α} {vs : List V} (h : Al R xs vs) (k : Nat) : Al R (xs.drop k) (vs.drop k) :=
  ⟨by rw [List.length_drop, List.length_drop, h.1], fun i a e => by rw [List.getElem?_drop] at e; obtain ⟨v, ev, r⟩ := h.2 _ a e; exact ⟨v, by rw [List.getElem?_drop]; exact ev, r⟩⟩
theorem Al.take {α : Type} {R : α → V → Prop} {xs : List α} {vs : List V} (h : Al R xs vs) (k : Nat) : Al R (xs.take k) (vs.take k) :=
  ⟨by rw [List.length_take, List.length_take, h.1], fun i a e => by
    rw [List.getElem?_take] at e
    split at e
    · rename_i hi
      obtain ⟨v, ev, r⟩ := h.2 _ a e
      exact ⟨v, by rw [List.getElem?_take, if_pos hi]; exact ev, r⟩
    · cases e⟩
mutual
def sz : Pc → Nat
  | .v _ _ _ => 1
  | .f _ _ _ => 1
  | .n _ _ => 1
  | .p ps _ _ _ => szs ps + 1
def szs : List Pc → Nat
  | [] => 0
  | q :: r => sz q + szs r
end
theorem szs_append : ∀ (a b : List Pc), szs (a ++ b) = szs a + szs b
  | [], b => by simp [szs]
  | q :: r, b => by rw [List.cons_append, szs, szs, szs_append r b]; omega
theorem szs_mem {q : Pc} : ∀ {qs : List Pc}, q ∈ qs → sz q ≤ szs qs
  | p :: r, h => by
    rw [szs]
    rcases List.mem_cons.mp h with h | h
    · rw [h]; omega
    · have := szs_mem h; omega
theorem sz_pos : ∀ q : Pc, 1 ≤ sz q
  | .v _ _ _ => by simp only [sz]; exact Nat.le_refl _
  | .f _ _ _ => by simp only [sz]; exact Nat.le_refl _
  | .n _ _ => by simp only [sz]; exact Nat.le_refl _
  | .p ps _ _ _ => by simp only [sz]; omega
theorem len_szs : ∀ qs : List Pc, qs.length ≤ szs qs
  | [] => Nat.zero_le _
  | q :: r => by rw [List.length_cons, szs]; have := sz_pos q; have := len_szs r; omega
/-- above all numbers of the keys -/
theorem keys_top (n : Str) : ∀ kvs : List (List Key × V), ∃ M : Nat, ∀ b : Nat, (valV kvs [.inr n, .inl (some (b : Int))]).isSome = true → b < M
  | [] => ⟨0, fun b h => nomatch h⟩
  | (k, v) :: r => by
    obtain ⟨M, hM⟩ := keys_top n r
    by_cases hk : ∃ b : Nat, k = [.inr n, .inl (some (b : Int))]
    · obtain ⟨b0, rfl⟩ := hk
      refine ⟨max M (b0 + 1), fun b h => ?_⟩
      by_cases e : b = b0
      · omega
      · have : valV (([.inr n, .inl (some (b0 : Int))], v) :: r) [.inr n, .inl (some (b : Int))] = valV r [.inr n, .inl (some (b : Int))] := by
          unfold valV
          rw [List.find?_cons_of_neg]
          simp; omega
        rw [this] at h
        have := hM b h; omega
    · refine ⟨M, fun b h => hM b ?_⟩
      have : valV ((k, v) :: r) [.inr n, .inl (some (b : Int))] = valV r [.inr n, .inl (some (b : Int))] := by
        unfold valV
        rw [List.find?_cons_of_neg]
        simp; intro e; exact hk ⟨b, e⟩
      rw [this] at h; exact h
def spLeaf : Sp := fun vs H Q _ => ∃ (z k : Int) (U : Addr) (kvs : List (List Key × V)), vs = [.int z, .int k, .ref U] ∧ H U = some (.dT kvs) ∧ kvs.length ≤ 1000 ∧
  ∀ (H' : Hp) (q : Pc) (u : V) (kvs' : List (List Key × V)), (∀ b o, b ≠ U → H b = some o → H' b = some o) → H' U = some (.dT kvs') → kvs'.length ≤ kvs.length + 1 → QIn (Free H) H' q u → sz q = 1 → Q u H'
section
variable {P : Program} {w : World} {K : PySem.W.Frag} {mg : Str → Option Value} {base : Heap} {c : C4} {nn : Addr}
abbrev NLf : List Str := ["_law_cell", "_law_k", "_law_used", "_law_at", "_law_bits", "_law_name_here"]
theorem scLeaf : FnScope NLf ["_law_cell", "_law_k", "_law_used"] (defScope sLeaf) := ⟨rfl, rfl, rfl, by decide +kernel, rfl, by decide +kernel, by decide +kernel⟩
theorem ok_leaf {f fN : Addr} {fd fdN : FuncData} (F : Fun K "_law_leaf" "_law_leaf" sLeaf f fd) (kN : PySem.W.keepIn K (.ref fN) = true) (bN : Binds K fdN ["_law_cell"] []) (mN : mg "_law_name" = some (.ref fN)) (GN : FnOk P w K mg base CX0 1 fN fdN ["_law_cell"] spName) :
    FnOk P w K mg base CX0 2 f fd ["_law_cell", "_law_k", "_law_used"] spLeaf := by
  refine F.ok scLeaf (fun vs H Q E h => ?_) (fun cdv A outer s H vs Q E hr h => ?_)
  · obtain ⟨z, k, U, kvs, rfl, _⟩ := h; rfl
  · obtain ⟨z, k, U, kvs, rfl, hU, hkl, q⟩ := h
    have nd := scLeaf.nd
    have hu := hu_of hr
    have z4 : 4 ≤ sizeLine := by rw [sizeLine_eq]; decide
    have z3 : 3 ≤ sizeLine := by rw [sizeLine_eq]; decide
    have z2 : 2 ≤ sizeLine := by rw [sizeLine_eq]; decide
    have REST : ∃ t : TS, PSs (cxOf CX0 P w K mg base NLf "_law_leaf" (defScope sLeaf) f cdv A outer s H E).nox ((defBody sLeaf).drop 4) t ∧
        ∀ (a : Int) (b : Nat) (x : Str) (H1 : Hp), Same H H1 → Nv x → t { nx := fun _ H' => Q .non H', rt := Q } [some (.int z), some (.int k), some (.ref U), some (.int a), some (.int (b : Int)), some (.str x)] H1 := by
      refine ⟨_, pss_cons (ps_if (pt_cmpR op_eq (pe_op op_mod (pv 0) pe_int) pe_int (nomark _))
        (pss_one (ps_ret (pe_tup (pa_cons pe_str (pa_cons (pe_op op_sub (pe_op op_mod (pe_op op_fdiv (pv 0) pe_int) (pe_op op_mul pe_int (pe_op op_pow pe_int pe_int))) (pe_op op_pow pe_int pe_int)) (pa_cons (pv 3) pa_nil))))))
        pss_nil)
        (pss_cons (ps_if (pt_cmpR op_eq (pe_op op_mod (pv 0) pe_int) pe_int (nomark _))
        (pss_one (ps_ret (pe_tup (pa_cons pe_str (pa_cons (pv 5) (pa_cons (pv 3) (pa_cons (pv 4) pa_nil)))))))
        pss_nil)
        (pss_cons (ps_while PassesOwn.never (pt_cmp (pc_din hu (pe_tup (pa_cons (pv 5) (pa_cons (pv 4) pa_nil))) (pv 2)))
        (pss_one (ps_set (i := 4) nd rfl (Or.inl rfl) (pe_op op_add (pv 4) pe_int))))
        (pss_cons (ps_dput hu (pv 2) (pe_tup (pa_cons (pv 5) (pa_cons (pv 4) pa_nil))) pe_bl rfl)
        (pss_one (ps_ret (pe_tup (pa_cons pe_str (pa_cons (pv 5) (pa_cons (pv 3) (pa_cons (pv 4) pa_nil)))))))))), ?_⟩
      intro a b x H1 s1 hx
      have sU := s1 _ _ hU
      refine ⟨_, rfl, _, _, rfl, rfl, (by show (0 : Int) < _; decide), rfl, _, rfl, ite2 (fun _ => ?_) (fun _ => ?_)⟩
      · refine ⟨_, rfl, _, _, rfl, rfl, ⟨by decide, by decide⟩, _, _, rfl, rfl, ⟨by decide, by decide, by decide⟩, _, _, rfl, rfl, .inl ⟨by decide, by decide⟩, _, _, rfl, rfl, (by show (0 : Int) < _; decide), _, _, rfl, rfl, ⟨by decide, by decide, by decide⟩, _, _, rfl, rfl, _, rfl, z3, fun p hp => ?_⟩
        have s2 := s1.trans (same_upd (o := .tup [.str "n", .int (z / 7 % (2 * 10 ^ (59 : Int).toNat) - 10 ^ (59 : Int).toNat), .int a]) hp)
        refine q _ (.n (z / 7 % (2 * 10 ^ (59 : Int).toNat) - 10 ^ (59 : Int).toNat) a) (.ref p) kvs (fun b o _ e => s2 _ _ e) (s2 _ _ hU) (Nat.le_succ _) ?_ (by simp only [sz])
        simp only [QIn]
        exact ⟨p, rfl, s1.free hp, upd_same⟩
      refine ⟨_, rfl, _, _, rfl, rfl, (by show (0 : Int) < _; decide), rfl, _, rfl, ite2 (fun _ => ?_) (fun _ => ?_)⟩
      · refine ⟨_, rfl, _, rfl, _, rfl, z4, fun p hp => ?_⟩
        have s2 := s1.trans (same_upd (o := .tup [.str "f", .str x, .int a, .int (b : Int)]) hp)
        refine q _ (.f x a b) (.ref p) kvs (fun b o _ e => s2 _ _ e) (s2 _ _ hU) (Nat.le_succ _) ?_ (by simp only [sz])
        simp only [QIn]
        exact ⟨p, rfl, s1.free hp, upd_same, hx⟩
      obtain ⟨M, hM⟩ := keys_top x kvs
      refine ⟨fun m σ' H2 => ∃ b' : Nat, σ' = [some (.int z), some (.int k), some (.ref U), some (.int a), some (.int (b' : Int)), some (.str x)] ∧ Same H H2 ∧ m = M - b', ⟨_, b, rfl, s1, rfl⟩, ?_⟩
      rintro m σ' H2 ⟨b', rfl, s2, rfl⟩
      refine ⟨_, rfl, _, rfl, z2, fun p hp => ?_⟩
      have s3 := s2.trans (same_upd (o := .tup [.str x, .int (b' : Int)]) hp)
      have hg := DGet.t (k := ([.inr x, .inl (some (b' : Int))] : List Key)) (s3 _ _ hU) (upd_same (H := H2) (a := p) (o := .tup [.str x, .int (b' : Int)]))
      refine ⟨_, rfl, U, _, rfl, hg, _, rfl, ite2 (fun c1 => ?_) (fun c1 => ?_)⟩
      · refine ⟨fun σ' H3 => ∃ b2 : Nat, b2 = b' + 1 ∧ σ' = [some (.int z), some (.int k), some (.ref U), some (.int a), some (.int (b2 : Int)), some (.str x)] ∧ Same H H3, fun σ' H3 hz => ?_, _, rfl, _, _, rfl, rfl, b' + 1, rfl, rfl, s3⟩
        obtain ⟨b2, rfl, rfl, s4⟩ := hz
        have := hM b' c1
        exact ⟨_, by omega, b' + 1, rfl, s4, rfl⟩
      · refine ⟨_, rfl, _, rfl, _, rfl, z2, fun p1 hp1 => ?_⟩
        have s4 := s3.trans (same_upd (o := .tup [.str x, .int (b' : Int)]) hp1)
        have g1 := s4 _ _ hU
        refine ⟨U, _, rfl, DPut.t (k := ([.inr x, .inl (some (b' : Int))] : List Key)) g1 upd_same (by rw [sizeLine_eq]; omega), ?_⟩
        refine ⟨_, rfl, _, rfl, _, rfl, z4, fun p2 hp2 => ?_⟩
        have n2 : p2 ≠ U := fun e => by rw [e, upd_same] at hp2; cases hp2
        have hp2' := hp2
        rw [upd_ne n2] at hp2'
        refine q _ (.v x a b') (.ref p2) _ (fun b o nb e => ?_) (by rw [upd_ne (Ne.symm n2)]; exact upd_same) (length_putK _ _ _) ?_ (by simp only [sz])
        · have nb2 : b ≠ p2 := ne_of_none (s4 _ _ e) hp2'
          rw [upd_ne nb2, upd_ne nb]; exact s4 _ _ e
        · simp only [QIn]
          exact ⟨p2, rfl, s4.free hp2', upd_same, hx⟩
    obtain ⟨t, ht, hR⟩ := REST
    refine ⟨_, pss_cons (ps_set (i := 3) nd rfl (Or.inl rfl) (pe_op op_add (pe_op op_mul pe_int (pv 1)) (pe_op op_mod (pe_op op_fdiv (pv 0) pe_int) pe_int)))
      (pss_cons (ps_set (i := 4) nd rfl (Or.inl rfl) (pe_ix ix_list (pe_lst (pa_cons pe_int (pa_cons pe_int (pa_cons pe_int (pa_cons (pe_op op_mod (pe_op op_mul (pe_op op_fdiv (pv 0) pe_int) pe_int) (pe_op op_pow pe_int pe_int)) pa_nil))))) (pe_op op_mod (pe_op op_fdiv (pv 0) pe_int) pe_int) (fun _ _ => rfl)))
      (pss_cons (ps_set (i := 5) nd rfl (Or.inl rfl) (pe_call GN hr (by rfl) mN kN bN .nil pass0 (pa_cons (pe_op op_fdiv (pv 0) pe_int) pa_nil)))
      (pss_cons (ps_if (pt_cmpR op_lt (pe_op op_mod (pe_op op_fdiv (pv 0) pe_int) pe_int) pe_int (nomark _))
      (pss_one (ps_set (i := 5) nd rfl (Or.inl rfl) (pe_call GN hr (by rfl) mN kN bN .nil pass0 (pa_cons (pe_op op_mod (pe_op op_fdiv (pv 0) pe_int) pe_int) pa_nil))))
      pss_nil) ht))), ?_⟩
    have a0 := Int.emod_nonneg (z / 28 * 69621) (show ((2 : Int) ^ (40 : Int).toNat) ≠ 0 by decide)
    obtain ⟨b3, hb3⟩ : ∃ b3 : Nat, z / 28 * 69621 % 2 ^ (40 : Int).toNat = (b3 : Int) := ⟨(z / 28 * 69621 % 2 ^ (40 : Int).toNat).toNat, (Int.toNat_of_nonneg a0).symm⟩
    have c0 := Int.emod_nonneg (z / 7) (show (4 : Int) ≠ 0 by decide)
    have c1 := Int.emod_lt_of_pos (z / 7) (show (0 : Int) < 4 by decide)
    obtain ⟨v, ev, hv⟩ := atI_some (xs := ([.int 0, .int 1, .int 6, .int (z / 28 * 69621 % 2 ^ (40 : Int).toNat)] : List V)) (i := z / 7 % 4) c0 c1
    obtain ⟨b, rfl⟩ : ∃ b : Nat, v = .int (b : Int) := by
      simp only [List.mem_cons, List.not_mem_nil, or_false] at hv
      rcases hv with rfl | rfl | rfl | rfl
      · exact ⟨0, rfl⟩
      · exact ⟨1, rfl⟩
      · exact ⟨6, rfl⟩
      · exact ⟨b3, by rw [hb3]⟩
    refine ⟨_, rfl, _, _, rfl, rfl, .inl ⟨by decide, by decide⟩, _, rfl, _, _, rfl, rfl, ⟨by decide, by decide⟩, _, _, rfl, rfl, (by show (0 : Int) < _; decide), _, _, rfl, rfl, ?_⟩
    refine ⟨_, rfl, _, _, rfl, rfl, ⟨by decide, by decide⟩, _, _, rfl, rfl, .inr ⟨by decide, by decide⟩, _, _, rfl, rfl, ⟨by decide, by decide, by decide⟩, _, _, rfl, rfl, (by show (0 : Int) < _; decide), z4, fun L hL => ?_⟩
    have s1 := same_upd (o := .lst [.int 0, .int 1, .int 6, .int (z / 28 * 69621 % 2 ^ (40 : Int).toNat)]) hL
    refine ⟨_, rfl, _, _, rfl, rfl, ⟨by decide, by decide⟩, _, _, rfl, rfl, (by show (0 : Int) < _; decide), L, _, _, _, rfl, rfl, SqL.of upd_same, ev, ?_⟩
    refine ⟨_, rfl, _, _, rfl, rfl, ⟨by decide, by decide⟩, _, rfl, fun x hx => ?_⟩
    refine ⟨_, rfl, _, _, rfl, rfl, ⟨by decide, by decide⟩, _, _, rfl, rfl, (by show (0 : Int) < _; decide), _, _, rfl, rfl, _, rfl, ite2 (fun _ => ?_) (fun _ => hR _ b x _ s1 hx)⟩
    exact ⟨_, rfl, _, _, rfl, rfl, ⟨by decide, by decide⟩, _, _, rfl, rfl, (by show (0 : Int) < _; decide), _, rfl, fun y hy => hR _ b y _ s1 hy⟩
end
end K32

set_option Elab.async false
set_option linter.all false
set_option maxRecDepth 100000
set_option maxHeartbeats 4000000
/-! k32: the law's pieces made. Own work. -/
namespace K32
open PySem L2 TR
theorem bt_min' : bootBuiltins "min" = some (.builtin "min") := by decide +kernel
theorem cut_take (xs : List V) (k : Nat) (h : k ≤ xs.length) : cutV xs none (some (k : Int)) = xs.take k := by
  unfold cutV
  rw [HT.sIx_none, HT.sIx_nat, Nat.sub_zero, List.drop_zero, Nat.min_eq_left h]
theorem cut_drop (xs : List V) (k : Nat) (h : k ≤ xs.length) : cutV xs (some (k : Int)) none = xs.drop k := by
  unfold cutV
  rw [HT.sIx_none, HT.sIx_nat, Nat.min_eq_left h, List.take_of_length_le (by rw [List.length_drop]; exact Nat.le_refl _)]
theorem cell_of {ns : List Int} {i : Nat} {x : V} (h : (ns.map V.int)[i]? = some x) : ∃ z : Int, x = .int z := by
  rw [List.getElem?_map] at h
  cases e : ns[i]? with
  | none => rw [e] at h; cases h
  | some z => rw [e] at h; exact ⟨z, by injection h with h; exact h.symm⟩
theorem at_zero (x : V) (r : List V) : atI (x :: r) 0 = some x := by
  unfold atI ixN
  rw [if_pos (Int.le_refl _), if_pos (by rw [List.length_cons]; omega)]
  rfl
/-- what a piece begins with -/
theorem QIn.tag {N : Addr → Prop} {H : Hp} {q : Pc} {u : V} (h : QIn N H q u) : ∃ p k r, u = .ref p ∧ H p = some (.tup (.str k :: r)) ∧ (k = "p" → ∃ a b c d, r = [a, b, c, .int d]) ∧ N p := by
  cases q with
  | v n a b => simp only [QIn] at h; obtain ⟨p, e, hn, hp, _⟩ := h; exact ⟨p, _, _, e, hp, fun z => absurd z (by decide), hn⟩
  | f n a b => simp only [QIn] at h; obtain ⟨p, e, hn, hp, _⟩ := h; exact ⟨p, _, _, e, hp, fun z => absurd z (by decide), hn⟩
  | n z a => simp only [QIn] at h; obtain ⟨p, e, hn, hp⟩ := h; exact ⟨p, _, _, e, hp, fun z => absurd z (by decide), hn⟩
  | p ps s a d => simp only [QIn] at h; obtain ⟨p, l, us, e, hn, hp, _⟩ := h; exact ⟨p, _, _, e, hp, fun z => ⟨_, _, _, d, rfl⟩, hn⟩
def NU (H : Hp) (S U : Addr) (b : Addr) : Prop := H b = none ∧ b ≠ S ∧ b ≠ U
def LpI (H : Hp) (a : Addr) (dm : Int) (U : Addr) (i : Nat) (σ : St) (H' : Hp) : Prop := ∃ (S : Addr) (us : List V) (qs : List Pc) (kvs : List (List Key × V)) (v4 v5 v6 v7 v8 : Option V), σ = [some (.ref a), some (.int dm), some (.ref S), some (.ref U), v4, v5, v6, v7, v8] ∧ Same H H' ∧ H S = none ∧ H' S = some (.lst us) ∧ H' U = some (.dT kvs) ∧ kvs.length ≤ i ∧ Al (QIn (NU H S U) H') qs us ∧ szs qs ≤ i
def spLP (K : PySem.W.Frag) : Sp := fun vs H Q _ => ∃ (a : Addr) (ns : List Int) (dm : Int), vs = [.ref a, .int dm] ∧ SqL K H a (ns.map V.int) ∧ ns.length ≤ 70 ∧
  ∀ (H' : Hp) (S : Addr) (us : List V) (qs : List Pc), Same H H' → H S = none → H' S = some (.lst us) → Al (QIn (fun b => H b = none ∧ b ≠ S) H') qs us → szs qs ≤ 70 → Q (.ref S) H'
section
variable {P : Program} {w : World} {K : PySem.W.Frag} {mg : Str → Option Value} {base : Heap} {c : C4} {nn : Addr}
abbrev NLp : List Str := ["_law_cells", "_law_deepest", "_law_stack", "_law_used", "_law_k", "_law_cell", "_law_many", "_law_inner", "_law_deep"]
theorem scLp : FnScope NLp ["_law_cells", "_law_deepest"] (defScope sLPieces) := ⟨rfl, rfl, rfl, by decide +kernel, rfl, by decide +kernel, by decide +kernel⟩
theorem lcLp1 : LcS (defScope sLPieces).names [(".0", .local), ("_law_piece", .local)] NLp [false, false, false, false, false, false, false, false, false] := ⟨by decide +kernel, by decide +kernel, by decide +kernel, by decide +kernel, by decide +kernel, rfl⟩
theorem ndLp1 : (["_law_cells", "_law_deepest", "_law_stack", "_law_used", "_law_k", "_law_cell", "_law_many", "_law_inner", "_law_deep", "_law_piece"] : List Str).Nodup := by decide +kernel
theorem ok_lp {f fL : Addr} {fd fdL : FuncData} (F : Fun K "_law_pieces" "_law_pieces" sLPieces f fd) (X : Txt K mg nn) (kL : PySem.W.keepIn K (.ref fL) = true) (bL : Binds K fdL ["_law_cell", "_law_k", "_law_used"] []) (mL : mg "_law_leaf" = some (.ref fL)) (GL : FnOk P w K mg base CX0 2 fL fdL ["_law_cell", "_law_k", "_law_used"] spLeaf) :
    FnOk P w K mg base CX0 3 f fd ["_law_cells", "_law_deepest"] (spLP K) := by
  refine F.ok scLp (fun vs H Q E h => ?_) (fun cdv A outer s H vs Q E hr h => ?_)
  · obtain ⟨a, ns, dm, rfl, _⟩ := h; rfl
  · obtain ⟨a, ns, dm, rfl, hS0, hnl, q⟩ := h
    have nd := scLp.nd
    have hu := hu_of hr
    have z5 : 5 ≤ sizeLine := by rw [sizeLine_eq]; decide
    refine ⟨_, pss_cons (ps_set (i := 2) nd rfl (Or.inl rfl) (pe_lst pa_nil))
      (pss_cons (ps_set (i := 3) nd rfl (Or.inl rfl) pe_dnewT)
      (pss_cons (ps_for PassesOwn.never rfl (pi_enum (by rfl) X.enum (pa_cons (pv 0) pa_nil)) (pg_tup rfl (pgs_cons (pg_name (i := 4) nd rfl (Or.inl rfl)) (pgs_cons (pg_name (i := 5) nd rfl (Or.inl rfl)) pgs_nil)))
      (pss_one (ps_if (pt_cmpR op_lt (pe_op op_mod (pv 5) pe_int) pe_int (nomark _))
        (pss_one (ps_expr (pe_bm PySem.F.plainAttrs_list PySem.F.slot_list_append PySem.F.type_list_append mt_append (pv 2) (pa_cons (pe_call GL hr (by rfl) mL kL bL .nil pass0 (pa_cons (pv 5) (pa_cons (pv 4) (pa_cons (pv 3) pa_nil)))) pa_nil))))
        (pss_cons (ps_set (i := 6) nd rfl (Or.inl rfl) (pe_callB (call_min2 rfl) (by rfl) X.min bt_min' (pa_cons (pe_op op_mod (pe_op op_fdiv (pv 5) pe_int) pe_int) (pa_cons (pe_callB call_len_seq (by rfl) X.len bt_len (pa_cons (pv 2) pa_nil)) pa_nil))))
          (pss_cons (ps_set (i := 7) nd rfl (Or.inl rfl) (pe_slice sl_list (pv 2) (po_some (pe_op op_sub (pe_callB call_len_seq (by rfl) X.len bt_len (pa_cons (pv 2) pa_nil)) (pv 6))) po_none))
          (pss_cons (ps_set (i := 8) nd rfl (Or.inl rfl) (pe_op op_add pe_int (pe_maxD rfl (by rfl) X.max (pa_cons (pe_lc (ext := ["_law_piece"]) lcLp1 rfl (pi_list (pv 7))
            ⟨fun _ _ _ _ _ => (pg_name (i := 9) ndLp1 rfl (Or.inl rfl) (.inr rfl)), fun _ _ _ _ _ => (pts_one (pt_cmpR op_eq (pe_ix (ix_tup : IxR _ (rIxT K)) (pv 9) pe_int (fun _ _ => rfl)) pe_str (nomark _))), fun _ _ _ _ _ => (pe_ix (ix_tup : IxR _ (rIxT K)) (pv 9) pe_int (fun _ _ => rfl))⟩) pa_nil))))
          (pss_one (ps_if (pt_cmpR op_le (pv 8) (pv 1) (nomark _))
          (pss_cons (ps_set (i := 2) nd rfl (Or.inl rfl) (pe_slice sl_list (pv 2) po_none (po_some (pe_op op_sub (pe_callB call_len_seq (by rfl) X.len bt_len (pa_cons (pv 2) pa_nil)) (pv 6)))))
            (pss_one (ps_expr (pe_bm PySem.F.plainAttrs_list PySem.F.slot_list_append PySem.F.type_list_append mt_append (pv 2) (pa_cons (pe_tup (pa_cons pe_str (pa_cons (pv 7) (pa_cons (pe_op op_sub (pe_op op_mod (pe_op op_fdiv (pv 5) pe_int) (pe_op op_add (pv 6) pe_int)) pe_int) (pa_cons (pe_op op_mul pe_int (pv 4)) (pa_cons (pv 8) pa_nil)))))) pa_nil)))))
          pss_nil))))))))
      (pss_one (ps_ret (pv 2))))), ?_⟩
    refine ⟨Nat.zero_le _, fun S0 hS0n => ?_⟩
    intro U hUn
    have sA := same_upd (o := .lst []) hS0n
    have sB := sA.trans (same_upd (o := .dT []) hUn)
    have hUH : H U = none := sA.free hUn
    refine ⟨_, rfl, a, rfl, ⟨_, sB.seq hS0⟩, for_enum (xs := ns.map V.int) (LpI H a dm U)
      ⟨S0, [], [], [], none, none, none, none, none, rfl, sB, hS0n, same_upd hUn _ _ upd_same, upd_same, Nat.zero_le _, Al.nil, Nat.zero_le _⟩ (fun i σ H' _ hP => by obtain ⟨_, _, _, _, _, _, _, _, _, _, k, _⟩ := hP; exact k.seq hS0) ?_ ?_⟩
    · rintro i x p σ H' hi ⟨S, us, qs, kvs, v4, v5, v6, v7, v8, rfl, sH, hSn, hS, hU, hkl, hal, hsz⟩ hp
      obtain ⟨z, rfl⟩ := cell_of hi
      have hi70 : i < 70 := by
        have := (List.getElem?_eq_some_iff.mp hi).1
        rw [List.length_map] at this; omega
      have s1 := same_upd (o := .tup [.int (i : Nat), .int z]) hp
      refine ⟨p, _, rfl, SqT.of upd_same, rfl, _, _, rfl, _, _, rfl, rfl, ?_⟩
      have hS1 := s1 _ _ hS
      have hU1 := s1 _ _ hU
      have hal1 : Al (QIn (NU H S U) _) qs us := hal.mono fun _ _ r => r.mono fun b o nb e => ⟨nb, s1 _ _ e⟩
      have sH1 := sH.trans s1
      generalize upd H' p (.tup [.int (i : Nat), .int z]) = H1 at s1 hS1 hU1 hal1 sH1 ⊢
      have nSU : S ≠ U := fun e => by rw [e, hU1] at hS1; exact nomatch hS1
      have hul := hal1.1
      have hql := len_szs qs
      have nx : ∀ H3, Same H1 H3 → ∀ v6 v7 v8, LpI H a dm U (i + 1) [some (.ref a), some (.int dm), some (.ref S), some (.ref U), some (.int (i : Nat)), some (.int z), v6, v7, v8] H3 := fun H3 s3 v6 v7 v8 =>
        ⟨S, us, qs, kvs, _, _, _, _, _, rfl, sH1.trans s3, hSn, s3 _ _ hS1, s3 _ _ hU1, by omega, hal1.mono fun _ _ r => r.mono fun b o nb e => ⟨nb, s3 _ _ e⟩, by omega⟩
      refine ⟨_, rfl, _, _, rfl, rfl, (by show (0 : Int) < _; decide), _, _, rfl, rfl, _, rfl, ite2 (fun _ => ?_) (fun _ => ?_)⟩
      · refine ⟨_, rfl, .inl ⟨rfl, _, SqL.of hS1⟩, _, rfl, _, rfl, _, rfl, z, (i : Nat), U, kvs, rfl, hU1, by omega, fun H2 qq u kvs' kp hU2 hk2 hq2 hz2 => ?_⟩
        have hS2 := kp _ _ nSU hS1
        have kp2 : ∀ b o, b ≠ S → b ≠ U → H1 b = some o → upd H2 S (.lst (us ++ [u])) b = some o := fun b o nb nu e => by rw [upd_ne nb]; exact kp _ _ nu e
        refine ⟨S, us, u, rfl, rfl, hS2, by rw [hul, sizeLine_eq]; omega, S, us ++ [u], qs ++ [qq], kvs', _, _, _, _, _, rfl, fun b o e => ?_, hSn, upd_same, by rw [upd_ne (Ne.symm nSU)]; exact hU2, by omega, ?_, by rw [szs_append]; simp only [szs]; omega⟩
        · exact kp2 _ _ (ne_of_none e hSn) (ne_of_none e hUH) (sH1 _ _ e)
        · refine (hal1.mono fun _ _ r => r.mono fun b o nb e => ⟨nb, kp2 _ _ nb.2.1 nb.2.2 e⟩).snoc (hq2.mono fun b o nb e => ?_)
          have n1 : b ≠ S := fun z => by rw [z] at nb; rw [show H1 S = none from nb] at hS1; exact nomatch hS1
          have n2 : b ≠ U := fun z => by rw [z] at nb; rw [show H1 U = none from nb] at hU1; exact nomatch hU1
          exact ⟨⟨sH1.free nb, n1, n2⟩, by rw [upd_ne n1]; exact e⟩
      · obtain ⟨m, em, hm⟩ : ∃ m : Nat, (if ((us.length : Nat) : Int) < z / 7 % 4 then ((us.length : Nat) : Int) else z / 7 % 4) = (m : Int) ∧ m ≤ us.length := by
          have c0 := Int.emod_nonneg (z / 7) (show (4 : Int) ≠ 0 by decide)
          split
          · exact ⟨us.length, rfl, Nat.le_refl _⟩
          · exact ⟨(z / 7 % 4).toNat, (Int.toNat_of_nonneg c0).symm, by omega⟩
        refine ⟨_, rfl, _, _, rfl, rfl, ⟨by decide, by decide⟩, _, _, rfl, rfl, (by show (0 : Int) < _; decide), _, rfl, S, _, rfl, .inl (SqL.of hS1), _, _, rfl, ?_⟩
        dsimp only
        rw [em]
        obtain ⟨k, ek, hk⟩ : ∃ k : Nat, ((us.length : Nat) : Int) - (m : Int) = (k : Int) ∧ k ≤ us.length := ⟨us.length - m, by omega, Nat.sub_le _ _⟩
        refine ⟨_, rfl, _, rfl, S, _, rfl, .inl (SqL.of hS1), _, rfl, _, _, rfl, rfl, _, rfl, S, _, rfl, SqL.of hS1, fun L hL => ?_⟩
        rw [ek, cut_drop us _ hk]
        have s2 := same_upd (o := .lst (us.drop k)) hL
        have hLL : upd H1 L (.lst (us.drop k)) L = some (.lst (us.drop k)) := upd_same
        have hLn := sH1.free hL
        generalize upd H1 L (.lst (us.drop k)) = H2 at s2 hLL ⊢
        refine ⟨_, rfl, L, rfl, ⟨_, SqL.of hLL⟩, fun D hD => ?_⟩
        refine lc_lst (K := K) (a := L) (xs := us.drop k) (fun j ys σ' H' => (∃ v, σ' = [none, none, none, none, none, none, none, none, none, v]) ∧ Same H2 H' ∧ H' D = some (.lst ys) ∧ ∃ ds : List Int, ys = ds.map V.int ∧ ds.length ≤ j)
          ⟨⟨_, rfl⟩, same_upd hD, upd_same, [], rfl, Nat.zero_le _⟩ (fun k ys σ' H' _ hP => SqL.of (hP.2.1 _ _ hLL)) ?_ ?_
        · rintro j x ys σ' H3 hx ⟨⟨v, rfl⟩, s3, hDy, ds, rfl, hds⟩
          have hj : j < (us.drop k).length := (List.getElem?_eq_some_iff.mp hx).1
          have hjl : (us.drop k).length ≤ us.length := by rw [List.length_drop]; omega
          obtain ⟨qq, _, hqq⟩ := (hal1.drop k).at hx
          obtain ⟨pp, kk, r, rfl, hpp, hp4, _⟩ := hqq.tag
          have hpp3 := s3 _ _ (s2 _ _ hpp)
          refine ⟨_, rfl, pp, _, _, _, rfl, rfl, SqT.of hpp3, at_zero _ _, rfl, _, rfl, ite2 (fun hb => ?_) (fun hb => Beh.of hj ⟨⟨_, rfl⟩, s3, hDy, ds, rfl, by omega⟩)⟩
          have hkp : kk = "p" := by have := of_decide_eq_true hb; injection this
          obtain ⟨a1, a2, a3, d, rfl⟩ := hp4 hkp
          refine ⟨_, rfl, pp, _, _, _, rfl, rfl, SqT.of hpp3, rfl, hDy, by rw [List.length_map, sizeLine_eq]; omega, Beh.of hj ⟨⟨_, rfl⟩, fun b o e => ?_, upd_same, ds ++ [d], by rw [List.map_append]; rfl, by rw [List.length_append, List.length_singleton]; omega⟩⟩
          rw [upd_ne (ne_of_none e hD)]; exact s3 _ _ e
        · rintro ys σ' H3 ⟨_, s3, hDy, ds, rfl, hds⟩
          refine ⟨D, ds, rfl, SqL.of hDy, _, _, rfl, rfl, ?_⟩
          have s13 := s2.trans s3
          refine ⟨_, rfl, _, rfl, _, _, rfl, rfl, _, rfl, ite2 (fun _ => ?_) (fun _ => nx H3 s13 _ _ _)⟩
          have hS3 := s13 _ _ hS1
          have hU3 := s13 _ _ hU1
          refine ⟨_, rfl, _, rfl, S, _, rfl, .inl (SqL.of hS3), _, rfl, _, _, rfl, rfl, _, rfl, S, _, rfl, SqL.of hS3, fun S2 hS2 => ?_⟩
          rw [ek, cut_take us _ hk]
          have s4 := same_upd (o := .lst (us.take k)) hS2
          refine ⟨_, rfl, .inl ⟨rfl, _, SqL.of upd_same⟩, _, rfl, _, rfl, _, _, rfl, rfl, ⟨by decide, by decide⟩, _, rfl, _, _, rfl, rfl, _, _, rfl, rfl, (by show (0 : Int) < (m : Int) + 1; omega), _, _, rfl, rfl, _, rfl, _, _, rfl, rfl, .inl ⟨by decide, by decide⟩, _, rfl, z5, fun p3 hp3 => ?_⟩
          have n3 : p3 ≠ S2 := fun e => by rw [e, upd_same] at hp3; exact nomatch hp3
          have s5 := same_upd (o := .tup [.str "p", .ref L, .int (z / 28 % ((m : Int) + 1) - 1), .int (4 * (i : Nat)), .int (1 + maxI ds 0)]) hp3
          have hS2H : H S2 = none := sH1.free (s13.free hS2)
          have nUS2 : U ≠ S2 := ne_of_none hU3 hS2
          have kp : ∀ b o, H3 b = some o → upd (upd (upd H3 S2 (.lst (us.take k))) p3 (.tup [.str "p", .ref L, .int (z / 28 % ((m : Int) + 1) - 1), .int (4 * (i : Nat)), .int (1 + maxI ds 0)])) S2 (.lst (us.take k ++ [.ref p3])) b = some o := fun b o e => by
            rw [upd_ne (ne_of_none e hS2)]; exact s5 _ _ (s4 _ _ e)
          refine ⟨S2, us.take k, .ref p3, rfl, rfl, s5 _ _ upd_same, by rw [List.length_take, sizeLine_eq]; omega, S2, us.take k ++ [.ref p3], qs.take k ++ [.p (qs.drop k) (z / 28 % ((m : Int) + 1) - 1) (4 * (i : Nat)) (1 + maxI ds 0)], kvs, _, _, _, _, _, rfl, fun b o e => kp _ _ (s13 _ _ (sH1 _ _ e)), hS2H, upd_same, kp _ _ hU3, by omega, ?_, ?_⟩
          · have tr : ∀ b o, NU H S U b → H1 b = some o → NU H S2 U b ∧ upd (upd (upd H3 S2 (.lst (us.take k))) p3 (.tup [.str "p", .ref L, .int (z / 28 % ((m : Int) + 1) - 1), .int (4 * (i : Nat)), .int (1 + maxI ds 0)])) S2 (.lst (us.take k ++ [.ref p3])) b = some o := fun b o nb e => ⟨⟨nb.1, ne_of_none (s13 _ _ e) hS2, nb.2.2⟩, kp _ _ (s13 _ _ e)⟩
            refine ((hal1.take k).mono fun _ _ r => r.mono tr).snoc ?_
            simp only [QIn]
            have hL3 := s3 _ _ hLL
            refine ⟨p3, L, us.drop k, rfl, ⟨?_, n3, ?_⟩, by rw [upd_ne n3]; exact upd_same, ⟨hLn, ne_of_none hL3 hS2, ?_⟩, kp _ _ hL3, QsIn.of ((hal1.drop k).mono fun _ _ r => r.mono tr)⟩
            · exact sH1.free (s13.free (s4.free hp3))
            · exact Ne.symm (ne_of_none (s4 _ _ hU3) hp3)
            · exact Ne.symm (ne_of_none hU1 hL)
          · rw [szs_append]
            simp only [szs, sz]
            have : szs qs = szs (qs.take k) + szs (qs.drop k) := by rw [← szs_append, List.take_append_drop]
            omega
    · rintro σ H' ⟨S, us, qs, kvs, v4, v5, v6, v7, v8, rfl, sH, hSn, hS, hU, hkl, hal, hsz⟩
      rw [List.length_map] at hsz
      exact ⟨_, rfl, q H' S us qs sH hSn hS (hal.mono fun _ _ r => r.mono fun b o nb e => ⟨⟨nb.1, nb.2.1⟩, e⟩) (by omega)⟩
end
end K32

set_option Elab.async false
set_option linter.all false
set_option maxRecDepth 100000
set_option maxHeartbeats 4000000
/-! k32: models of pieces. Own work. -/
namespace K32
open PySem L2 TR
def starT (a : Int) : Tr := .word "*" (a + 1) (a % 5).toNat
mutual
def modT : Pc → Tr
  | .v n a b => .word n a b
  | .f n a b => .row [.word "=" (a + 1) (b / 2), .word n (a + 2) b] a
  | .n z a => .fig z a
  | .p ps st a _ => .row (rowT st a 0 ps) a
def rowT (st a : Int) (k : Nat) : List Pc → List Tr
  | [] => []
  | q :: r => modT q :: ((if (k : Int) = st then [starT a] else []) ++ rowT st a (k + 1) r)
end
theorem rowT_append (st a : Int) : ∀ (k : Nat) (xs ys : List Pc), rowT st a k (xs ++ ys) = rowT st a k xs ++ rowT st a (k + xs.length) ys
  | k, [], ys => by simp only [rowT, List.nil_append, List.length_nil, Nat.add_zero]
  | k, q :: r, ys => by
    simp only [List.cons_append, rowT, List.length_cons, rowT_append st a (k + 1) r ys, List.append_assoc]
    rw [show k + 1 + r.length = k + (r.length + 1) by omega]
theorem rowT_len (st a : Int) : ∀ (k : Nat) (xs : List Pc), (rowT st a k xs).length ≤ 2 * xs.length
  | k, [] => by simp only [rowT, List.length_nil]; omega
  | k, q :: r => by
    have := rowT_len st a (k + 1) r
    simp only [rowT, List.length_cons, List.length_append]
    split
    · simp only [List.length_cons, List.length_nil]; omega
    · simp only [List.length_nil]; omega
theorem rowT_next (st a : Int) {qs : List Pc} {i : Nat} {q : Pc} (e : qs[i]? = some q) : rowT st a 0 (qs.take (i + 1)) = rowT st a 0 (qs.take i) ++ modT q :: (if (i : Int) = st then [starT a] else []) := by
  have hi := (List.getElem?_eq_some_iff.mp e).1
  rw [List.take_succ, e]
  show rowT st a 0 (qs.take i ++ [q]) = _
  rw [rowT_append, List.length_take, Nat.min_eq_left (by omega), Nat.zero_add]
  simp only [rowT, List.append_nil]
theorem e_fv : decide (V.str (Str.ofString "f") = V.str (Str.ofString "v")) = false := by decide +kernel
theorem e_nv : decide (V.str (Str.ofString "n") = V.str (Str.ofString "v")) = false := by decide +kernel
theorem e_pv : decide (V.str (Str.ofString "p") = V.str (Str.ofString "v")) = false := by decide +kernel
theorem e_nf : decide (V.str (Str.ofString "n") = V.str (Str.ofString "f")) = false := by decide +kernel
theorem e_pf : decide (V.str (Str.ofString "p") = V.str (Str.ofString "f")) = false := by decide +kernel
theorem e_np : decide (V.str (Str.ofString "n") = V.str (Str.ofString "p")) = false := by decide +kernel
theorem e_vp : decide (V.str (Str.ofString "v") = V.str (Str.ofString "p")) = false := by decide +kernel
theorem e_fp : decide (V.str (Str.ofString "f") = V.str (Str.ofString "p")) = false := by decide +kernel
theorem e_vf : decide (V.str (Str.ofString "v") = V.str (Str.ofString "f")) = false := by decide +kernel
def spModel (n : Nat) : Sp := fun vs H Q _ => ∃ (v : V) (q : Pc) (N : Addr → Prop), vs = [v] ∧ QIn N H q v ∧ sz q ≤ n ∧ sz q ≤ 100 ∧ ∀ (H' : Hp) (x : V), Same H H' → MdIn (fun b => N b ∨ H b = none) H' (modT q) x → Q x H'
def spRow (n : Nat) : Sp := fun vs H Q _ => ∃ (l : Addr) (us : List V) (qs : List Pc) (st a : Int) (N : Addr → Prop), vs = [.ref l, .int st, .int a] ∧ H l = some (.lst us) ∧ Al (QIn N H) qs us ∧ szs qs ≤ n ∧ szs qs ≤ 100 ∧
  ∀ (H' : Hp) (x : V), Same H H' → MdIn (fun b => N b ∨ H b = none) H' (.row (rowT st a 0 qs) a) x → Q x H'
section
variable {P : Program} {w : World} {K : PySem.W.Frag} {mg : Str → Option Value} {base : Heap} {c : C4} {nn : Addr}
theorem scModel : FnScope ["_law_piece"] ["_law_piece"] (defScope sModel) := ⟨rfl, rfl, rfl, by decide +kernel, rfl, by decide +kernel, by decide +kernel⟩
abbrev pRw : List Str := ["_law_inner", "_law_star", "_law_at"]
theorem model_step {n k : Nat} {f fR : Addr} {fd fdR : FuncData} {sp : Sp} (F : Fun K "_law_model" "_law_model" sModel f fd) (kR : PySem.W.keepIn K (.ref fR) = true) (bR : Binds K fdR pRw []) (mR : mg "_law_row" = some (.ref fR))
    (GR : FnOk P w K mg base CX0 k fR fdR pRw sp) (hsp : ∀ m, n = m + 1 → sp = spRow m) : FnOk P w K mg base CX0 (k + 1) f fd ["_law_piece"] (spModel n) := by
  refine F.ok scModel (fun vs H Q E h => ?_) (fun cdv A outer s H vs Q E hr h => ?_)
  · obtain ⟨v, q, N, rfl, _⟩ := h; rfl
  · obtain ⟨v, qq, N, rfl, hq, hn, h100, q⟩ := h
    have z4 : 4 ≤ sizeLine := by rw [sizeLine_eq]; decide
    have z3 : 3 ≤ sizeLine := by rw [sizeLine_eq]; decide
    have z2 : 2 ≤ sizeLine := by rw [sizeLine_eq]; decide
    refine ⟨_, pss_cons (ps_if (pt_cmpR op_eq (pe_ix ix_tup (pv 0) pe_int (fun _ _ => rfl)) pe_str (nomark _))
      (pss_one (ps_ret (pe_tup (pa_cons pe_str (pa_cons (pe_ix ix_tup (pv 0) pe_int (fun _ _ => rfl)) (pa_cons (pe_ix ix_tup (pv 0) pe_int (fun _ _ => rfl)) (pa_cons (pe_ix ix_tup (pv 0) pe_int (fun _ _ => rfl)) pa_nil)))))))
      pss_nil)
      (pss_cons (ps_if (pt_cmpR op_eq (pe_ix ix_tup (pv 0) pe_int (fun _ _ => rfl)) pe_str (nomark _))
      (pss_one (ps_ret (pe_tup (pa_cons pe_str (pa_cons (pe_lst (pa_cons (pe_tup (pa_cons pe_str (pa_cons pe_str (pa_cons (pe_op op_add (pe_ix ix_tup (pv 0) pe_int (fun _ _ => rfl)) pe_int) (pa_cons (pe_op op_fdiv (pe_ix ix_tup (pv 0) pe_int (fun _ _ => rfl)) pe_int) pa_nil))))) (pa_cons (pe_tup (pa_cons pe_str (pa_cons (pe_ix ix_tup (pv 0) pe_int (fun _ _ => rfl)) (pa_cons (pe_op op_add (pe_ix ix_tup (pv 0) pe_int (fun _ _ => rfl)) pe_int) (pa_cons (pe_ix ix_tup (pv 0) pe_int (fun _ _ => rfl)) pa_nil))))) pa_nil))) (pa_cons (pe_ix ix_tup (pv 0) pe_int (fun _ _ => rfl)) pa_nil))))))
      pss_nil)
      (pss_cons (ps_if (pt_cmpR op_eq (pe_ix ix_tup (pv 0) pe_int (fun _ _ => rfl)) pe_str (nomark _))
      (pss_one (ps_ret (pe_call GR hr (by rfl) mR kR bR .nil pass0 (pa_cons (pe_ix ix_tup (pv 0) pe_int (fun _ _ => rfl)) (pa_cons (pe_ix ix_tup (pv 0) pe_int (fun _ _ => rfl)) (pa_cons (pe_ix ix_tup (pv 0) pe_int (fun _ _ => rfl)) pa_nil))))))
      pss_nil)
      (pss_one (ps_ret (pv 0))))), ?_⟩
    cases qq with
    | v n a b =>
      simp only [QIn] at hq
      obtain ⟨p, rfl, np, h, _⟩ := hq
      refine ⟨_, rfl, p, _, _, _, rfl, rfl, SqT.of h, rfl, rfl, _, rfl, iteY (decide_eq_true rfl) ?_⟩
      refine ⟨_, rfl, p, _, _, _, rfl, rfl, SqT.of h, rfl, _, rfl, p, _, _, _, rfl, rfl, SqT.of h, rfl, _, rfl, p, _, _, _, rfl, rfl, SqT.of h, rfl, z4, fun p1 hp1 => ?_⟩
      refine q _ _ (same_upd hp1) ?_
      simp only [modT, MdIn]
      exact ⟨p1, rfl, .inr hp1, upd_same⟩
    | f n a b =>
      simp only [QIn] at hq
      obtain ⟨p, rfl, np, h, _⟩ := hq
      refine ⟨_, rfl, p, _, _, _, rfl, rfl, SqT.of h, rfl, rfl, _, rfl, iteN e_fv ?_⟩
      refine ⟨_, rfl, p, _, _, _, rfl, rfl, SqT.of h, rfl, rfl, _, rfl, iteY (decide_eq_true rfl) ?_⟩
      refine ⟨_, rfl, p, _, _, _, rfl, rfl, SqT.of h, rfl, _, _, rfl, rfl, _, rfl, p, _, _, _, rfl, rfl, SqT.of h, rfl, _, _, rfl, rfl, ⟨by decide, by decide⟩, z4, fun p1 hp1 => ?_⟩
      have s1 := same_upd (o := .tup [.str "w", .str "=", .int (a + 1), .int ((b : Int) / 2)]) hp1
      have h1 := s1 _ _ h
      refine ⟨_, rfl, p, _, _, _, rfl, rfl, SqT.of h1, rfl, _, rfl, p, _, _, _, rfl, rfl, SqT.of h1, rfl, _, _, rfl, rfl, _, rfl, p, _, _, _, rfl, rfl, SqT.of h1, rfl, z4, fun p2 hp2 => ?_⟩
      have s2 := same_upd (o := .tup [.str "w", .str n, .int (a + 2), .int (b : Int)]) hp2
      refine ⟨z2, fun l hl => ?_⟩
      have s3 := same_upd (o := .lst [.ref p1, .ref p2]) hl
      have h3 := s3 _ _ (s2 _ _ h1)
      refine ⟨_, rfl, p, _, _, _, rfl, rfl, SqT.of h3, rfl, z3, fun p3 hp3 => ?_⟩
      have s4 := same_upd (o := .tup [.str "r", .ref l, .int a]) hp3
      refine q _ _ (s1.trans (s2.trans (s3.trans s4))) ?_
      simp only [modT, MdIn]
      refine ⟨p3, l, [.ref p1, .ref p2], rfl, .inr ((s1.trans (s2.trans s3)).free hp3), upd_same, .inr ((s1.trans s2).free hl), s4 _ _ upd_same, (by show 2 ≤ 1000; decide), ?_⟩
      simp only [MdsIn]
      simp only [MdIn]
      exact ⟨.ref p1, [.ref p2], rfl, ⟨p1, rfl, .inr hp1, s4 _ _ (s3 _ _ (s2 _ _ upd_same))⟩, .ref p2, [], rfl, ⟨p2, rfl, .inr (s1.free hp2), s4 _ _ (s3 _ _ upd_same)⟩, rfl⟩
    | n z a =>
      simp only [QIn] at hq
      obtain ⟨p, rfl, np, h⟩ := hq
      refine ⟨_, rfl, p, _, _, _, rfl, rfl, SqT.of h, rfl, rfl, _, rfl, iteN e_nv ?_⟩
      refine ⟨_, rfl, p, _, _, _, rfl, rfl, SqT.of h, rfl, rfl, _, rfl, iteN e_nf ?_⟩
      refine ⟨_, rfl, p, _, _, _, rfl, rfl, SqT.of h, rfl, rfl, _, rfl, iteN e_np ?_⟩
      refine ⟨_, rfl, q _ _ (Same.refl _) ?_⟩
      simp only [modT, MdIn]
      exact ⟨p, rfl, .inl np, h⟩
    | p ps st a d =>
      simp only [QIn] at hq
      obtain ⟨p, l, us, rfl, np, h, nl, hl, hqs⟩ := hq
      simp only [sz] at hn h100
      refine ⟨_, rfl, p, _, _, _, rfl, rfl, SqT.of h, rfl, rfl, _, rfl, iteN e_pv ?_⟩
      refine ⟨_, rfl, p, _, _, _, rfl, rfl, SqT.of h, rfl, rfl, _, rfl, iteN e_pf ?_⟩
      refine ⟨_, rfl, p, _, _, _, rfl, rfl, SqT.of h, rfl, rfl, _, rfl, iteY (decide_eq_true rfl) ?_⟩
      obtain ⟨m, rfl⟩ : ∃ m, n = m + 1 := ⟨n - 1, by omega⟩
      have hs := hsp m rfl
      subst hs
      refine ⟨_, rfl, p, _, _, _, rfl, rfl, SqT.of h, rfl, _, rfl, p, _, _, _, rfl, rfl, SqT.of h, rfl, _, rfl, p, _, _, _, rfl, rfl, SqT.of h, rfl, l, us, ps, st, a, N, rfl, hl, hqs.al, by omega, by omega, fun H' x s' hx => q H' x s' ?_⟩
      simp only [modT]
      exact hx
abbrev NRw : List Str := ["_law_inner", "_law_star", "_law_at", "_law_parts", "_law_k", "_law_piece"]
theorem scRow : FnScope NRw pRw (defScope sRow) := ⟨rfl, rfl, rfl, by decide +kernel, rfl, by decide +kernel, by decide +kernel⟩
def RwI (H : Hp) (l : Addr) (st a : Int) (D : Addr) (N : Addr → Prop) (qs : List Pc) (i : Nat) (σ : St) (H' : Hp) : Prop := ∃ (v4 v5 : Option V) (ws : List V), σ = [some (.ref l), some (.int st), some (.int a), some (.ref D), v4, v5] ∧ (∀ b o, b ≠ D → H b = some o → H' b = some o) ∧ H' D = some (.lst ws) ∧ MdsIn (fun b => b ≠ D ∧ (N b ∨ H b = none)) H' (rowT st a 0 (qs.take i)) ws
theorem ok_row {n k : Nat} {f fM : Addr} {fd fdM : FuncData} (F : Fun K "_law_row" "_law_row" sRow f fd) (X : Txt K mg nn) (kM : PySem.W.keepIn K (.ref fM) = true) (bM : Binds K fdM ["_law_piece"] []) (mM : mg "_law_model" = some (.ref fM))
    (GM : FnOk P w K mg base CX0 k fM fdM ["_law_piece"] (spModel n)) : FnOk P w K mg base CX0 (k + 1) f fd pRw (spRow n) := by
  refine F.ok scRow (fun vs H Q E h => ?_) (fun cdv A outer s H vs Q E hr h => ?_)
  · obtain ⟨l, us, qs, st, a, N, rfl, _⟩ := h; rfl
  · obtain ⟨l, us, qs, st, a, N, rfl, hl, hal, hn, h100, q⟩ := h
    have nd := scRow.nd
    have z4 : 4 ≤ sizeLine := by rw [sizeLine_eq]; decide
    have z3 : 3 ≤ sizeLine := by rw [sizeLine_eq]; decide
    refine ⟨_, pss_cons (ps_set (i := 3) nd rfl (Or.inl rfl) (pe_lst pa_nil))
      (pss_cons (ps_for PassesOwn.never rfl (pi_enum (by rfl) X.enum (pa_cons (pv 0) pa_nil)) (pg_tup rfl (pgs_cons (pg_name (i := 4) nd rfl (Or.inl rfl)) (pgs_cons (pg_name (i := 5) nd rfl (Or.inl rfl)) pgs_nil)))
      (pss_cons (ps_expr (pe_bm PySem.F.plainAttrs_list PySem.F.slot_list_append PySem.F.type_list_append mt_append (pv 3) (pa_cons (pe_call GM hr (by rfl) mM kM bM .nil pass0 (pa_cons (pv 5) pa_nil)) pa_nil)))
        (pss_one (ps_if (pt_cmpR op_eq (pv 4) (pv 1) (nomark _))
        (pss_one (ps_expr (pe_bm PySem.F.plainAttrs_list PySem.F.slot_list_append PySem.F.type_list_append mt_append (pv 3) (pa_cons (pe_tup (pa_cons pe_str (pa_cons pe_str (pa_cons (pe_op op_add (pv 2) pe_int) (pa_cons (pe_op op_mod (pv 2) pe_int) pa_nil))))) pa_nil))))
        pss_nil))))
      (pss_one (ps_ret (pe_tup (pa_cons pe_str (pa_cons (pv 3) (pa_cons (pv 2) pa_nil))))))), ?_⟩
    refine ⟨Nat.zero_le _, fun D hD => ?_⟩
    have s0 := same_upd (o := .lst []) hD
    have nlD : l ≠ D := ne_of_none hl hD
    have hul := hal.1
    have hql := len_szs qs
    refine ⟨_, rfl, l, rfl, ⟨_, SqL.of (s0 _ _ hl)⟩, for_enum (xs := us) (RwI H l st a D N qs) ⟨none, none, [], rfl, fun b o nb e => s0 _ _ e, upd_same, by simp only [List.take_zero, rowT, MdsIn]⟩ (fun i σ H' _ hP => by obtain ⟨_, _, _, _, k, _⟩ := hP; exact SqL.of (k _ _ nlD hl)) ?_ ?_⟩
    · rintro i x p σ H' hi ⟨v4, v5, ws, rfl, kp, hDw, hw⟩ hp
      obtain ⟨qq, eqq, hqq⟩ := hal.at hi
      have hwl := hw.length
      have hrl := rowT_len st a 0 (qs.take i)
      have htl : (qs.take i).length ≤ qs.length := by rw [List.length_take]; omega
      have s1 := same_upd (o := .tup [.int (i : Nat), x]) hp
      refine ⟨p, _, rfl, SqT.of upd_same, rfl, _, _, rfl, _, _, rfl, rfl, ?_⟩
      have hD1 := s1 _ _ hDw
      have kp1 : ∀ b o, b ≠ D → H b = some o → _ := fun b o nb e => s1 _ _ (kp b o nb e)
      have hw1 := hw.mono (N' := fun b => b ≠ D ∧ (N b ∨ H b = none)) fun b o nb e => ⟨nb, s1 _ _ e⟩
      generalize upd H' p (.tup [.int (i : Nat), x]) = H1 at s1 hD1 kp1 hw1 ⊢
      have hszq := szs_mem (List.mem_of_getElem? eqq)
      have hfr : ∀ b, b ≠ D → H1 b = none → H b = none := fun b nb z => by
        cases e : H b with
        | none => rfl
        | some o => have := kp1 b o nb e; rw [z] at this; exact nomatch this
      refine ⟨_, rfl, .inl ⟨rfl, _, SqL.of hD1⟩, _, rfl, x, qq, (fun b => b ≠ D ∧ N b), rfl, hqq.mono (fun b o nb e => ⟨⟨ne_of_none e hD, nb⟩, kp1 _ _ (ne_of_none e hD) e⟩), by omega, by omega, fun H2 y s2 hy => ?_⟩
      have hD2 := s2 _ _ hD1
      have hyD : ∀ b, ((b ≠ D ∧ N b) ∨ H1 b = none) → b ≠ D ∧ (N b ∨ H b = none) := fun b hb => by
        rcases hb with z | z
        · exact ⟨z.1, .inl z.2⟩
        · have nb : b ≠ D := fun e => by rw [e, hD1] at z; exact nomatch z
          exact ⟨nb, .inr (hfr b nb z)⟩
      refine ⟨D, ws, y, rfl, rfl, hD2, by rw [hwl, sizeLine_eq]; omega, ?_⟩
      have kp3 : ∀ b o, b ≠ D → H2 b = some o → upd H2 D (.lst (ws ++ [y])) b = some o := fun b o nb e => by rw [upd_ne nb]; exact e
      have hw3 : MdsIn (fun b => b ≠ D ∧ (N b ∨ H b = none)) (upd H2 D (.lst (ws ++ [y]))) (rowT st a 0 (qs.take i) ++ [modT qq]) (ws ++ [y]) :=
        MdsIn.snoc (hy.mono fun b o nb e => ⟨hyD b nb, kp3 _ _ (hyD b nb).1 e⟩) (hw1.mono fun b o nb e => ⟨nb, kp3 _ _ nb.1 (s2 _ _ e)⟩)
      have hD3 : upd H2 D (.lst (ws ++ [y])) D = some (.lst (ws ++ [y])) := upd_same
      have kp4 : ∀ b o, b ≠ D → H b = some o → upd H2 D (.lst (ws ++ [y])) b = some o := fun b o nb e => kp3 _ _ nb (s2 _ _ (kp1 _ _ nb e))
      have hnx := rowT_next st a eqq
      generalize upd H2 D (.lst (ws ++ [y])) = H3 at hw3 hD3 kp4 ⊢
      refine ⟨_, rfl, _, rfl, rfl, _, rfl, ite2 (fun hb => ?_) (fun hb => ?_)⟩
      · have hst : (i : Int) = st := by have := of_decide_eq_true hb; injection this
        rw [if_pos hst] at hnx
        refine ⟨_, rfl, .inl ⟨rfl, _, SqL.of hD3⟩, _, rfl, _, _, rfl, rfl, _, rfl, _, _, rfl, rfl, (by show (0 : Int) < _; decide), z4, fun p4 hp4 => ?_⟩
        have n4 : p4 ≠ D := fun e => by rw [e, hD3] at hp4; exact nomatch hp4
        have s4 := same_upd (o := .tup [.str "w", .str "*", .int (a + 1), .int (a % 5)]) hp4
        refine ⟨D, ws ++ [y], .ref p4, rfl, rfl, s4 _ _ hD3, by rw [List.length_append, List.length_singleton, hwl, sizeLine_eq]; omega, _, _, _, rfl, fun b o nb e => by rw [upd_ne nb]; exact s4 _ _ (kp4 _ _ nb e), upd_same, ?_⟩
        rw [hnx, show rowT st a 0 (qs.take i) ++ [modT qq, starT a] = (rowT st a 0 (qs.take i) ++ [modT qq]) ++ [starT a] by rw [List.append_assoc]; rfl]
        refine MdsIn.snoc ?_ (hw3.mono fun b o nb e => ⟨nb, by rw [upd_ne nb.1]; exact s4 _ _ e⟩)
        unfold starT
        simp only [MdIn]
        refine ⟨p4, rfl, ⟨n4, .inr ?_⟩, ?_⟩
        · cases e : H p4 with
          | none => rfl
          | some o => have := kp4 _ _ n4 e; rw [hp4] at this; exact nomatch this
        · rw [upd_ne n4, upd_same, Int.toNat_of_nonneg (Int.emod_nonneg a (by decide))]
      · have hst : ¬ (i : Int) = st := fun e => hb (decide_eq_true (by rw [e]))
        rw [if_neg hst] at hnx
        refine ⟨_, _, _, rfl, kp4, hD3, ?_⟩
        rw [hnx]; exact hw3
    · rintro σ H' ⟨v4, v5, ws, rfl, kp, hDw, hw⟩
      rw [hul, List.take_length] at hw
      refine ⟨_, rfl, _, rfl, z3, fun p hp => ?_⟩
      have s1 := same_upd (o := .tup [.str "r", .ref D, .int a]) hp
      have hpn : H p = none := by
        have np : p ≠ D := fun e => by rw [e, hDw] at hp; exact nomatch hp
        cases e : H p with
        | none => rfl
        | some o => have := kp _ _ np e; rw [hp] at this; exact nomatch this
      refine q _ _ (fun b o e => s1 _ _ (kp _ _ (ne_of_none e hD) e)) ?_
      simp only [MdIn]
      have hrl := rowT_len st a 0 qs
      exact ⟨p, D, ws, rfl, .inr hpn, upd_same, .inr hD, s1 _ _ hDw, by omega, hw.mono fun b o nb e => ⟨nb.2, s1 _ _ e⟩⟩
theorem ok_model {fM fR : Addr} {fdM fdR : FuncData} (FM : Fun K "_law_model" "_law_model" sModel fM fdM) (FR : Fun K "_law_row" "_law_row" sRow fR fdR) (X : Txt K mg nn) (bM : Binds K fdM ["_law_piece"] []) (bR : Binds K fdR pRw []) (mM : mg "_law_model" = some (.ref fM)) (mR : mg "_law_row" = some (.ref fR)) :
    ∀ n, FnOk P w K mg base CX0 (2 * n + 1) fM fdM ["_law_piece"] (spModel n)
  | 0 => model_step (sp := spNo) FM FR.kp bR mR fn_no fun m h => by omega
  | n + 1 => model_step (k := 2 * n + 2) (sp := spRow n) FM FR.kp bR mR (ok_row FR X FM.kp bM mM (ok_model FM FR X bM bR mM mR n)) fun m h => by
    obtain rfl : m = n := by omega
    rfl
end
end K32

set_option Elab.async false
set_option linter.all false
set_option maxRecDepth 100000
set_option maxHeartbeats 4000000
/-! k32: the depths that are due, and the dicts held against each other. Own work. -/
namespace K32
open PySem L2 TR
mutual
/-- the words of a piece, with their depths -/
def dpT (d : Int) : Pc → List (Tr × Int)
  | .v n a b => [(.word n a b, d)]
  | .f _ _ _ => []
  | .n _ _ => []
  | .p ps st _ _ => dpTs d st 0 ps
def dpTs (d st : Int) (k : Nat) : List Pc → List (Tr × Int)
  | [] => []
  | q :: r => dpT (d + if (k : Int) = st then 1 else 0) q ++ dpTs d st (k + 1) r
end
theorem dpTs_append (d st : Int) : ∀ (k : Nat) (xs ys : List Pc), dpTs d st k (xs ++ ys) = dpTs d st k xs ++ dpTs d st (k + xs.length) ys
  | k, [], ys => by simp only [dpTs, List.nil_append, List.length_nil, Nat.add_zero]
  | k, q :: r, ys => by
    simp only [List.cons_append, dpTs, List.length_cons, dpTs_append d st (k + 1) r ys, List.append_assoc]
    rw [show k + 1 + r.length = k + (r.length + 1) by omega]
theorem dpTs_next (d st : Int) {qs : List Pc} {i : Nat} {q : Pc} (e : qs[i]? = some q) : dpTs d st 0 (qs.take (i + 1)) = dpTs d st 0 (qs.take i) ++ dpT (d + if (i : Int) = st then 1 else 0) q := by
  have hi := (List.getElem?_eq_some_iff.mp e).1
  rw [List.take_succ, e]
  show dpTs d st 0 (qs.take i ++ [q]) = _
  rw [dpTs_append, List.length_take, Nat.min_eq_left (by omega), Nat.zero_add]
  simp only [dpTs, List.append_nil]
mutual
theorem dpT_len : ∀ (d : Int) (q : Pc), (dpT d q).length ≤ sz q
  | d, .v _ _ _ => by simp only [dpT, sz, List.length_singleton]; exact Nat.le_refl _
  | d, .f _ _ _ => by simp only [dpT, List.length_nil]; exact Nat.zero_le _
  | d, .n _ _ => by simp only [dpT, List.length_nil]; exact Nat.zero_le _
  | d, .p ps st _ _ => by simp only [dpT, sz]; have := dpTs_len d st 0 ps; omega
theorem dpTs_len : ∀ (d st : Int) (k : Nat) (qs : List Pc), (dpTs d st k qs).length ≤ szs qs
  | d, st, k, [] => by simp only [dpTs, List.length_nil]; exact Nat.zero_le _
  | d, st, k, q :: r => by
    simp only [dpTs, szs, List.length_append]
    have h1 := dpT_len (d + if (k : Int) = st then 1 else 0) q
    have h2 := dpTs_len d st (k + 1) r
    omega
end
theorem szs_take (qs : List Pc) (i : Nat) : szs (qs.take i) ≤ szs qs := by
  have : szs qs = szs (qs.take i) + szs (qs.drop i) := by rw [← szs_append, List.take_append_drop]
  omega
def putsT (kvs : List (List Key × V)) (ws : List (Tr × Int)) : List (List Key × V) := (prsOf ws).foldl (fun a p => putK a p.1 p.2) kvs
theorem putsT_append (kvs : List (List Key × V)) (a b : List (Tr × Int)) : putsT kvs (a ++ b) = putsT (putsT kvs a) b := by
  unfold putsT prsOf
  rw [List.map_append, List.foldl_append]
theorem putsT_len : ∀ (kvs : List (List Key × V)) (ws : List (Tr × Int)), (putsT kvs ws).length ≤ kvs.length + ws.length
  | kvs, [] => Nat.le_refl _
  | kvs, q :: r => by
    have h1 := putsT_len (putK kvs (kyT q.1) (.int q.2)) r
    have h2 := length_putK kvs (kyT q.1) (.int q.2)
    rw [List.length_cons]
    show (putsT (putK kvs (kyT q.1) (.int q.2)) r).length ≤ _
    omega
def AllInt (kvs : List (List Key × V)) : Prop := ∀ kv ∈ kvs, ∃ z : Int, kv.2 = .int z
theorem AllInt.put {kvs : List (List Key × V)} (h : AllInt kvs) (k : List Key) (z : Int) : AllInt (putK kvs k (.int z)) := fun kv hk => by
  have : kv ∈ kvs ∨ kv.2 = .int z := by
    unfold putK at hk
    split at hk
    · obtain ⟨q, hq, e⟩ := List.mem_map.mp hk
      split at e
      · exact .inr (by rw [← e])
      · exact .inl (by rw [← e]; exact hq)
    · rcases List.mem_append.mp hk with hk | hk
      · exact .inl hk
      · rw [List.mem_singleton] at hk; exact .inr (by rw [hk])
  rcases this with g | g
  · exact h kv g
  · exact ⟨z, g⟩
theorem AllInt.puts : ∀ {ws : List (Tr × Int)} {kvs : List (List Key × V)}, AllInt kvs → AllInt (putsT kvs ws)
  | [], kvs, h => h
  | q :: r, kvs, h => AllInt.puts (ws := r) (h.put (kyT q.1) q.2)
/-- what isinstance says of plain things -/
structure Kis (K : PySem.W.Frag) : Prop where
  dd : PySem.W.kitOne K (.type "dict") (.type "dict") = some true
  tt : PySem.W.kitOne K (.type "tuple") (.type "tuple") = some true
  ii : PySem.W.kitOne K (.type "int") (.type "int") = some true
  ib : PySem.W.kitOne K (.type "int") (.type "bool") = some false
def spDepths (n : Nat) : Sp := fun vs H Q _ => ∃ (l D : Addr) (us : List V) (qs : List Pc) (st d : Int) (kvs : List (List Key × V)) (N : Addr → Prop), vs = [.ref l, .int st, .int d, .ref D] ∧ H l = some (.lst us) ∧ Al (QIn N H) qs us ∧ (∀ b, N b → b ≠ D) ∧ szs qs ≤ n ∧ H D = some (.dT kvs) ∧ kvs.length + szs qs ≤ 1000 ∧
  ∀ H', (∀ b o, b ≠ D → H b = some o → H' b = some o) → H' D = some (.dT (putsT kvs (dpTs d st 0 qs))) → Q .non H'
def spTold : Sp := fun vs H Q _ => ∃ (a b : Addr) (kvs : List (List Key × V)), vs = [.ref a, .ref b] ∧ H a = some (.dT kvs) ∧ H b = some (.dT kvs) ∧ AllInt kvs ∧ ∀ H', Same H H' → Q (.bl true) H'
section
variable {P : Program} {w : World} {K : PySem.W.Frag} {mg : Str → Option Value} {base : Heap} {c : C4} {nn : Addr}
abbrev pDp : List Str := ["_law_inner", "_law_star", "_law_depth", "_law_found"]
abbrev NDp : List Str := ["_law_inner", "_law_star", "_law_depth", "_law_found", "_law_k", "_law_piece", "_law_here"]
theorem scDp : FnScope NDp pDp (defScope sDepths) := ⟨rfl, rfl, rfl, by decide +kernel, rfl, by decide +kernel, by decide +kernel⟩
def DpI (H : Hp) (l D : Addr) (st d : Int) (kvs : List (List Key × V)) (qs : List Pc) (i : Nat) (σ : St) (H' : Hp) : Prop := ∃ (v4 v5 v6 : Option V), σ = [some (.ref l), some (.int st), some (.int d), some (.ref D), v4, v5, v6] ∧ (∀ b o, b ≠ D → H b = some o → H' b = some o) ∧ H' D = some (.dT (putsT kvs (dpTs d st 0 (qs.take i))))
theorem depths_step {n k : Nat} {f : Addr} {fd : FuncData} {sp : Sp} (F : Fun K "_law_depths" "_law_depths" sDepths f fd) (X : Txt K mg nn) (bD : Binds K fd pDp []) (mD : mg "_law_depths" = some (.ref f))
    (GD : FnOk P w K mg base CX0 k f fd pDp sp) (hsp : ∀ m, n = m + 1 → sp = spDepths m) : FnOk P w K mg base CX0 (k + 1) f fd pDp (spDepths n) := by
  refine F.ok scDp (fun vs H Q E h => ?_) (fun cdv A outer s H vs Q E hr h => ?_)
  · obtain ⟨l, D, us, qs, st, d, kvs, N, rfl, _⟩ := h; rfl
  · obtain ⟨l, D, us, qs, st, d, kvs, N, rfl, hl, hal, hN, hn, hD, hkl, q⟩ := h
    have nd := scDp.nd
    have hu := hu_of hr
    have z2 : 2 ≤ sizeLine := by rw [sizeLine_eq]; decide
    refine ⟨_, pss_one (ps_for PassesOwn.never rfl (pi_enum (by rfl) X.enum (pa_cons (pv 0) pa_nil)) (pg_tup rfl (pgs_cons (pg_name (i := 4) nd rfl (Or.inl rfl)) (pgs_cons (pg_name (i := 5) nd rfl (Or.inl rfl)) pgs_nil)))
      (pss_cons (ps_set (i := 6) nd rfl (Or.inl rfl) (pe_op op_add (pv 2) (pe_callTy call_int1 (by rfl) X.int bt_int (pa_cons (pe_cmpR op_eq (pv 4) (pv 1) (nomark _)) pa_nil))))
        (pss_cons (ps_if (pt_cmpR op_eq (pe_ix ix_tup (pv 5) pe_int (fun _ _ => rfl)) pe_str (nomark _))
        (pss_one (ps_dput hu (pv 3) (pe_tup (pa_cons (pe_ix ix_tup (pv 5) pe_int (fun _ _ => rfl)) (pa_cons (pe_ix ix_tup (pv 5) pe_int (fun _ _ => rfl)) pa_nil))) (pv 6) rfl))
        pss_nil)
        (pss_one (ps_if (pt_cmpR op_eq (pe_ix ix_tup (pv 5) pe_int (fun _ _ => rfl)) pe_str (nomark _))
        (pss_one (ps_expr (pe_call GD hr (by rfl) mD F.kp bD .nil pass0 (pa_cons (pe_ix ix_tup (pv 5) pe_int (fun _ _ => rfl)) (pa_cons (pe_ix ix_tup (pv 5) pe_int (fun _ _ => rfl)) (pa_cons (pv 6) (pa_cons (pv 3) pa_nil)))))))
        pss_nil))))), ?_⟩
    have nlD : l ≠ D := fun e => by rw [e, hD] at hl; exact nomatch hl
    have hul := hal.1
    refine ⟨_, rfl, l, rfl, ⟨_, SqL.of hl⟩, for_enum (xs := us) (DpI H l D st d kvs qs) ⟨none, none, none, rfl, fun b o _ e => e, by simp only [List.take_zero, dpTs]; exact hD⟩ (fun i σ H' _ hP => by obtain ⟨_, _, _, _, k, _⟩ := hP; exact SqL.of (k _ _ nlD hl)) ?_ ?_⟩
    · rintro i x p σ H' hi ⟨v4, v5, v6, rfl, kp, hDw⟩ hp
      obtain ⟨qq, eqq, hqq⟩ := hal.at hi
      have s1 := same_upd (o := .tup [.int (i : Nat), x]) hp
      refine ⟨p, _, rfl, SqT.of upd_same, rfl, _, _, rfl, _, _, rfl, rfl, ?_⟩
      have hD1 := s1 _ _ hDw
      have kp1 : ∀ b o, b ≠ D → H b = some o → _ := fun b o nb e => s1 _ _ (kp b o nb e)
      have hq1 : QIn N _ qq x := hqq.mono fun b o nb e => ⟨nb, kp1 b o (hN b nb) e⟩
      generalize upd H' p (.tup [.int (i : Nat), x]) = H1 at s1 hD1 kp1 hq1 ⊢
      have hszq := szs_mem (List.mem_of_getElem? eqq)
      have hnx := dpTs_next d st eqq
      have hln := dpTs_len d st 0 (qs.take i)
      have htk := szs_take qs i
      have hpl := putsT_len kvs (dpTs d st 0 (qs.take i))
      have htk1 : szs (qs.take i) + sz qq ≤ szs qs := by
        have h1 := szs_take qs (i + 1)
        rw [List.take_succ, eqq, szs_append] at h1
        simp only [Option.toList, szs] at h1
        omega
      have hfl : (if decide (V.int ((i : Nat) : Int) = V.int st) = true then (1 : Int) else 0) = if ((i : Nat) : Int) = st then 1 else 0 := by
        by_cases e : ((i : Nat) : Int) = st
        · rw [if_pos e, if_pos (decide_eq_true (by rw [e]))]
        · rw [if_neg e, if_neg (fun z => e (by have := of_decide_eq_true z; injection this))]
      refine ⟨_, rfl, _, rfl, _, rfl, rfl, .inr ⟨_, rfl, _, _, rfl, rfl, ?_⟩⟩
      dsimp only
      rw [hfl]
      generalize (d + if ((i : Nat) : Int) = st then 1 else 0) = e at hnx ⊢
      cases qq with
      | v n a b =>
        simp only [QIn] at hq1
        obtain ⟨pp, rfl, npp, hpp, _⟩ := hq1
        simp only [dpT] at hnx
        refine ⟨_, rfl, pp, _, _, _, rfl, rfl, SqT.of hpp, rfl, rfl, _, rfl, iteY (decide_eq_true rfl) ?_⟩
        refine ⟨_, rfl, _, rfl, _, rfl, pp, _, _, _, rfl, rfl, SqT.of hpp, rfl, _, rfl, pp, _, _, _, rfl, rfl, SqT.of hpp, rfl, z2, fun p2 hp2 => ?_⟩
        have s2 := same_upd (o := .tup [.str n, .int (b : Int)]) hp2
        have hpp2 : ∀ o, upd (upd H1 p2 (.tup [.str n, .int (b : Int)])) D o pp = some (.tup [.str "v", .str n, .int a, .int (b : Int)]) := fun o => by rw [upd_ne (hN pp npp)]; exact s2 _ _ hpp
        refine ⟨D, _, rfl, DPut.t (k := ([.inr n, .inl (some (b : Int))] : List Key)) (s2 _ _ hD1) upd_same (by rw [sizeLine_eq]; omega), ?_⟩
        refine ⟨_, rfl, pp, _, _, _, rfl, rfl, SqT.of (hpp2 _), rfl, rfl, _, rfl, iteN e_vp ?_⟩
        refine ⟨_, _, _, rfl, fun b o nb e => by rw [upd_ne nb]; exact s2 _ _ (kp1 _ _ nb e), ?_⟩
        rw [upd_same, hnx, putsT_append]
        rfl
      | f n a b =>
        simp only [QIn] at hq1
        obtain ⟨pp, rfl, npp, hpp, _⟩ := hq1
        simp only [dpT, List.append_nil] at hnx
        refine ⟨_, rfl, pp, _, _, _, rfl, rfl, SqT.of hpp, rfl, rfl, _, rfl, iteN e_fv ?_⟩
        refine ⟨_, rfl, pp, _, _, _, rfl, rfl, SqT.of hpp, rfl, rfl, _, rfl, iteN e_fp ?_⟩
        exact ⟨_, _, _, rfl, kp1, by rw [hnx]; exact hD1⟩
      | n z a =>
        simp only [QIn] at hq1
        obtain ⟨pp, rfl, npp, hpp⟩ := hq1
        simp only [dpT, List.append_nil] at hnx
        refine ⟨_, rfl, pp, _, _, _, rfl, rfl, SqT.of hpp, rfl, rfl, _, rfl, iteN e_nv ?_⟩
        refine ⟨_, rfl, pp, _, _, _, rfl, rfl, SqT.of hpp, rfl, rfl, _, rfl, iteN e_np ?_⟩
        exact ⟨_, _, _, rfl, kp1, by rw [hnx]; exact hD1⟩
      | p ps st2 a dd =>
        simp only [QIn] at hq1
        obtain ⟨pp, l2, us2, rfl, npp, hpp, nl2, hl2, hqs2⟩ := hq1
        simp only [dpT] at hnx
        simp only [sz] at hszq htk1
        obtain ⟨m, rfl⟩ : ∃ m, n = m + 1 := ⟨n - 1, by omega⟩
        have hs := hsp m rfl
        subst hs
        refine ⟨_, rfl, pp, _, _, _, rfl, rfl, SqT.of hpp, rfl, rfl, _, rfl, iteN e_pv ?_⟩
        refine ⟨_, rfl, pp, _, _, _, rfl, rfl, SqT.of hpp, rfl, rfl, _, rfl, iteY (decide_eq_true rfl) ?_⟩
        refine ⟨_, rfl, pp, _, _, _, rfl, rfl, SqT.of hpp, rfl, _, rfl, pp, _, _, _, rfl, rfl, SqT.of hpp, rfl, _, rfl, _, rfl, l2, D, us2, ps, st2, e, _, N, rfl, hl2, hqs2.al, hN, by omega, hD1, by omega, fun H2 k2 hD2 => ?_⟩
        exact ⟨_, _, _, rfl, fun b o nb e => k2 _ _ nb (kp1 _ _ nb e), by rw [hD2, hnx, putsT_append]⟩
    · rintro σ H' ⟨v4, v5, v6, rfl, kp, hDw⟩
      rw [hul, List.take_length] at hDw
      exact q H' kp hDw
theorem ok_depths {f : Addr} {fd : FuncData} (F : Fun K "_law_depths" "_law_depths" sDepths f fd) (X : Txt K mg nn) (bD : Binds K fd pDp []) (mD : mg "_law_depths" = some (.ref f)) : ∀ n, FnOk P w K mg base CX0 (n + 1) f fd pDp (spDepths n)
  | 0 => depths_step (sp := spNo) F X bD mD fn_no fun m h => by omega
  | n + 1 => depths_step (sp := spDepths n) F X bD mD (ok_depths F X bD mD n) fun m h => by
    obtain rfl : m = n := by omega
    rfl
abbrev NTd : List Str := ["_law_found", "_law_due", "_law_key", "_law_depth"]
theorem scTd : FnScope NTd ["_law_found", "_law_due"] (defScope sTold) := ⟨rfl, rfl, rfl, by decide +kernel, rfl, by decide +kernel, by decide +kernel⟩
theorem ok_told {f : Addr} {fd : FuncData} (F : Fun K "_law_told" "_law_told" sTold f fd) (X : Txt K mg nn) (Ki : Kis K) : FnOk P w K mg base CX0 1 f fd ["_law_found", "_law_due"] spTold := by
  refine F.ok scTd (fun vs H Q E h => ?_) (fun cdv A outer s H vs Q E hr h => ?_)
  · obtain ⟨a, b, kvs, rfl, _⟩ := h; rfl
  · obtain ⟨a, b, kvs, rfl, ha, hb, hI, q⟩ := h
    have nd := scTd.nd
    have hu := hr.units
    refine ⟨_, pss_cons (ps_if (PW.pt (pw_or (pt_not (pt_val (pe_callB call_isI (by rfl) X.isi bt_isinstance (pa_cons (pv 0) (pa_cons (pe_bltn (v := .ty "dict") (by rfl) X.dict bt_dictT rfl) pa_nil))))) (pw_or1 (pt_cmpR (op_neDT hu) (pv 0) (pv 1) (nomark _)))))
      (pss_one (ps_ret pe_bl))
      pss_nil)
      (pss_cons (ps_items (g := gTup K 2 (gCons (gName 2) (gCons (gName 3) gNil))) PassesOwn.never rfl (pv 0) (pg_tup rfl (pgs_cons (pg_name (i := 2) nd rfl (Or.inl rfl)) (pgs_cons (pg_name (i := 3) nd rfl (Or.inl rfl)) pgs_nil)))
      (pss_one (ps_if (PW.pt (pw_or (pt_not (pt_val (pe_callB call_isI (by rfl) X.isi bt_isinstance (pa_cons (pv 2) (pa_cons (pe_bltn (v := .ty "tuple") (by rfl) X.tuple bt_tuple rfl) pa_nil))))) (pw_or (pt_not (pt_val (pe_callB call_isI (by rfl) X.isi bt_isinstance (pa_cons (pv 3) (pa_cons (pe_bltn (v := .ty "int") (by rfl) X.int bt_int rfl) pa_nil))))) (pw_or1 (pt_val (pe_callB call_isI (by rfl) X.isi bt_isinstance (pa_cons (pv 3) (pa_cons (pe_bltn (v := .ty "bool") (by rfl) X.bool bt_bool rfl) pa_nil))))))))
        (pss_one (ps_ret pe_bl))
        pss_nil)))
      (pss_one (ps_ret pe_bl))), ?_⟩
    refine ⟨_, rfl, _, .ty "dict", _, _, true, rfl, rfl, .dT ha, Ki.dd, _, rfl, iteF ?_⟩
    refine ⟨_, rfl, _, rfl, a, b, kvs, rfl, rfl, ha, hb, hI, _, rfl, iteF ?_⟩
    refine ⟨_, rfl, a, kvs, rfl, ha, fun i σ => ∃ v2 v3, σ = [some (.ref a), some (.ref b), v2, v3], ⟨_, _, rfl⟩, ?_, ?_⟩
    · rintro i k v bk p σ' H' hi ⟨v2, v3, rfl⟩ sH hp hbk
      obtain ⟨z, hz⟩ := hI _ (List.mem_of_getElem? hi)
      have hz' : v = .int z := hz
      subst hz'
      have s1 := same_upd (o := .tup [.ref bk, .int z]) hp
      refine ⟨p, _, rfl, SqT.of upd_same, rfl, _, _, rfl, _, _, rfl, rfl, ?_⟩
      refine ⟨_, rfl, _, .ty "tuple", _, _, true, rfl, rfl, .tup (s1 _ _ hbk), Ki.tt, _, rfl, iteF ?_⟩
      refine ⟨_, rfl, _, .ty "int", _, _, true, rfl, rfl, .int z, Ki.ii, _, rfl, iteF ?_⟩
      refine ⟨_, rfl, _, .ty "bool", _, _, false, rfl, rfl, .int z, Ki.ib, _, rfl, iteF ?_⟩
      exact ⟨⟨_, _, rfl⟩, sH.trans s1⟩
    · rintro σ' H' ⟨v2, v3, rfl⟩ sH
      exact q _ sH
end
end K32

set_option Elab.async false
set_option linter.all false
set_option maxRecDepth 100000
set_option maxHeartbeats 4000000
/-! k32: _law_fixed_told. Own work. -/
namespace K32
open PySem L2 TR
section
variable {N : Addr → Prop} {H : Hp}
theorem QIn.nostar {q : Pc} {u : V} (h : QIn N H q u) : starB (modT q) = false := by
  cases q with
  | v n a b =>
    simp only [QIn] at h
    obtain ⟨_, _, _, _, hn⟩ := h
    simp only [modT]
    exact decide_eq_false fun e => hn.star (by injection e)
  | f n a b => simp only [modT]; rfl
  | n z a => simp only [modT]; rfl
  | p ps s a d => simp only [modT]; rfl
theorem QIn.noeq {q : Pc} {u : V} (h : QIn N H q u) : sgnB "=" (modT q) = false := by
  cases q with
  | v n a b =>
    simp only [QIn] at h
    obtain ⟨_, _, _, _, hn⟩ := h
    simp only [modT]
    exact decide_eq_false fun e => hn.same (by injection e)
  | f n a b => simp only [modT]; rfl
  | n z a => simp only [modT]; rfl
  | p ps s a d => simp only [modT]; rfl
theorem fix_row {ts : List Tr} {a : Int} (h : ∀ x r, ts = x :: r → sgnB "=" x = false) : fixT (.row ts a) = none := by
  unfold fixT
  split
  · rename_i x y b e
    injection e with e1 e2
    rw [h x [y] e1]; rfl
  · rfl
theorem fix_p {qs : List Pc} {us : List V} {st a : Int} {k : Nat} (h : Al (QIn N H) qs us) : fixT (.row (rowT st a k qs) a) = none := by
  refine fix_row fun x r e => ?_
  cases qs with
  | nil => simp only [rowT] at e; cases e
  | cons q qr =>
    simp only [rowT] at e
    injection e with e1 _
    obtain ⟨u, _, hq⟩ := h.2 0 q rfl
    rw [← e1]; exact hq.noeq
theorem fix_f {n : Str} {a : Int} {b : Nat} (h : Nv n) : fixT (modT (.f n a b)) = some (.word n (a + 2) b) := by
  simp only [modT]
  show (if (sgnB "=" (.word "=" (a + 1) (b / 2)) && nameB (.word n (a + 2) b)) = true then some (Tr.word n (a + 2) b) else none) = _
  rw [nameB_nv h, show sgnB "=" (.word "=" (a + 1) (b / 2)) = true from (show decide (V.str "=" = V.str "=") = true from decide_eq_true rfl)]
  rfl
theorem row_filter {st a : Int} : ∀ {qs : List Pc} {k : Nat}, (∀ q ∈ qs, starB (modT q) = false) → (rowT st a k qs).filter (fun t => !starB t) = qs.map modT
  | [], k, h => by simp only [rowT]; rfl
  | q :: r, k, h => by
    have h1 := h q (List.mem_cons_self ..)
    have ih := row_filter (st := st) (a := a) (k := k + 1) (qs := r) fun x hx => h x (List.mem_cons_of_mem _ hx)
    have hs : starB (starT a) = true := (show decide (V.str "*" = V.str "*") = true from decide_eq_true rfl)
    rw [show rowT st a k (q :: r) = modT q :: ((if (k : Int) = st then [starT a] else []) ++ rowT st a (k + 1) r) by simp only [rowT]]
    rw [List.filter_cons_of_pos (by rw [h1]; rfl), List.filter_append, ih, List.map_cons]
    by_cases e : (k : Int) = st
    · rw [if_pos e, List.filter_cons_of_neg (by rw [hs]; decide)]; rfl
    · rw [if_neg e]; rfl
end
def rIsI (K : PySem.W.Frag) : List V → Hp → VK → Prop := fun xs H Q => ∃ (x c : V) (cv t : Value) (b : Bool), xs = [x, c] ∧ clsV c = some cv ∧ TyOf K H x t ∧ PySem.W.kitOne K t cv = some b ∧ Q (.bl b) H
def spFT (c : C4) (n : Nat) : Sp := fun vs H Q _ => ∃ (l : Addr) (us : List V) (qs : List Pc) (v : V) (st a : Int), vs = [.ref l, v] ∧ H l = some (.lst us) ∧ Al (QIn All H) qs us ∧ TrIn c All H (.row (rowT st a 0 qs) a) v ∧ szs qs ≤ n ∧ szs qs ≤ 100 ∧ ∀ H', Same H H' → Q (.bl true) H'
theorem TrsIn.al {c : C4} {N : Addr → Prop} {H : Hp} : ∀ {ts : List Tr} {us : List V}, TrsIn c N H ts us → Al (TrIn c N H) ts us
  | [], us, x => by simp only [TrsIn] at x; rw [x]; exact Al.nil
  | t :: r, us, x => by
    simp only [TrsIn] at x
    obtain ⟨u, ws, e, y, z⟩ := x
    rw [e]
    exact (Al.one y).append (TrsIn.al z)
theorem ne_t {x y : V} (h : decide (x = y) = false) : (!decide (x = y)) = true := by rw [h]; rfl
section
variable {P : Program} {w : World} {K : PySem.W.Frag} {mg : Str → Option Value} {base : Heap} {c : C4} {nn : Addr}
abbrev pFt : List Str := ["_law_inner", "_law_row_here"]
abbrev NFt : List Str := ["_law_inner", "_law_row_here", "_law_parts", "_law_piece", "_law_part", "_law_word"]
theorem scFt : FnScope NFt pFt (defScope sFixT) := ⟨rfl, rfl, rfl, by decide +kernel, rfl, by decide +kernel, by decide +kernel⟩
theorem lcFixedTold1 : LcS (defScope sFixT).names [(".0", .local), ("_law_part", .local), ("isinstance", .globalImplicit), ("Word", .globalImplicit)] ["_law_inner", "_law_row_here", "_law_parts", "_law_piece", "_law_part", "_law_word"] [false, false, false, false, false, false] := ⟨by decide +kernel, by decide +kernel, by decide +kernel, by decide +kernel, by decide +kernel, rfl⟩
theorem ndFixedTold1 : (["_law_inner", "_law_row_here", "_law_parts", "_law_piece", "_law_part", "_law_word"] : List Str).Nodup := by decide +kernel
theorem ft_step {n : Nat} {f fW fA : Addr} {fd fdW fdA : FuncData} {sp : Sp} (F : Fun K "_law_fixed_told" "_law_fixed_told" sFixT f fd) (T : Tcs K mg c) (X : Txt K mg nn)
    (kW : PySem.W.keepIn K (.ref fW) = true) (bW : Binds K fdW ["tree"] []) (mW : mg "fixed_word" = some (.ref fW)) (GW : FnOk P w K mg base CX0 2 fW fdW ["tree"] (spFixed c))
    (kA : PySem.W.keepIn K (.ref fA) = true) (bA : Binds K fdA ["_law_found", "_law_model_here"] []) (mA : mg "_law_alike" = some (.ref fA)) (GA : FnOk P w K mg base CX0 1 fA fdA ["_law_found", "_law_model_here"] (spAlike c 0))
    (bU : Binds K fd pFt []) (mU : mg "_law_fixed_told" = some (.ref f)) (GU : FnOk P w K mg base CX0 (n + 2) f fd pFt sp) (hsp : ∀ m, n = m + 1 → sp = spFT c m) : FnOk P w K mg base CX0 (n + 3) f fd pFt (spFT c n) := by
  refine F.ok scFt (fun vs H Q E h => ?_) (fun cdv A outer s H vs Q E hr h => ?_)
  · obtain ⟨l, us, qs, v, st, a, rfl, _⟩ := h; rfl
  · obtain ⟨l, us, qs, v, st, a, rfl, hl, hal, ht, hn, h100, q⟩ := h
    have nd := scFt.nd
    have hr1 : Room 1 _ := hr.mono (by omega)
    have hr2 : Room 2 _ := hr.mono (by omega)
    have z4 : 4 ≤ sizeLine := by rw [sizeLine_eq]; decide
    refine ⟨_, pss_cons (ps_lc (i := 2) (ext := []) nd rfl rfl lcFixedTold1 rfl (pi_list (pe_fld (pv 1) rfl : PE _ _ (tFld K (tVar 1) ("parts" : Str))))
          ⟨fun _ _ _ _ _ => (pg_name (i := 4) ndFixedTold1 rfl (Or.inl rfl) (.inr rfl)), fun _ _ _ _ _ => (pts_one (PW.pt (pw_or (pt_not (pt_val (pe_callB (call_isI : CallR _ _ (rIsI K)) (by rfl) X.isi bt_isinstance (pa_cons (pv 4) (pa_cons (pe_glob (v := .ref c.W) (by rfl) T.mgW rfl) pa_nil))))) (pw_or1 (pt_cmpR op_ne (pe_fld (pv 4) rfl : PE _ _ (tFld K (tVar 4) ("name" : Str))) pe_str (nomark _)))))), fun _ _ _ _ _ => (pv 4)⟩)
      (pss_cons (ps_for (g := gTup K 2 (gCons (gName 3) (gCons (gName 4) gNil))) PassesOwn.never rfl (pi_zip (by rfl) X.zip (pa_cons (pv 0) (pa_cons (pv 2) pa_nil))) (pg_tup rfl (pgs_cons (pg_name (i := 3) nd rfl (Or.inl rfl)) (pgs_cons (pg_name (i := 4) nd rfl (Or.inl rfl)) pgs_nil)))
      (pss_cons (ps_set (i := 5) nd rfl (Or.inl rfl) (pe_call GW hr2 (by rfl) mW kW bW .nil pass0 (pa_cons (pv 4) pa_nil)))
        (pss_cons (ps_if (PW.pt (pw_and (pt_cmpR op_ne (pe_ix ix_tup (pv 3) pe_int (fun _ _ => rfl)) pe_str (nomark _)) (pw_and1 (pt_cmpR op_notN (pv 5) pe_non (nomark _)))))
        (pss_one (ps_ret pe_bl))
        pss_nil)
        (pss_cons (ps_if (PW.pt (pw_and (pt_cmpR op_eq (pe_ix ix_tup (pv 3) pe_int (fun _ _ => rfl)) pe_str (nomark _)) (pw_and1 (pt_not (pt_val (pe_callB call_isI (by rfl) X.isi bt_isinstance (pa_cons (pv 5) (pa_cons (pe_glob (v := .ref c.W) (by rfl) T.mgW rfl) pa_nil))))))))
        (pss_one (ps_ret pe_bl))
        pss_nil)
        (pss_cons (ps_if (PW.pt (pw_and (pt_cmpR op_eq (pe_ix ix_tup (pv 3) pe_int (fun _ _ => rfl)) pe_str (nomark _)) (pw_and1 (pt_not (pt_val (pe_call GA hr1 (by rfl) mA kA bA .nil pass0 (pa_cons (pv 5) (pa_cons (pe_tup (pa_cons pe_str (pa_cons (pe_ix ix_tup (pv 3) pe_int (fun _ _ => rfl)) (pa_cons (pe_op op_add (pe_ix ix_tup (pv 3) pe_int (fun _ _ => rfl)) pe_int) (pa_cons (pe_ix ix_tup (pv 3) pe_int (fun _ _ => rfl)) pa_nil))))) pa_nil))))))))
        (pss_one (ps_ret pe_bl))
        pss_nil)
        (pss_one (ps_if (PW.pt (pw_and (pt_cmpR op_eq (pe_ix ix_tup (pv 3) pe_int (fun _ _ => rfl)) pe_str (nomark _)) (pw_and1 (pt_not (pt_val (pe_call GU hr (by rfl) mU F.kp bU .nil pass0 (pa_cons (pe_ix ix_tup (pv 3) pe_int (fun _ _ => rfl)) (pa_cons (pv 4) pa_nil))))))))
        (pss_one (ps_ret pe_bl))
        pss_nil)))))))
      (pss_one (ps_ret pe_bl))), ?_⟩
    have hrl := rowT_len st a 0 qs
    have hql := len_szs qs
    have hul := hal.1
    simp only [TrIn] at ht
    obtain ⟨x, dx, lx, ws, rfl, _, h, _, hlx, _, hts⟩ := ht
    have hts' := TrsIn.al hts
    have hwl := hts'.1
    refine ⟨_, rfl, x, c.R, dx, _, _, rfl, h, T.tr.cl, T.nRp, fR_parts, lx, rfl, ⟨_, SqL.of hlx⟩, fun D hD => ?_⟩
    refine lc_lst (K := K) (a := lx) (xs := ws) (fun j ys σ' H' => (∃ v, σ' = [none, none, none, none, v, none]) ∧ Same H H' ∧ H' D = some (.lst ys) ∧ ys.length ≤ j ∧ Al (TrIn c (fun b => b ≠ D) H') (((rowT st a 0 qs).take j).filter (fun t => !starB t)) ys)
      ⟨⟨_, rfl⟩, same_upd hD, upd_same, Nat.zero_le _, Al.nil⟩ (fun k ys σ' H' _ hP => SqL.of (hP.2.1 _ _ hlx)) ?_ ?_
    · rintro j y ys σ' H1 hy ⟨⟨v, rfl⟩, s1, hDy, hyl, hal1⟩
      have hj : j < ws.length := (List.getElem?_eq_some_iff.mp hy).1
      obtain ⟨t, et, htt⟩ := hts'.at hy
      have ht1 : TrIn c (fun b => b ≠ D) H1 t y := htt.mono fun b o _ e => ⟨ne_of_none e hD, s1 _ _ e⟩
      have fin : starB t = false → (H1 D = some (.lst ys) ∧ ys.length < sizeLine ∧ Beh ws.length j (fun j ys σ' H' => (∃ v, σ' = [none, none, none, none, v, none]) ∧ Same H H' ∧ H' D = some (.lst ys) ∧ ys.length ≤ j ∧ Al (TrIn c (fun b => b ≠ D) H') (((rowT st a 0 qs).take j).filter (fun t => !starB t)) ys) (ys ++ [y]) [none, none, none, none, some y, none] (upd H1 D (.lst (ys ++ [y])))) := fun hs => by
        refine ⟨hDy, by rw [sizeLine_eq]; omega, Beh.of hj ⟨⟨_, rfl⟩, fun b o e => ?_, upd_same, by rw [List.length_append, List.length_singleton]; omega, ?_⟩⟩
        · rw [upd_ne (ne_of_none e hD)]; exact s1 _ _ e
        · rw [List.take_succ, et, List.filter_append]
          have : (Option.toList (some t)).filter (fun t => !starB t) = [t] := by simp [hs]
          rw [this]
          exact (hal1.mono fun _ _ r => r.mono fun b o nb e => ⟨nb, by rw [upd_ne nb]; exact e⟩).snoc (ht1.mono fun b o nb e => ⟨nb, by rw [upd_ne nb]; exact e⟩)
      cases t with
      | fig z b => exact ⟨_, rfl, y, .ref c.W, _, _, false, rfl, rfl, tyF T (ht1.mono fun b o _ e => ⟨trivial, e⟩), T.iFW, _, rfl, iteT (iteT ⟨_, rfl, fin rfl⟩)⟩
      | row ps b => exact ⟨_, rfl, y, .ref c.W, _, _, false, rfl, rfl, tyR T (ht1.mono fun b o _ e => ⟨trivial, e⟩), T.iRW, _, rfl, iteT (iteT ⟨_, rfl, fin rfl⟩)⟩
      | word n b bb =>
        refine ⟨_, rfl, y, .ref c.W, _, _, true, rfl, rfl, tyW T (ht1.mono fun b o _ e => ⟨trivial, e⟩), T.iWW, _, rfl, iteF ?_⟩
        have ht2 := ht1
        simp only [TrIn] at ht2
        obtain ⟨xx, dxx, rfl, _, hxx⟩ := ht2
        refine ⟨_, rfl, xx, c.W, dxx, _, _, rfl, hxx, T.tw.cl, T.nWn, fW_name, rfl, _, rfl, ?_⟩
        cases hs : decide (V.str n = V.str "*") with
        | true =>
          refine iteF (Beh.of hj ⟨⟨_, rfl⟩, s1, hDy, by omega, ?_⟩)
          rw [List.take_succ, et, List.filter_append]
          have : (Option.toList (some (Tr.word n b bb))).filter (fun t => !starB t) = [] := by
            have : starB (.word n b bb) = true := hs
            simp [this]
          rw [this, List.append_nil]
          exact hal1
        | false => exact iteT ⟨_, rfl, fin hs⟩
    · rintro ys σ' H1 ⟨_, s1, hDy, hyl, hal1⟩
      rw [hwl, List.take_length, row_filter (fun q hq => by
        obtain ⟨i, hi⟩ := List.getElem?_of_mem hq
        obtain ⟨u, _, hqi⟩ := hal.2 i q hi
        exact hqi.nostar)] at hal1
      have hyl2 : ys.length = qs.length := by rw [hal1.1, List.length_map]
      refine ⟨_, rfl, _, rfl, l, D, rfl, ⟨_, SqL.of (s1 _ _ hl)⟩, ⟨_, SqL.of hDy⟩, for_zip (xs := us) (ys := ys) (by rw [hul, hyl2]) (fun i σ H' => (∃ v3 v4 v5, σ = [some (.ref l), some (.ref x), some (.ref D), v3, v4, v5]) ∧ Same H1 H')
        ⟨⟨_, _, _, rfl⟩, Same.refl _⟩ (fun i σ H' _ hP => ⟨SqL.of (hP.2 _ _ (s1 _ _ hl)), SqL.of (hP.2 _ _ hDy)⟩) ?_ ?_⟩
      · rintro i y z p σ H' hy hz ⟨⟨v3, v4, v5, rfl⟩, s2⟩ hp
        obtain ⟨qq, eqq, hqq⟩ := hal.at hy
        obtain ⟨t, et, htt⟩ := hal1.at hz
        rw [List.getElem?_map, eqq] at et
        have et' : modT qq = t := by injection et
        subst et'
        have s3 := same_upd (o := .tup [y, z]) hp
        refine ⟨p, _, rfl, SqT.of upd_same, rfl, _, _, rfl, _, _, rfl, rfl, ?_⟩
        have s23 := s2.trans s3
        have sA := s1.trans s23
        have hq3 : QIn All _ qq y := hqq.mono fun b o _ e => ⟨trivial, sA _ _ e⟩
        have ht3 : TrIn c All _ (modT qq) z := htt.mono fun b o _ e => ⟨trivial, s23 _ _ e⟩
        generalize upd H' p (.tup [y, z]) = H2 at s3 s23 sA hq3 ht3 ⊢
        have inv : ∀ H3, Same H2 H3 → ∀ v3 v4 v5, (∃ v3' v4' v5', ([some (.ref l), some (.ref x), some (.ref D), v3, v4, v5] : St) = [some (.ref l), some (.ref x), some (.ref D), v3', v4', v5']) ∧ Same H1 H3 := fun H3 s4 v3 v4 v5 => ⟨⟨_, _, _, rfl⟩, s23.trans s4⟩
        have hszq := szs_mem (List.mem_of_getElem? eqq)
        cases qq with
        | v n a b =>
          simp only [QIn] at hq3
          obtain ⟨pp, rfl, _, hpp, _⟩ := hq3
          have ef : fixT (modT (.v n a b)) = none := by simp only [modT]; rfl
          refine ⟨_, rfl, z, _, rfl, ht3, fun _ => ?_, fun y u e => by rw [ef] at e; cases e⟩
          refine ⟨_, rfl, pp, _, _, _, rfl, rfl, SqT.of hpp, rfl, rfl, _, rfl, iteY (ne_t e_vf) ⟨_, rfl, rfl, _, rfl, iteN (ne_self _) ?_⟩⟩
          refine ⟨_, rfl, pp, _, _, _, rfl, rfl, SqT.of hpp, rfl, rfl, _, rfl, iteN e_vf (iteF ?_)⟩
          refine ⟨_, rfl, pp, _, _, _, rfl, rfl, SqT.of hpp, rfl, rfl, _, rfl, iteN e_vf (iteF ?_)⟩
          exact ⟨_, rfl, pp, _, _, _, rfl, rfl, SqT.of hpp, rfl, rfl, _, rfl, iteN e_vp (iteF (inv _ (Same.refl _) _ _ _))⟩
        | n zz a =>
          simp only [QIn] at hq3
          obtain ⟨pp, rfl, _, hpp⟩ := hq3
          have ef : fixT (modT (.n zz a)) = none := by simp only [modT]; rfl
          refine ⟨_, rfl, z, _, rfl, ht3, fun _ => ?_, fun y u e => by rw [ef] at e; cases e⟩
          refine ⟨_, rfl, pp, _, _, _, rfl, rfl, SqT.of hpp, rfl, rfl, _, rfl, iteY (ne_t e_nf) ⟨_, rfl, rfl, _, rfl, iteN (ne_self _) ?_⟩⟩
          refine ⟨_, rfl, pp, _, _, _, rfl, rfl, SqT.of hpp, rfl, rfl, _, rfl, iteN e_nf (iteF ?_)⟩
          refine ⟨_, rfl, pp, _, _, _, rfl, rfl, SqT.of hpp, rfl, rfl, _, rfl, iteN e_nf (iteF ?_)⟩
          exact ⟨_, rfl, pp, _, _, _, rfl, rfl, SqT.of hpp, rfl, rfl, _, rfl, iteN e_np (iteF (inv _ (Same.refl _) _ _ _))⟩
        | f n a b =>
          simp only [QIn] at hq3
          obtain ⟨pp, rfl, _, hpp, hnv⟩ := hq3
          have ef := fix_f (a := a) (b := b) hnv
          refine ⟨_, rfl, z, _, rfl, ht3, (fun e => by rw [ef] at e; exact nomatch e), fun y u e hu => ?_⟩
          rw [ef] at e
          have e' : Tr.word n (a + 2) b = y := by injection e
          subst e'
          refine ⟨_, rfl, pp, _, _, _, rfl, rfl, SqT.of hpp, rfl, rfl, _, rfl, iteN (ne_self _) (iteF ?_)⟩
          refine ⟨_, rfl, pp, _, _, _, rfl, rfl, SqT.of hpp, rfl, rfl, _, rfl, iteY (decide_eq_true rfl) ⟨_, rfl, _, .ref c.W, _, _, true, rfl, rfl, tyW T hu, T.iWW, _, rfl, iteF ?_⟩⟩
          refine ⟨_, rfl, pp, _, _, _, rfl, rfl, SqT.of hpp, rfl, rfl, _, rfl, iteY (decide_eq_true rfl) ?_⟩
          refine ⟨_, rfl, _, rfl, pp, _, _, _, rfl, rfl, SqT.of hpp, rfl, _, rfl, pp, _, _, _, rfl, rfl, SqT.of hpp, rfl, _, _, rfl, rfl, _, rfl, pp, _, _, _, rfl, rfl, SqT.of hpp, rfl, z4, fun p1 hp1 => ?_⟩
          have s5 := same_upd (o := .tup [.str "w", .str n, .int (a + 2), .int (b : Int)]) hp1
          refine ⟨u, .ref p1, .word n (a + 2) b, rfl, hu.same s5, by simp only [MdIn]; exact ⟨p1, rfl, trivial, upd_same⟩, by simp only [deep]; exact Nat.le_refl _, fun H3 s6 => ⟨_, rfl, iteF ?_⟩⟩
          have s56 := s5.trans s6
          exact ⟨_, rfl, pp, _, _, _, rfl, rfl, SqT.of (s56 _ _ hpp), rfl, rfl, _, rfl, iteN e_fp (iteF (inv _ s56 _ _ _))⟩
        | p ps st2 a2 dd =>
          have ef : fixT (modT (.p ps st2 a2 dd)) = none := by
            simp only [QIn] at hqq
            obtain ⟨_, _, _, _, _, _, _, _, hqs⟩ := hqq
            simp only [modT]
            exact fix_p hqs.al
          simp only [QIn] at hq3
          obtain ⟨pp, l2, us2, rfl, _, hpp, _, hl2, hqs2⟩ := hq3
          simp only [modT] at ht3
          simp only [modT] at ef
          simp only [sz] at hszq
          obtain ⟨m, rfl⟩ : ∃ m, n = m + 1 := ⟨n - 1, by omega⟩
          have hs := hsp m rfl
          subst hs
          refine ⟨_, rfl, z, _, rfl, ht3, fun _ => ?_, fun y u e => by rw [ef] at e; cases e⟩
          refine ⟨_, rfl, pp, _, _, _, rfl, rfl, SqT.of hpp, rfl, rfl, _, rfl, iteY (ne_t e_pf) ⟨_, rfl, rfl, _, rfl, iteN (ne_self _) ?_⟩⟩
          refine ⟨_, rfl, pp, _, _, _, rfl, rfl, SqT.of hpp, rfl, rfl, _, rfl, iteN e_pf (iteF ?_)⟩
          refine ⟨_, rfl, pp, _, _, _, rfl, rfl, SqT.of hpp, rfl, rfl, _, rfl, iteN e_pf (iteF ?_)⟩
          refine ⟨_, rfl, pp, _, _, _, rfl, rfl, SqT.of hpp, rfl, rfl, _, rfl, iteY (decide_eq_true rfl) ?_⟩
          exact ⟨_, rfl, pp, _, _, _, rfl, rfl, SqT.of hpp, rfl, _, rfl, l2, us2, ps, z, st2, a2, rfl, hl2, hqs2.al, ht3, by omega, by omega, fun H3 s6 => ⟨_, rfl, iteF (inv _ s6 _ _ _)⟩⟩
      · rintro σ H' ⟨⟨v3, v4, v5, rfl⟩, s2⟩
        exact q _ (s1.trans s2)
theorem ok_ft {f fW fA : Addr} {fd fdW fdA : FuncData} (F : Fun K "_law_fixed_told" "_law_fixed_told" sFixT f fd) (T : Tcs K mg c) (X : Txt K mg nn)
    (kW : PySem.W.keepIn K (.ref fW) = true) (bW : Binds K fdW ["tree"] []) (mW : mg "fixed_word" = some (.ref fW)) (GW : FnOk P w K mg base CX0 2 fW fdW ["tree"] (spFixed c))
    (kA : PySem.W.keepIn K (.ref fA) = true) (bA : Binds K fdA ["_law_found", "_law_model_here"] []) (mA : mg "_law_alike" = some (.ref fA)) (GA : FnOk P w K mg base CX0 1 fA fdA ["_law_found", "_law_model_here"] (spAlike c 0))
    (bU : Binds K fd pFt []) (mU : mg "_law_fixed_told" = some (.ref f)) : ∀ n, FnOk P w K mg base CX0 (n + 3) f fd pFt (spFT c n)
  | 0 => ft_step (sp := spNo) F T X kW bW mW GW kA bA mA GA bU mU fn_no fun m h => by omega
  | n + 1 => ft_step (sp := spFT c n) F T X kW bW mW GW kA bA mA GA bU mU (ok_ft F T X kW bW mW GW kA bA mA GA bU mU n) fun m h => by
    obtain rfl : m = n := by omega
    rfl
end
end K32

set_option Elab.async false
set_option linter.all false
set_option maxRecDepth 100000
set_option maxHeartbeats 4000000
/-! k32: _law_odd. Own work. -/
namespace K32
open PySem L2 TR
/-- a model that is no fixed word -/
def Odd (H : Hp) (v : V) : Prop := ∃ t, MdIn All H t v ∧ fixT t = none ∧ deep t ≤ 2
theorem Odd.same {H H' : Hp} {v : V} (h : Odd H v) (s : Same H H') : Odd H' v := by
  obtain ⟨t, m, f, d⟩ := h
  exact ⟨t, m.same s, f, d⟩
def Odds (H : Hp) (xs : List V) : Prop := ∀ v ∈ xs, Odd H v
theorem Odds.same {H H' : Hp} {xs : List V} (h : Odds H xs) (s : Same H H') : Odds H' xs := fun v hv => (h v hv).same s
theorem Odds.cons {H : Hp} {v : V} {xs : List V} (h : Odd H v) (g : Odds H xs) : Odds H (v :: xs) := fun u hu => by
  rcases List.mem_cons.mp hu with e | e
  · rw [e]; exact h
  · exact g u e
theorem Odds.nil {H : Hp} : Odds H [] := fun u hu => nomatch hu
theorem Odds.app {H : Hp} {xs ys : List V} (h : Odds H xs) (g : Odds H ys) : Odds H (xs ++ ys) := fun u hu => by
  rcases List.mem_append.mp hu with e | e
  · exact h u e
  · exact g u e
theorem md_row {H : Hp} {ts : List Tr} {vs : List V} {a : Int} {l p : Addr} (h : MdsIn All H ts vs) (hn : ts.length ≤ 1000) (hl : H l = none) (hp : upd H l (.lst vs) p = none) : MdIn All (upd (upd H l (.lst vs)) p (.tup [.str "r", .ref l, .int a])) (.row ts a) (.ref p) := by
  simp only [MdIn]
  have s1 := same_upd (o := .lst vs) hl
  have s2 := same_upd (o := .tup [.str "r", .ref l, .int a]) hp
  exact ⟨p, l, vs, rfl, trivial, upd_same, trivial, s2 _ _ upd_same, hn, h.mono fun b o _ e => ⟨trivial, s2 _ _ (s1 _ _ e)⟩⟩
theorem md_word {H : Hp} {p : Addr} {n : Str} {a : Int} {b : Nat} : MdIn All (upd H p (.tup [.str "w", .str n, .int a, .int (b : Int)])) (.word n a b) (.ref p) := by
  simp only [MdIn]; exact ⟨p, rfl, trivial, upd_same⟩
theorem mds0 {H : Hp} : MdsIn All H [] [] := by simp only [MdsIn]
theorem mds_cons {H : Hp} {t : Tr} {v : V} {ts : List Tr} {vs : List V} (h : MdIn All H t v) (g : MdsIn All H ts vs) : MdsIn All H (t :: ts) (v :: vs) := by
  simp only [MdsIn]; exact ⟨v, vs, rfl, h, g⟩
theorem fix_two {x y : Tr} {a : Int} (h : (sgnB "=" x && nameB y) = false) : fixT (.row [x, y] a) = none := by
  show (if (sgnB "=" x && nameB y) = true then some y else none) = none
  rw [h]; rfl
theorem star_no {a : Int} {b : Nat} : nameB (.word "*" a b) = false := by
  show (!inV (.str "*") [.str "*", .str "="]) = false
  have : inV (.str "*") [.str "*", .str "="] = true := by simp [inV, eqV]
  rw [this]; rfl
def spOdd : Sp := fun vs H Q _ => ∃ z : Int, vs = [.int z] ∧ ∀ (H' : Hp) (v : V), Same H H' → Odd H' v → Q v H'
section
variable {P : Program} {w : World} {K : PySem.W.Frag} {mg : Str → Option Value} {base : Heap} {c : C4} {nn : Addr}
abbrev NOd : List Str := ["_law_cell", "_law_name_here", "_law_same", "_law_some"]
theorem scOd : FnScope NOd ["_law_cell"] (defScope sOdd) := ⟨rfl, rfl, rfl, by decide +kernel, rfl, by decide +kernel, by decide +kernel⟩
theorem ok_odd {f fN : Addr} {fd fdN : FuncData} (F : Fun K "_law_odd" "_law_odd" sOdd f fd) (kN : PySem.W.keepIn K (.ref fN) = true) (bN : Binds K fdN ["_law_cell"] []) (mN : mg "_law_name" = some (.ref fN)) (GN : FnOk P w K mg base CX0 1 fN fdN ["_law_cell"] spName) :
    FnOk P w K mg base CX0 2 f fd ["_law_cell"] spOdd := by
  refine F.ok scOd (fun vs H Q E h => ?_) (fun cdv A outer s H vs Q E hr h => ?_)
  · obtain ⟨z, rfl, _⟩ := h; rfl
  · obtain ⟨z, rfl, q⟩ := h
    have nd := scOd.nd
    have z5 : 5 ≤ sizeLine := by rw [sizeLine_eq]; decide
    have z4 : 4 ≤ sizeLine := by rw [sizeLine_eq]; decide
    have z3 : 3 ≤ sizeLine := by rw [sizeLine_eq]; decide
    have z2 : 2 ≤ sizeLine := by rw [sizeLine_eq]; decide
    have z1 : 1 ≤ sizeLine := by rw [sizeLine_eq]; decide
    refine ⟨_, Z.suite (Z.pss_cons (Z.ps_set (i := 1) nd rfl (Or.inl rfl) (Z.pe_tup (Z.pa_cons Z.pe_str (Z.pa_cons (Z.pe_call GN hr (by rfl) mN kN bN .nil pass0 (Z.pa_cons (Z.pe_op op_fdiv (Z.pv 0) Z.pe_int) Z.pa_nil)) (Z.pa_cons (Z.pe_op op_mod (Z.pv 0) Z.pe_int) (Z.pa_cons (Z.pe_op op_mod (Z.pv 0) Z.pe_int) Z.pa_nil))))))
      (Z.pss_cons (Z.ps_set (i := 2) nd rfl (Or.inl rfl) (Z.pe_tup (Z.pa_cons Z.pe_str (Z.pa_cons Z.pe_str (Z.pa_cons (Z.pe_op op_mod (Z.pv 0) Z.pe_int) (Z.pa_cons (Z.pe_op op_mod (Z.pv 0) Z.pe_int) Z.pa_nil))))))
      (Z.pss_cons (Z.ps_set (i := 3) nd rfl (Or.inl rfl) (Z.pe_lst (Z.pa_cons (Z.pv 1) (Z.pa_cons (Z.pv 2) (Z.pa_cons (Z.pe_tup (Z.pa_cons Z.pe_str (Z.pa_cons (Z.pe_op op_mod (Z.pv 0) Z.pe_int) (Z.pa_cons Z.pe_int Z.pa_nil)))) (Z.pa_cons (Z.pe_tup (Z.pa_cons Z.pe_str (Z.pa_cons (Z.pe_lst Z.pa_nil) (Z.pa_cons Z.pe_int Z.pa_nil)))) (Z.pa_cons (Z.pe_tup (Z.pa_cons Z.pe_str (Z.pa_cons (Z.pe_lst (Z.pa_cons (Z.pv 2) Z.pa_nil)) (Z.pa_cons Z.pe_int Z.pa_nil)))) Z.pa_nil)))))))
      (Z.pss_cons (Z.ps_set (i := 3) nd rfl (Or.inl rfl) (Z.pe_op op_cat (Z.pv 3) (Z.pe_lst (Z.pa_cons (Z.pe_tup (Z.pa_cons Z.pe_str (Z.pa_cons (Z.pe_lst (Z.pa_cons (Z.pv 1) (Z.pa_cons (Z.pv 1) Z.pa_nil))) (Z.pa_cons Z.pe_int Z.pa_nil)))) (Z.pa_cons (Z.pe_tup (Z.pa_cons Z.pe_str (Z.pa_cons (Z.pe_lst (Z.pa_cons (Z.pv 2) (Z.pa_cons (Z.pe_tup (Z.pa_cons Z.pe_str (Z.pa_cons Z.pe_str (Z.pa_cons Z.pe_int (Z.pa_cons Z.pe_int Z.pa_nil))))) Z.pa_nil))) (Z.pa_cons Z.pe_int Z.pa_nil)))) Z.pa_nil)))))
      (Z.pss_cons (Z.ps_set (i := 3) nd rfl (Or.inl rfl) (Z.pe_op op_cat (Z.pv 3) (Z.pe_lst (Z.pa_cons (Z.pe_tup (Z.pa_cons Z.pe_str (Z.pa_cons (Z.pe_lst (Z.pa_cons (Z.pv 2) (Z.pa_cons (Z.pv 1) (Z.pa_cons (Z.pv 1) Z.pa_nil)))) (Z.pa_cons Z.pe_int Z.pa_nil)))) (Z.pa_cons (Z.pe_tup (Z.pa_cons Z.pe_str (Z.pa_cons (Z.pe_lst (Z.pa_cons (Z.pv 2) (Z.pa_cons (Z.pe_tup (Z.pa_cons Z.pe_str (Z.pa_cons (Z.pe_lst (Z.pa_cons (Z.pv 1) Z.pa_nil)) (Z.pa_cons Z.pe_int Z.pa_nil)))) Z.pa_nil))) (Z.pa_cons Z.pe_int Z.pa_nil)))) Z.pa_nil)))))
      (Z.pss_one (Z.ps_ret (Z.pe_ix ix_list (Z.pv 3) (Z.pe_op op_mod (Z.pv 0) Z.pe_int) (fun _ _ => rfl))))))))), ?_⟩
    obtain ⟨b, eb⟩ : ∃ b : Nat, z % 7 = (b : Int) := ⟨(z % 7).toNat, (Int.toNat_of_nonneg (Int.emod_nonneg z (by decide))).symm⟩
    refine ⟨_, rfl, _, _, rfl, rfl, ⟨by decide, by decide⟩, _, rfl, fun x hx => ?_⟩
    refine ⟨_, rfl, _, _, rfl, rfl, (by show (0 : Int) < _; decide), _, rfl, _, _, rfl, rfl, (by show (0 : Int) < _; decide), z4, fun p1 hp1 => ?_⟩
    refine ⟨_, rfl, _, _, rfl, rfl, (by show (0 : Int) < _; decide), _, rfl, _, _, rfl, rfl, (by show (0 : Int) < _; decide), z4, fun p2 hp2 => ?_⟩
    dsimp only at hp2 ⊢
    rw [eb] at hp2 ⊢
    have s1 := same_upd (o := .tup [.str "w", .str x, .int (z % 1000), .int (b : Int)]) hp1
    have s2 := same_upd (o := .tup [.str "w", .str "=", .int (z % 1000), .int (b : Int)]) hp2
    have m1 : MdIn All (upd (upd H p1 (.tup [.str "w", .str x, .int (z % 1000), .int (b : Int)])) p2 (.tup [.str "w", .str "=", .int (z % 1000), .int (b : Int)])) (.word x (z % 1000) b) (.ref p1) := by
      simp only [MdIn]; exact ⟨p1, rfl, trivial, s2 _ _ upd_same⟩
    have m2 : MdIn All (upd (upd H p1 (.tup [.str "w", .str x, .int (z % 1000), .int (b : Int)])) p2 (.tup [.str "w", .str "=", .int (z % 1000), .int (b : Int)])) (.word "=" (z % 1000) b) (.ref p2) := by
      simp only [MdIn]; exact ⟨p2, rfl, trivial, upd_same⟩
    have sA := s1.trans s2
    generalize upd (upd H p1 (.tup [.str "w", .str x, .int (z % 1000), .int (b : Int)])) p2 (.tup [.str "w", .str "=", .int (z % 1000), .int (b : Int)]) = H2 at m1 m2 sA ⊢
    have hno : sgnB "=" (.word x (z % 1000) b) = false := decide_eq_false fun e => hx.same (by injection e)
    -- the first five
    refine ⟨_, rfl, _, rfl, _, rfl, _, _, rfl, rfl, (by show (0 : Int) < _; decide), z3, fun p3 hp3 => ⟨Nat.zero_le _, fun l4 hl4 => ⟨z3, fun p4 hp4 => ⟨_, rfl, z1, fun l5 hl5 => ⟨z3, fun p5 hp5 => ⟨z5, fun L1 hL1 => ?_⟩⟩⟩⟩⟩⟩
    have t3 := same_upd (o := .tup [.str "n", .int (z % 1000), .int 3]) hp3
    have t4a := same_upd (o := .lst []) hl4
    have t4 := same_upd (o := .tup [.str "r", .ref l4, .int 4]) hp4
    have t5a := same_upd (o := .lst [.ref p2]) hl5
    have t5 := same_upd (o := .tup [.str "r", .ref l5, .int 4]) hp5
    have tL := same_upd (o := .lst [.ref p1, .ref p2, .ref p3, .ref p4, .ref p5]) hL1
    have o3 : Odd _ (.ref p3) := ⟨.fig (z % 1000) 3, by simp only [MdIn]; exact ⟨p3, rfl, trivial, upd_same (H := H2) (o := .tup [.str "n", .int (z % 1000), .int 3])⟩, rfl, by simp only [deep]; omega⟩
    have o4 : Odd _ (.ref p4) := ⟨.row [] 4, md_row mds0 (Nat.zero_le _) hl4 hp4, rfl, by simp only [deep, deeps]; omega⟩
    have u4 := t3.trans (t4a.trans t4)
    have o5 : Odd _ (.ref p5) := ⟨.row [.word "=" (z % 1000) b] 4, md_row (mds_cons (m2.same u4) mds0) (by show 1 ≤ 1000; decide) hl5 hp5, rfl, by simp only [deep, deeps]; omega⟩
    have u5 := t5a.trans t5
    have u := u4.trans u5
    have o1 : Odd _ (.ref p1) := ⟨_, m1.same u, rfl, by simp only [deep]; omega⟩
    have o2 : Odd _ (.ref p2) := ⟨_, m2.same u, rfl, by simp only [deep]; omega⟩
    have oA : Odds _ [.ref p1, .ref p2, .ref p3, .ref p4, .ref p5] := (Odds.cons o1 (Odds.cons o2 (Odds.cons (o3.same ((t4a.trans t4).trans u5)) (Odds.cons (o4.same u5) (Odds.cons o5 Odds.nil))))).same tL
    have hLL := upd_same (H := upd (upd (upd (upd (upd H2 p3 (.tup [.str "n", .int (z % 1000), .int 3])) l4 (.lst [])) p4 (.tup [.str "r", .ref l4, .int 4])) l5 (.lst [.ref p2])) p5 (.tup [.str "r", .ref l5, .int 4])) (a := L1) (o := .lst [.ref p1, .ref p2, .ref p3, .ref p4, .ref p5])
    have sB := sA.trans (u.trans tL)
    replace m1 := m1.same (u.trans tL)
    replace m2 := m2.same (u.trans tL)
    generalize upd (upd (upd (upd (upd (upd H2 p3 (.tup [.str "n", .int (z % 1000), .int 3])) l4 (.lst [])) p4 (.tup [.str "r", .ref l4, .int 4])) l5 (.lst [.ref p2])) p5 (.tup [.str "r", .ref l5, .int 4])) L1 (.lst [.ref p1, .ref p2, .ref p3, .ref p4, .ref p5]) = H3 at oA hLL sB m1 m2 ⊢
    clear o1 o2 o3 o4 o5 u4 u5 u t3 t4a t4 t5a t5 tL hp3 hl4 hp4 hl5 hp5 hL1
    -- the next two
    refine ⟨_, rfl, _, rfl, _, rfl, z2, fun l6 hl6 => ⟨z3, fun p6 hp6 => ⟨_, rfl, z4, fun p7 hp7 => ⟨z2, fun l8 hl8 => ⟨z3, fun p8 hp8 => ⟨z2, fun L2 hL2 => ?_⟩⟩⟩⟩⟩⟩
    have t6a := same_upd (o := .lst [.ref p1, .ref p1]) hl6
    have t6 := same_upd (o := .tup [.str "r", .ref l6, .int 4]) hp6
    have t7 := same_upd (o := .tup [.str "w", .str "*", .int 5, .int 0]) hp7
    have t8a := same_upd (o := .lst [.ref p2, .ref p7]) hl8
    have t8 := same_upd (o := .tup [.str "r", .ref l8, .int 4]) hp8
    have tM := same_upd (o := .lst [.ref p6, .ref p8]) hL2
    have o6 : Odd _ (.ref p6) := ⟨.row [.word x (z % 1000) b, .word x (z % 1000) b] 4, md_row (mds_cons m1 (mds_cons m1 mds0)) (by show 2 ≤ 1000; decide) hl6 hp6, fix_two (by rw [hno]; rfl), by simp only [deep, deeps]; omega⟩
    have u6 := t6a.trans t6
    have m7 : MdIn All (upd (upd (upd H3 l6 (.lst [.ref p1, .ref p1])) p6 (.tup [.str "r", .ref l6, .int 4])) p7 (.tup [.str "w", .str "*", .int 5, .int 0])) (.word "*" 5 0) (.ref p7) := md_word (b := 0)
    have o8 : Odd _ (.ref p8) := ⟨.row [.word "=" (z % 1000) b, .word "*" 5 0] 4, md_row (mds_cons (m2.same (u6.trans t7)) (mds_cons m7 mds0)) (by show 2 ≤ 1000; decide) hl8 hp8, fix_two (by rw [star_no, Bool.and_false]), by simp only [deep, deeps]; omega⟩
    have u8 := t8a.trans t8
    have v8 := u6.trans (t7.trans u8)
    have hM1 := tM _ _ (v8 _ _ hLL)
    have oB : Odds _ [.ref p6, .ref p8] := (Odds.cons (o6.same (t7.trans u8)) (Odds.cons o8 Odds.nil)).same tM
    refine ⟨L1, L2, _, _, rfl, rfl, hM1, upd_same, (by show 5 + 2 ≤ sizeLine; rw [sizeLine_eq]; decide), fun L3 hL3 => ?_⟩
    have tN := same_upd (o := .lst ([.ref p1, .ref p2, .ref p3, .ref p4, .ref p5] ++ [.ref p6, .ref p8])) hL3
    have w8 := v8.trans (tM.trans tN)
    have oC : Odds _ ([.ref p1, .ref p2, .ref p3, .ref p4, .ref p5] ++ [.ref p6, .ref p8]) := (oA.same w8).app (oB.same tN)
    have hNN := upd_same (H := upd (upd (upd (upd (upd (upd H3 l6 (.lst [.ref p1, .ref p1])) p6 (.tup [.str "r", .ref l6, .int 4])) p7 (.tup [.str "w", .str "*", .int 5, .int 0])) l8 (.lst [.ref p2, .ref p7])) p8 (.tup [.str "r", .ref l8, .int 4])) L2 (.lst [.ref p6, .ref p8])) (a := L3) (o := .lst ([.ref p1, .ref p2, .ref p3, .ref p4, .ref p5] ++ [.ref p6, .ref p8]))
    have sC := sB.trans w8
    replace m1 := m1.same w8
    replace m2 := m2.same w8
    generalize upd (upd (upd (upd (upd (upd (upd H3 l6 (.lst [.ref p1, .ref p1])) p6 (.tup [.str "r", .ref l6, .int 4])) p7 (.tup [.str "w", .str "*", .int 5, .int 0])) l8 (.lst [.ref p2, .ref p7])) p8 (.tup [.str "r", .ref l8, .int 4])) L2 (.lst [.ref p6, .ref p8])) L3 (.lst ([.ref p1, .ref p2, .ref p3, .ref p4, .ref p5] ++ [.ref p6, .ref p8])) = H4 at oC hNN sC m1 m2 ⊢
    clear o6 o8 oA oB m7 u6 u8 v8 w8 t6a t6 t7 t8a t8 tM tN hM1 hl6 hp6 hp7 hl8 hp8 hL2 hL3 hLL sB
    -- the last two
    refine ⟨_, rfl, _, rfl, _, rfl, _, rfl, z3, fun l6 hl6 => ⟨z3, fun p10 hp10 => ⟨_, rfl, _, rfl, z1, fun l7 hl7 => ⟨z3, fun p7 hp7 => ⟨z2, fun l8 hl8 => ⟨z3, fun p11 hp11 => ⟨z2, fun L2 hL2 => ?_⟩⟩⟩⟩⟩⟩⟩
    have t6a := same_upd (o := .lst [.ref p2, .ref p1, .ref p1]) hl6
    have t6 := same_upd (o := .tup [.str "r", .ref l6, .int 4]) hp10
    have t7a := same_upd (o := .lst [.ref p1]) hl7
    have t7 := same_upd (o := .tup [.str "r", .ref l7, .int 6]) hp7
    have t8a := same_upd (o := .lst [.ref p2, .ref p7]) hl8
    have t8 := same_upd (o := .tup [.str "r", .ref l8, .int 4]) hp11
    have tM := same_upd (o := .lst [.ref p10, .ref p11]) hL2
    have o6 : Odd _ (.ref p10) := ⟨.row [.word "=" (z % 1000) b, .word x (z % 1000) b, .word x (z % 1000) b] 4, md_row (mds_cons m2 (mds_cons m1 (mds_cons m1 mds0))) (by show 3 ≤ 1000; decide) hl6 hp10, rfl, by simp only [deep, deeps]; omega⟩
    have u6 := t6a.trans t6
    have m7 := md_row (a := 6) (mds_cons (m1.same u6) mds0) (by show 1 ≤ 1000; decide) hl7 hp7
    have u7 := t7a.trans t7
    have o8 : Odd _ (.ref p11) := ⟨.row [.word "=" (z % 1000) b, .row [.word x (z % 1000) b] 6] 4, md_row (mds_cons (m2.same (u6.trans u7)) (mds_cons m7 mds0)) (by show 2 ≤ 1000; decide) hl8 hp11, fix_two (by rw [show nameB (.row [.word x (z % 1000) b] 6) = false from rfl, Bool.and_false]), by simp only [deep, deeps]; omega⟩
    have u8 := t8a.trans t8
    have v8 := u6.trans (u7.trans u8)
    have hM1 := tM _ _ (v8 _ _ hNN)
    have oB : Odds _ [.ref p10, .ref p11] := (Odds.cons (o6.same (u7.trans u8)) (Odds.cons o8 Odds.nil)).same tM
    refine ⟨L3, L2, _, _, rfl, rfl, hM1, upd_same, (by show 7 + 2 ≤ sizeLine; rw [sizeLine_eq]; decide), fun L4 hL4 => ?_⟩
    have tN := same_upd (o := .lst (([.ref p1, .ref p2, .ref p3, .ref p4, .ref p5] ++ [.ref p6, .ref p8]) ++ [.ref p10, .ref p11])) hL4
    have w8 := v8.trans (tM.trans tN)
    have oD : Odds _ (([.ref p1, .ref p2, .ref p3, .ref p4, .ref p5] ++ [.ref p6, .ref p8]) ++ [.ref p10, .ref p11]) := (oC.same w8).app (oB.same tN)
    obtain ⟨v, ev, hv⟩ := atI_some (xs := (([.ref p1, .ref p2, .ref p3, .ref p4, .ref p5] ++ [.ref p6, .ref p8]) ++ [.ref p10, .ref p11] : List V)) (i := z % 9) (Int.emod_nonneg z (by decide)) (Int.emod_lt_of_pos z (by decide))
    exact ⟨_, rfl, _, rfl, _, _, rfl, rfl, (by show (0 : Int) < _; decide), L4, _, _, v, rfl, rfl, SqL.of upd_same, ev, q _ v (sC.trans w8) (oD v hv)⟩
end
end K32

set_option Elab.async false
set_option linter.all false
set_option maxRecDepth 100000
set_option maxHeartbeats 4000000
/-! k32: what the pattern's words come to. Own work. -/
namespace K32
open PySem L2 TR
def flg (st : Int) (k : Nat) : List Pc → List (Tr × Bool)
  | [] => []
  | q :: r => (modT q, decide ((k : Int) = st)) :: flg st (k + 1) r
theorem star_yes (a : Int) : starB (starT a) = true := (show decide (V.str "*" = V.str "*") = true from decide_eq_true rfl)
theorem row_cons (st a : Int) (k : Nat) (q : Pc) (r : List Pc) : rowT st a k (q :: r) = modT q :: ((if (k : Int) = st then [starT a] else []) ++ rowT st a (k + 1) r) := by simp only [rowT]
theorem pcs_row (st a : Int) : ∀ (qs : List Pc) (k : Nat) (b : Bool) (acc : List (Tr × Bool)), (∀ q ∈ qs, starB (modT q) = false) → (b = true → st < (k : Int)) → pcsA (rowT st a k qs) b acc = some (acc ++ flg st k qs)
  | [], k, b, acc, h, hb => by simp only [rowT, flg, List.append_nil]; rfl
  | q :: r, k, b, acc, h, hb => by
    have h1 := h q (List.mem_cons_self ..)
    have ih := fun b acc => pcs_row st a r (k + 1) b acc fun x hx => h x (List.mem_cons_of_mem _ hx)
    rw [row_cons]
    show (if starB (modT q) = true then _ else pcsA ((if (k : Int) = st then [starT a] else []) ++ rowT st a (k + 1) r) b (acc ++ [(modT q, false)])) = _
    rw [if_neg (by rw [h1]; decide)]
    by_cases e : (k : Int) = st
    · rw [if_pos e]
      show (if starB (starT a) = true then (if (b || (acc ++ [(modT q, false)]).isEmpty) = true then none else pcsA (rowT st a (k + 1) r) true (setL (acc ++ [(modT q, false)]))) else _) = _
      have hb' : b = false := by
        cases b with
        | false => rfl
        | true => have := hb rfl; omega
      rw [if_pos (star_yes a), hb', if_neg (by simp), setL_snoc, ih true _ (fun _ => by omega)]
      simp only [flg, decide_eq_true e, List.append_assoc, List.singleton_append]
    · rw [if_neg e, List.nil_append, ih b _ (fun z => by have := hb z; omega)]
      simp only [flg, decide_eq_false e, List.append_assoc, List.singleton_append]
theorem flg_mem {st : Int} {x : Tr × Bool} : ∀ {qs : List Pc} {k : Nat}, x ∈ flg st k qs → ∃ q ∈ qs, x.1 = modT q
  | q :: r, k, h => by
    simp only [flg] at h
    rcases List.mem_cons.mp h with e | e
    · exact ⟨q, List.mem_cons_self .., by rw [e]⟩
    · obtain ⟨q', h', e'⟩ := flg_mem e
      exact ⟨q', List.mem_cons_of_mem _ h', e'⟩
theorem ite_add (d : Int) (k st : Int) : (if decide (k = st) = true then d + 1 else d) = d + if k = st then 1 else 0 := by
  by_cases e : k = st
  · rw [if_pos (decide_eq_true e), if_pos e]
  · rw [if_neg (by rw [decide_eq_false e]; decide), if_neg e, Int.add_zero]
section
variable {N : Addr → Prop} {H : Hp}
theorem good_row : ∀ (n : Nat) (qs : List Pc) (us : List V) (st a d : Int), Al (QIn N H) qs us → szs qs < n → szs qs ≤ 100 → GoodP n (.row (rowT st a 0 qs) a) ∧ vw n d (.row (rowT st a 0 qs) a) = dpTs d st 0 qs
  | 0, qs, us, st, a, d, h, hn, _ => by omega
  | n + 1, qs, us, st, a, d, h, hn, h100 => by
    have hat : ∀ q ∈ qs, ∃ u, QIn N H q u := fun q hq => by
      obtain ⟨i, hi⟩ := List.getElem?_of_mem hq
      obtain ⟨u, _, hqi⟩ := h.2 i q hi
      exact ⟨u, hqi⟩
    have hp : pcs (rowT st a 0 qs) = some (flg st 0 qs) := by
      unfold pcs
      rw [pcs_row st a qs 0 false [] (fun q hq => by obtain ⟨u, hu⟩ := hat q hq; exact hu.nostar) (fun e => nomatch e), List.nil_append]
    have hl := rowT_len st a 0 qs
    have hql := len_szs qs
    have sub : ∀ ps st2 a2 dd d2, Pc.p ps st2 a2 dd ∈ qs → fixT (modT (.p ps st2 a2 dd)) = none ∧ GoodP n (modT (.p ps st2 a2 dd)) ∧ vw n d2 (modT (.p ps st2 a2 dd)) = dpTs d2 st2 0 ps := fun ps st2 a2 dd d2 hm => by
      obtain ⟨u, hu⟩ := hat _ hm
      have hsz := szs_mem hm
      simp only [sz] at hsz
      simp only [QIn] at hu
      obtain ⟨_, _, us2, _, _, _, _, _, hqs⟩ := hu
      simp only [modT]
      exact ⟨fix_p hqs.al, good_row n ps us2 st2 a2 d2 hqs.al (by omega) (by omega)⟩
    refine ⟨⟨rfl, ?_, flg st 0 qs, hp, fun x hx hn1 hr => ?_⟩, ?_⟩
    · show (rowT st a 0 qs).length ≤ 300
      omega
    · obtain ⟨q, hq, e⟩ := flg_mem hx
      rw [e] at hn1 hr ⊢
      obtain ⟨u, hu⟩ := hat q hq
      cases q with
      | v n a b => simp only [modT] at hr; exact nomatch hr
      | n z a => simp only [modT] at hr; exact nomatch hr
      | f n a b =>
        simp only [QIn] at hu
        obtain ⟨_, _, _, _, hnv⟩ := hu
        rw [fix_f hnv] at hr
        rw [show (some (Tr.word n (a + 2) b)).isNone = false from rfl, Bool.and_false] at hr
        exact nomatch hr
      | p ps st2 a2 dd => exact (sub ps st2 a2 dd 0 hq).2.1
    · show ((pcs (rowT st a 0 qs)).getD []).flatMap (vwQ (vw n) d) = _
      rw [hp]
      show (flg st 0 qs).flatMap (vwQ (vw n) d) = _
      have gen : ∀ (rs : List Pc) (k : Nat), (∀ q ∈ rs, q ∈ qs) → (flg st k rs).flatMap (vwQ (vw n) d) = dpTs d st k rs := fun rs => by
        induction rs with
        | nil => intro k _; simp only [flg, dpTs]; rfl
        | cons q r ih =>
          intro k hk
          have hq := hk q (List.mem_cons_self ..)
          simp only [flg, dpTs, List.flatMap_cons]
          rw [ih (k + 1) fun x hx => hk x (List.mem_cons_of_mem _ hx)]
          congr 1
          obtain ⟨u, hu⟩ := hat q hq
          have key : ∀ t : Tr, vwQ (vw n) d (t, decide ((k : Int) = st)) = if nameB t = true then [(t, d + if (k : Int) = st then 1 else 0)] else if (isRow t && (fixT t).isNone) = true then vw n (d + if (k : Int) = st then 1 else 0) t else [] := fun t => by
            unfold vwQ
            rw [ite_add]
          rw [key]
          generalize (d + if (k : Int) = st then 1 else 0) = d2
          cases q with
          | v n a b =>
            simp only [QIn] at hu
            obtain ⟨_, _, _, _, hnv⟩ := hu
            rw [show modT (.v n a b) = .word n a b by simp only [modT], if_pos (nameB_nv hnv)]
            simp only [dpT]
          | n z a => rw [show modT (.n z a) = .fig z a by simp only [modT]]; simp only [dpT]; rfl
          | f n a b =>
            simp only [QIn] at hu
            obtain ⟨_, _, _, _, hnv⟩ := hu
            rw [fix_f hnv, if_neg, if_neg]
            · simp only [dpT]
            · rw [show (some (Tr.word n (a + 2) b)).isNone = false from rfl, Bool.and_false]; decide
            · rw [show modT (.f n a b) = .row [.word "=" (a + 1) (b / 2), .word n (a + 2) b] a by simp only [modT]]; exact fun z => nomatch z
          | p ps st2 a2 dd =>
            obtain ⟨h1, _, h3⟩ := sub ps st2 a2 dd d2 hq
            rw [h1, h3, if_neg, if_pos]
            · simp only [dpT]
            · rw [show modT (.p ps st2 a2 dd) = .row (rowT st2 a2 0 ps) a2 by simp only [modT]]; rfl
            · rw [show modT (.p ps st2 a2 dd) = .row (rowT st2 a2 0 ps) a2 by simp only [modT]]; exact fun z => nomatch z
      exact gen qs 0 fun q hq => hq
end
mutual
theorem deep_mod : ∀ q : Pc, deep (modT q) ≤ sz q
  | .v _ _ _ => by simp only [modT, deep]; exact Nat.zero_le _
  | .f _ _ _ => by simp only [modT, deep, deeps, sz]; omega
  | .n _ _ => by simp only [modT, deep]; exact Nat.zero_le _
  | .p ps st a _ => by simp only [modT, deep, sz]; have := deeps_row st a 0 ps; omega
theorem deeps_row : ∀ (st a : Int) (k : Nat) (qs : List Pc), deeps (rowT st a k qs) ≤ szs qs
  | st, a, k, [] => by simp only [rowT, deeps]; exact Nat.zero_le _
  | st, a, k, q :: r => by
    have h1 := deep_mod q
    have h2 := deeps_row st a (k + 1) r
    rw [row_cons]
    simp only [szs]
    by_cases e : (k : Int) = st
    · rw [if_pos e]
      simp only [List.cons_append, List.nil_append, deeps, starT, deep]; omega
    · rw [if_neg e]
      simp only [List.nil_append, deeps]; omega
end
end K32

set_option Elab.async false
set_option linter.all false
set_option maxRecDepth 100000
set_option maxHeartbeats 4000000
/-! k32: the law. Own work. -/
namespace K32
open PySem L2 TR
theorem cut_ints (ns : List Int) (lo hi : Option Int) : ∃ ms : List Int, cutV (ns.map V.int) lo hi = ms.map V.int ∧ ms.length ≤ ns.length := by
  have hl := cutV_length (ns.map V.int) lo hi
  unfold cutV at hl ⊢
  rw [← List.map_drop, ← List.map_take] at hl ⊢
  exact ⟨_, rfl, by simpa using hl⟩
theorem dOf_puts (ws : List (Tr × Int)) : dOfT (prsOf ws) = putsT [] ws := rfl
theorem AllInt.nil : AllInt [] := fun kv h => nomatch h
def spLaw (K : PySem.W.Frag) : Sp := fun vs H Q _ => ∃ (a : Addr) (ns : List Int), vs = [.ref a] ∧ SqL K H a (ns.map V.int) ∧ ns.length ≤ 63 ∧ ∀ H', Q (.bl true) H'
section
variable {P : Program} {w : World} {K : PySem.W.Frag} {mg : Str → Option Value} {base : Heap} {c : C4} {nn : Addr}
abbrev NLw : List Str := ["_law_script", "_law_inner", "_law_star", "_law_model_here", "_law_pattern", "_law_due", "_law_found"]
theorem scLw : FnScope NLw ["_law_script"] (defScope sLaw) := ⟨rfl, rfl, rfl, by decide +kernel, rfl, by decide +kernel, by decide +kernel⟩
theorem ok_law {f fP fC fR fT fD fV fO fU fW fZ fA : Addr} {fd fdP fdC fdR fdT fdD fdV fdO fdU fdW fdZ fdA : FuncData} (F : Fun K "law" "law" sLaw f fd) (X : Txt K mg nn)
    (kP : PySem.W.keepIn K (.ref fP) = true) (bP : Binds K fdP ["_law_cells", "_law_deepest"] []) (mP : mg "_law_pieces" = some (.ref fP)) (GP : FnOk P w K mg base CX0 3 fP fdP ["_law_cells", "_law_deepest"] (spLP K))
    (kC : PySem.W.keepIn K (.ref fC) = true) (bC : Binds K fdC ["_law_script", "_law_k"] []) (mC : mg "_law_cell_at" = some (.ref fC)) (GC : FnOk P w K mg base CX0 1 fC fdC ["_law_script", "_law_k"] (spCell K))
    (kR : PySem.W.keepIn K (.ref fR) = true) (bR : Binds K fdR pRw []) (mR : mg "_law_row" = some (.ref fR)) (GR : FnOk P w K mg base CX0 142 fR fdR pRw (spRow 70))
    (kT : PySem.W.keepIn K (.ref fT) = true) (bT : Binds K fdT ["_law_model_here"] []) (mT : mg "_law_tree" = some (.ref fT)) (GT : FnOk P w K mg base CX0 75 fT fdT ["_law_model_here"] (spTree c 71))
    (kD : PySem.W.keepIn K (.ref fD) = true) (bD : Binds K fdD pDp []) (mD : mg "_law_depths" = some (.ref fD)) (GD : FnOk P w K mg base CX0 71 fD fdD pDp (spDepths 70))
    (kV' : PySem.W.keepIn K (.ref fV) = true) (bV : Binds K fdV ["pattern"] []) (mV : mg "variables" = some (.ref fV)) (GV : FnOk P w K mg base CX0 76 fV fdV ["pattern"] (spVars c 71))
    (kO : PySem.W.keepIn K (.ref fO) = true) (bO : Binds K fdO ["_law_found", "_law_due"] []) (mO : mg "_law_told" = some (.ref fO)) (GO : FnOk P w K mg base CX0 1 fO fdO ["_law_found", "_law_due"] spTold)
    (kU : PySem.W.keepIn K (.ref fU) = true) (bU : Binds K fdU pFt []) (mU : mg "_law_fixed_told" = some (.ref fU)) (GU : FnOk P w K mg base CX0 73 fU fdU pFt (spFT c 70))
    (kW : PySem.W.keepIn K (.ref fW) = true) (bW : Binds K fdW ["tree"] []) (mW : mg "fixed_word" = some (.ref fW)) (GW : FnOk P w K mg base CX0 2 fW fdW ["tree"] (spFixed c))
    (kZ : PySem.W.keepIn K (.ref fZ) = true) (bZ : Binds K fdZ ["_law_cell"] []) (mZ : mg "_law_odd" = some (.ref fZ)) (GZ : FnOk P w K mg base CX0 2 fZ fdZ ["_law_cell"] spOdd)
    (kA : PySem.W.keepIn K (.ref fA) = true) (bA : Binds K fdA ["_law_found", "_law_model_here"] []) (mA : mg "_law_alike" = some (.ref fA)) (GA : FnOk P w K mg base CX0 72 fA fdA ["_law_found", "_law_model_here"] (spAlike c 71)) :
    FnOk P w K mg base CX0 143 f fd ["_law_script"] (spLaw K) := by
  refine F.ok scLw (fun vs H Q E h => ?_) (fun cdv A outer s H vs Q E hr h => ?_)
  · obtain ⟨a, ns, rfl, _⟩ := h; rfl
  · obtain ⟨a, ns, rfl, hS0, hn63, q⟩ := h
    have nd := scLw.nd
    have hu := hu_of hr
    have hr1 : Room 1 _ := hr.mono (by omega)
    have hr2 : Room 2 _ := hr.mono (by omega)
    have hr3 : Room 3 _ := hr.mono (by omega)
    have hrT : Room 75 _ := hr.mono (by omega)
    have hrD : Room 71 _ := hr.mono (by omega)
    have hrV : Room 76 _ := hr.mono (by omega)
    have hrU : Room 73 _ := hr.mono (by omega)
    have hrA : Room 72 _ := hr.mono (by omega)
    have z2 : 2 ≤ sizeLine := by rw [sizeLine_eq]; decide
    refine ⟨_, pss_cons (ps_set (i := 1) nd rfl (Or.inl rfl) (pe_call GP hr3 (by rfl) mP kP bP .nil pass0 (pa_cons (pe_slice sl_list (pv 0) (po_some pe_int) (po_some pe_int)) (pa_cons pe_int pa_nil))))
      (pss_cons (ps_set (i := 2) nd rfl (Or.inl rfl) (pe_op op_sub (pe_op op_mod (pe_call GC hr1 (by rfl) mC kC bC .nil pass0 (pa_cons (pv 0) (pa_cons pe_int pa_nil))) (pe_op op_add (pe_callB call_len_seq (by rfl) X.len bt_len (pa_cons (pv 1) pa_nil)) pe_int)) pe_int))
      (pss_cons (ps_set (i := 3) nd rfl (Or.inl rfl) (pe_call GR hr (by rfl) mR kR bR .nil pass0 (pa_cons (pv 1) (pa_cons (pv 2) (pa_cons (pe_op op_mod (pe_call GC hr1 (by rfl) mC kC bC .nil pass0 (pa_cons (pv 0) (pa_cons pe_int pa_nil))) pe_int) pa_nil)))))
      (pss_cons (ps_set (i := 4) nd rfl (Or.inl rfl) (pe_call GT hrT (by rfl) mT kT bT .nil pass0 (pa_cons (pv 3) pa_nil)))
      (pss_cons (ps_set (i := 5) nd rfl (Or.inl rfl) pe_dnewT)
      (pss_cons (ps_expr (pe_call GD hrD (by rfl) mD kD bD .nil pass0 (pa_cons (pv 1) (pa_cons (pv 2) (pa_cons pe_int (pa_cons (pv 5) pa_nil))))))
      (pss_cons (ps_set (i := 6) nd rfl (Or.inl rfl) (pe_call GV hrV (by rfl) mV kV' bV .nil pass0 (pa_cons (pv 4) pa_nil)))
      (pss_cons (ps_if (PW.pt (pw_or (pt_not (pt_val (pe_call GO hr1 (by rfl) mO kO bO .nil pass0 (pa_cons (pv 6) (pa_cons (pv 5) pa_nil))))) (pw_or1 (pt_not (pt_val (pe_call GU hrU (by rfl) mU kU bU .nil pass0 (pa_cons (pv 1) (pa_cons (pv 4) pa_nil))))))))
      (pss_one (ps_ret pe_bl))
      pss_nil)
      (pss_cons (ps_dput hu (pv 6) (pe_tup (pa_cons pe_str (pa_cons pe_int pa_nil))) pe_int rfl)
      (pss_cons (ps_if (pt_cmpR op_notN (pe_call GW hr2 (by rfl) mW kW bW .nil pass0 (pa_cons (pe_call GT hrT (by rfl) mT kT bT .nil pass0 (pa_cons (pe_call GZ hr2 (by rfl) mZ kZ bZ .nil pass0 (pa_cons (pe_call GC hr1 (by rfl) mC kC bC .nil pass0 (pa_cons (pv 0) (pa_cons pe_int pa_nil))) pa_nil)) pa_nil)) pa_nil)) pe_non (nomark _))
      (pss_one (ps_ret pe_bl))
      pss_nil)
      (pss_one (ps_ret (pe_and (pe_call GO hr1 (by rfl) mO kO bO .nil pass0 (pa_cons (pe_call GV hrV (by rfl) mV kV' bV .nil pass0 (pa_cons (pv 4) pa_nil)) (pa_cons (pv 5) pa_nil))) (pe_one (pe_call GA hrA (by rfl) mA kA bA .nil pass0 (pa_cons (pv 4) (pa_cons (pv 3) pa_nil)))))))))))))))), ?_⟩
    obtain ⟨ms, ems, hms⟩ := cut_ints ns (some 3) (some 73)
    refine ⟨_, rfl, _, rfl, _, rfl, a, _, rfl, hS0, fun L hL => ?_⟩
    rw [ems]
    have s0 := same_upd (o := .lst (ms.map V.int)) hL
    refine ⟨L, ms, 20, rfl, SqL.of upd_same, by omega, fun H1 S us qs s1 hSn hS1 hal1 hsz => ?_⟩
    have sq1 := (s0.trans s1).seq hS0
    have hul := hal1.1
    have hql := len_szs qs
    refine ⟨_, rfl, a, 0, ns, rfl, sq1, Int.le_refl _, fun z0 => ⟨_, rfl, S, _, rfl, .inl (SqL.of hS1), _, _, rfl, rfl, _, _, rfl, rfl, (by show (0 : Int) < ((us.length : Nat) : Int) + 1; omega), _, _, rfl, rfl, ?_⟩⟩
    dsimp only
    generalize z0 % (((us.length : Nat) : Int) + 1) - 1 = st
    refine ⟨_, rfl, _, rfl, _, rfl, a, 1, ns, rfl, sq1, by decide, fun z1 => ⟨_, _, rfl, rfl, (by show (0 : Int) < _; decide), S, us, qs, st, z1 % 50000, _, rfl, hS1, hal1, by omega, by omega, fun H2 x s2 hx => ?_⟩⟩
    generalize z1 % 50000 = at0 at hx
    have hdeep : deep (.row (rowT st at0 0 qs) at0) ≤ 71 := by
      simp only [deep]
      have := deeps_row st at0 0 qs
      omega
    have hx2 : MdIn All H2 (.row (rowT st at0 0 qs) at0) x := hx.mono fun b o _ e => ⟨trivial, e⟩
    obtain ⟨hgood, hvw⟩ := good_row 71 qs us st at0 0 hal1 (by omega) (by omega)
    refine ⟨_, rfl, x, _, rfl, hx2, hdeep, fun H3 y s3 hy => ?_⟩
    have hy3 : TrIn c All H3 (.row (rowT st at0 0 qs) at0) y := hy.mono fun b o _ e => ⟨trivial, e⟩
    have hx3 := hx2.same s3
    have hal3 : Al (QIn All H3) qs us := hal1.mono fun _ _ r => r.mono fun b o _ e => ⟨trivial, s3 _ _ (s2 _ _ e)⟩
    have hS3 := s3 _ _ (s2 _ _ hS1)
    have sq3 := (s2.trans s3).seq sq1
    intro U hU
    have s4 := same_upd (o := .dT []) hU
    have nU : ∀ b o, H3 b = some o → b ≠ U := fun b o e => ne_of_none e hU
    refine ⟨_, rfl, _, rfl, _, rfl, S, U, us, qs, st, 0, [], (fun b => b ≠ U), rfl, s4 _ _ hS3, hal3.mono (fun _ _ r => r.mono fun b o _ e => ⟨nU b o e, s4 _ _ e⟩), fun b h => h, by omega, upd_same, by simp only [List.length_nil]; omega, fun H5 k5 hU5 => ?_⟩
    have k35 : ∀ b o, H3 b = some o → H5 b = some o := fun b o e => k5 b o (nU b o e) (s4 _ _ e)
    have hy5 := hy3.same k35
    have hlen : (vw 71 0 (.row (rowT st at0 0 qs) at0)).length ≤ 100000 := by
      rw [hvw]
      have := dpTs_len 0 st 0 qs
      omega
    refine ⟨_, rfl, y, _, rfl, hy5, hgood, hlen, fun H6 D6 s6 hD5 hD6 => ?_⟩
    rw [hvw, dOf_puts] at hD6
    have hI : AllInt (putsT [] (dpTs 0 st 0 qs)) := AllInt.nil.puts
    have hpl := putsT_len [] (dpTs 0 st 0 qs)
    have hdl := dpTs_len 0 st 0 qs
    have hU6 := s6 _ _ hU5
    refine ⟨_, rfl, _, rfl, D6, U, _, rfl, hD6, hU6, hI, fun H7 s7 => ⟨_, rfl, iteF ?_⟩⟩
    have s37 : ∀ b o, H3 b = some o → H7 b = some o := fun b o e => s7 _ _ (s6 _ _ (k35 b o e))
    refine ⟨_, rfl, _, rfl, S, us, qs, y, st, at0, rfl, s37 _ _ hS3, hal3.mono (fun _ _ r => r.mono fun b o _ e => ⟨trivial, s37 b o e⟩), hy3.same s37, by omega, by omega, fun H8 s8 => ⟨_, rfl, iteF ?_⟩⟩
    have s38 : ∀ b o, H3 b = some o → H8 b = some o := fun b o e => s8 _ _ (s37 b o e)
    refine ⟨_, rfl, z2, fun p9 hp9 => ?_⟩
    have s9 := same_upd (o := .tup [.str "a", .int 0]) hp9
    have hD8 := s8 _ _ (s7 _ _ hD6)
    have hU8 := s8 _ _ (s7 _ _ hU6)
    have nDU : U ≠ D6 := ne_of_none hU5 hD5
    refine ⟨D6, _, rfl, DPut.t (k := ([.inr "a", .inl (some 0)] : List Key)) (s9 _ _ hD8) upd_same (by simp only [List.length_nil] at hpl; rw [sizeLine_eq]; omega), ?_⟩
    have k9 : ∀ b o, b ≠ D6 → H8 b = some o → upd (upd H8 p9 (.tup [.str "a", .int 0])) D6 (.dT (putK (putsT [] (dpTs 0 st 0 qs)) [.inr "a", .inl (some 0)] (.int 99))) b = some o := fun b o nb e => by rw [upd_ne nb]; exact s9 _ _ e
    have k39 : ∀ b o, H3 b = some o → upd (upd H8 p9 (.tup [.str "a", .int 0])) D6 (.dT (putK (putsT [] (dpTs 0 st 0 qs)) [.inr "a", .inl (some 0)] (.int 99))) b = some o := fun b o e => k9 b o (ne_of_none (k35 b o e) hD5) (s38 b o e)
    have hU9 := k9 _ _ nDU hU8
    generalize upd (upd H8 p9 (.tup [.str "a", .int 0])) D6 (.dT (putK (putsT [] (dpTs 0 st 0 qs)) [.inr "a", .inl (some 0)] (.int 99))) = H9 at k39 hU9 ⊢
    have sq9 : SqL K H9 a (ns.map V.int) := Same.seq k39 sq3
    refine ⟨_, rfl, a, 2, ns, rfl, sq9, by decide, fun z2 => ⟨z2, rfl, fun H10 v10 s10 hodd => ?_⟩⟩
    obtain ⟨t10, m10, f10, d10⟩ := hodd
    refine ⟨v10, t10, rfl, m10, by omega, fun H11 y11 s11 hy11 => ?_⟩
    refine ⟨y11, t10, rfl, hy11.mono (fun b o _ e => ⟨trivial, e⟩), (fun _ => ?_), (fun y u e => by rw [f10] at e; exact nomatch e)⟩
    refine ⟨rfl, _, rfl, iteN (ne_self _) ?_⟩
    have k311 : ∀ b o, H3 b = some o → H11 b = some o := fun b o e => s11 _ _ (s10 _ _ (k39 b o e))
    refine ⟨_, rfl, y, _, rfl, hy3.same k311, hgood, hlen, fun H12 D12 s12 hD12 hD12' => ?_⟩
    rw [hvw, dOf_puts] at hD12'
    refine ⟨_, rfl, D12, U, _, rfl, hD12', s12 _ _ (s11 _ _ (s10 _ _ hU9)), hI, fun H13 s13 => ?_⟩
    have k313 : ∀ b o, H3 b = some o → H13 b = some o := fun b o e => s13 _ _ (s12 _ _ (k311 b o e))
    exact ⟨_, rfl, iteT ⟨_, rfl, _, rfl, y, x, _, rfl, hy3.same k313, hx3.same k313, hdeep, fun H14 s14 => q H14⟩⟩
end
end K32

set_option Elab.async false
set_option linter.all false
set_option maxRecDepth 100000
set_option maxHeartbeats 4000000
namespace K32
open PySem L2 TR
/-! ### what the top has written; the law's head -/
theorem lenS {α : Type} {us : List α} {n : Nat} (h : us.length = n + 1) : ∃ a r, us = a :: r ∧ r.length = n := by
  cases us with
  | nil => exact nomatch h
  | cons a r => exact ⟨a, r, rfl, Nat.succ.inj h⟩
theorem len1 {α : Type} {us : List α} (h : us.length = 1) : ∃ a0, us = [a0] := by
  obtain ⟨a0, r0, rfl, h0⟩ := lenS h
  obtain rfl := List.eq_nil_of_length_eq_zero h0
  exact ⟨a0, rfl⟩
theorem len2 {α : Type} {us : List α} (h : us.length = 2) : ∃ a0 a1, us = [a0, a1] := by
  obtain ⟨a0, r0, rfl, h0⟩ := lenS h
  obtain ⟨a1, r1, rfl, h1⟩ := lenS h0
  obtain rfl := List.eq_nil_of_length_eq_zero h1
  exact ⟨a0, a1, rfl⟩
theorem len3 {α : Type} {us : List α} (h : us.length = 3) : ∃ a0 a1 a2, us = [a0, a1, a2] := by
  obtain ⟨a0, r0, rfl, h0⟩ := lenS h
  obtain ⟨a1, r1, rfl, h1⟩ := lenS h0
  obtain ⟨a2, r2, rfl, h2⟩ := lenS h1
  obtain rfl := List.eq_nil_of_length_eq_zero h2
  exact ⟨a0, a1, a2, rfl⟩
theorem len4 {α : Type} {us : List α} (h : us.length = 4) : ∃ a0 a1 a2 a3, us = [a0, a1, a2, a3] := by
  obtain ⟨a0, r0, rfl, h0⟩ := lenS h
  obtain ⟨a1, r1, rfl, h1⟩ := lenS h0
  obtain ⟨a2, r2, rfl, h2⟩ := lenS h1
  obtain ⟨a3, r3, rfl, h3⟩ := lenS h2
  obtain rfl := List.eq_nil_of_length_eq_zero h3
  exact ⟨a0, a1, a2, a3, rfl⟩
theorem all_mk {l : PySem.W.OpenLaw} {w : World} {K : PySem.W.Frag} {h : Heap} {mg : Str → Option Value} {fa gT gW gF gR T0 nn fISN fKEY fSGN fPCS fFIX fPAT fVAR fDOF fVWO fCEL fNAM fLEA fLPC fMOD fROW fTRE fALI fDEP fTOL fFXT fODD fZ fWI fTI fFI fRI : Addr} (X : K.In h) (G : h.Ns mainGlobals mg) (hfa : mg "law" = some (.ref fa))
    {odNN odT0 odISN anISN odKEY anKEY odSGN anSGN odPCS anPCS odFIX anFIX odPAT anPAT odVAR anVAR odDOF anDOF odVWO anVWO odCEL anCEL odNAM anNAM odLEA anLEA odLPC anLPC odMOD anMOD odROW anROW odTRE anTRE odALI anALI odDEP anDEP odTOL anTOL odFXT anFXT odODD anODD odZ anZ odWI anWI odTI anTI odFI anFI odRI anRI : Option Addr} {slNN slT0 slISN slKEY slSGN slPCS slFIX slPAT slVAR slDOF slVWO slCEL slNAM slLEA slLPC slMOD slROW slTRE slALI slDEP slTOL slFXT slODD slZ slWI slTI slFI slRI : Array (Option Value)} {ocT0 ocISN kVISN dcISN pmISN cdISN ctISN ocKEY kVKEY dcKEY pmKEY cdKEY ctKEY ocSGN kVSGN dcSGN pmSGN cdSGN ctSGN ocPCS kVPCS dcPCS pmPCS cdPCS ctPCS ocFIX kVFIX dcFIX pmFIX cdFIX ctFIX ocPAT kVPAT dcPAT pmPAT cdPAT ctPAT ocVAR kVVAR dcVAR pmVAR cdVAR ctVAR ocDOF kVDOF dcDOF pmDOF cdDOF ctDOF ocVWO kVVWO dcVWO pmVWO cdVWO ctVWO ocCEL kVCEL dcCEL pmCEL cdCEL ctCEL ocNAM kVNAM dcNAM pmNAM cdNAM ctNAM ocLEA kVLEA dcLEA pmLEA cdLEA ctLEA ocLPC kVLPC dcLPC pmLPC cdLPC ctLPC ocMOD kVMOD dcMOD pmMOD cdMOD ctMOD ocROW kVROW dcROW pmROW cdROW ctROW ocTRE kVTRE dcTRE pmTRE cdTRE ctTRE ocALI kVALI dcALI pmALI cdALI ctALI ocDEP kVDEP dcDEP pmDEP cdDEP ctDEP ocTOL kVTOL dcTOL pmTOL cdTOL ctTOL ocFXT kVFXT dcFXT pmFXT cdFXT ctFXT ocODD kVODD dcODD pmODD cdODD ctODD ocZ kVZ dcZ pmZ cdZ ctZ ocWI kVWI dcWI pmWI cdWI ctWI ocTI kVTI dcTI pmTI cdTI ctTI ocFI kVFI dcFI pmFI cdFI ctFI ocRI kVRI dcRI pmRI cdRI ctRI : Value} {tk1 tk2 t0 : Tok} {nNN nT0 : Nat}
    (qT : PySem.W.nsIn K mainGlobals "Tree" = some (some (.ref gT)))
    (qW : PySem.W.nsIn K mainGlobals "Word" = some (some (.ref gW)))
    (qF : PySem.W.nsIn K mainGlobals "Figure" = some (some (.ref gF)))
    (qR : PySem.W.nsIn K mainGlobals "Row" = some (some (.ref gR)))
    (aISN : PySem.W.nsIn K mainGlobals "is_name" = some (some (.ref fISN)))
    (lISN : K.lookup fISN = some ⟨ocISN, odISN, .func (PySem.W.fnOf "is_name" "is_name" (defArgs sIsName) (defBody sIsName) (defScope sIsName) .none kVISN dcISN pmISN anISN cdISN ctISN), slISN⟩)
    (cISN : PySem.W.codeIn K cdISN "is_name" = true)
    (kISN : PySem.W.keepIn K (.ref fISN) = true)
    (aKEY : PySem.W.nsIn K mainGlobals "key_of" = some (some (.ref fKEY)))
    (lKEY : K.lookup fKEY = some ⟨ocKEY, odKEY, .func (PySem.W.fnOf "key_of" "key_of" (defArgs sKeyOf) (defBody sKeyOf) (defScope sKeyOf) .none kVKEY dcKEY pmKEY anKEY cdKEY ctKEY), slKEY⟩)
    (cKEY : PySem.W.codeIn K cdKEY "key_of" = true)
    (kKEY : PySem.W.keepIn K (.ref fKEY) = true)
    (aSGN : PySem.W.nsIn K mainGlobals "is_sign" = some (some (.ref fSGN)))
    (lSGN : K.lookup fSGN = some ⟨ocSGN, odSGN, .func (PySem.W.fnOf "is_sign" "is_sign" (defArgs sSign) (defBody sSign) (defScope sSign) .none kVSGN dcSGN pmSGN anSGN cdSGN ctSGN), slSGN⟩)
    (cSGN : PySem.W.codeIn K cdSGN "is_sign" = true)
    (kSGN : PySem.W.keepIn K (.ref fSGN) = true)
    (aPCS : PySem.W.nsIn K mainGlobals "pieces" = some (some (.ref fPCS)))
    (lPCS : K.lookup fPCS = some ⟨ocPCS, odPCS, .func (PySem.W.fnOf "pieces" "pieces" (defArgs sPieces) (defBody sPieces) (defScope sPieces) .none kVPCS dcPCS pmPCS anPCS cdPCS ctPCS), slPCS⟩)
    (cPCS : PySem.W.codeIn K cdPCS "pieces" = true)
    (kPCS : PySem.W.keepIn K (.ref fPCS) = true)
    (aFIX : PySem.W.nsIn K mainGlobals "fixed_word" = some (some (.ref fFIX)))
    (lFIX : K.lookup fFIX = some ⟨ocFIX, odFIX, .func (PySem.W.fnOf "fixed_word" "fixed_word" (defArgs sFixed) (defBody sFixed) (defScope sFixed) .none kVFIX dcFIX pmFIX anFIX cdFIX ctFIX), slFIX⟩)
    (cFIX : PySem.W.codeIn K cdFIX "fixed_word" = true)
    (kFIX : PySem.W.keepIn K (.ref fFIX) = true)
    (aPAT : PySem.W.nsIn K mainGlobals "is_pattern" = some (some (.ref fPAT)))
    (lPAT : K.lookup fPAT = some ⟨ocPAT, odPAT, .func (PySem.W.fnOf "is_pattern" "is_pattern" (defArgs sIsPat) (defBody sIsPat) (defScope sIsPat) .none kVPAT dcPAT pmPAT anPAT cdPAT ctPAT), slPAT⟩)
    (cPAT : PySem.W.codeIn K cdPAT "is_pattern" = true)
    (kPAT : PySem.W.keepIn K (.ref fPAT) = true)
    (aVAR : PySem.W.nsIn K mainGlobals "variables" = some (some (.ref fVAR)))
    (lVAR : K.lookup fVAR = some ⟨ocVAR, odVAR, .func (PySem.W.fnOf "variables" "variables" (defArgs sVars) (defBody sVars) (defScope sVars) .none kVVAR dcVAR pmVAR anVAR cdVAR ctVAR), slVAR⟩)
    (cVAR : PySem.W.codeIn K cdVAR "variables" = true)
    (kVAR : PySem.W.keepIn K (.ref fVAR) = true)
    (aDOF : PySem.W.nsIn K mainGlobals "depths_of" = some (some (.ref fDOF)))
    (lDOF : K.lookup fDOF = some ⟨ocDOF, odDOF, .func (PySem.W.fnOf "depths_of" "depths_of" (defArgs sDepthsOf) (defBody sDepthsOf) (defScope sDepthsOf) .none kVDOF dcDOF pmDOF anDOF cdDOF ctDOF), slDOF⟩)
    (cDOF : PySem.W.codeIn K cdDOF "depths_of" = true)
    (kDOF : PySem.W.keepIn K (.ref fDOF) = true)
    (aVWO : PySem.W.nsIn K mainGlobals "variable_words" = some (some (.ref fVWO)))
    (lVWO : K.lookup fVWO = some ⟨ocVWO, odVWO, .func (PySem.W.fnOf "variable_words" "variable_words" (defArgs sVarWords) (defBody sVarWords) (defScope sVarWords) .none kVVWO dcVWO pmVWO anVWO cdVWO ctVWO), slVWO⟩)
    (cVWO : PySem.W.codeIn K cdVWO "variable_words" = true)
    (kVWO : PySem.W.keepIn K (.ref fVWO) = true)
    (aCEL : PySem.W.nsIn K mainGlobals "_law_cell_at" = some (some (.ref fCEL)))
    (lCEL : K.lookup fCEL = some ⟨ocCEL, odCEL, .func (PySem.W.fnOf "_law_cell_at" "_law_cell_at" (defArgs sCell) (defBody sCell) (defScope sCell) .none kVCEL dcCEL pmCEL anCEL cdCEL ctCEL), slCEL⟩)
    (cCEL : PySem.W.codeIn K cdCEL "_law_cell_at" = true)
    (kCEL : PySem.W.keepIn K (.ref fCEL) = true)
    (aNAM : PySem.W.nsIn K mainGlobals "_law_name" = some (some (.ref fNAM)))
    (lNAM : K.lookup fNAM = some ⟨ocNAM, odNAM, .func (PySem.W.fnOf "_law_name" "_law_name" (defArgs sName) (defBody sName) (defScope sName) .none kVNAM dcNAM pmNAM anNAM cdNAM ctNAM), slNAM⟩)
    (cNAM : PySem.W.codeIn K cdNAM "_law_name" = true)
    (kNAM : PySem.W.keepIn K (.ref fNAM) = true)
    (aLEA : PySem.W.nsIn K mainGlobals "_law_leaf" = some (some (.ref fLEA)))
    (lLEA : K.lookup fLEA = some ⟨ocLEA, odLEA, .func (PySem.W.fnOf "_law_leaf" "_law_leaf" (defArgs sLeaf) (defBody sLeaf) (defScope sLeaf) .none kVLEA dcLEA pmLEA anLEA cdLEA ctLEA), slLEA⟩)
    (cLEA : PySem.W.codeIn K cdLEA "_law_leaf" = true)
    (kLEA : PySem.W.keepIn K (.ref fLEA) = true)
    (aLPC : PySem.W.nsIn K mainGlobals "_law_pieces" = some (some (.ref fLPC)))
    (lLPC : K.lookup fLPC = some ⟨ocLPC, odLPC, .func (PySem.W.fnOf "_law_pieces" "_law_pieces" (defArgs sLPieces) (defBody sLPieces) (defScope sLPieces) .none kVLPC dcLPC pmLPC anLPC cdLPC ctLPC), slLPC⟩)
    (cLPC : PySem.W.codeIn K cdLPC "_law_pieces" = true)
    (kLPC : PySem.W.keepIn K (.ref fLPC) = true)
    (aMOD : PySem.W.nsIn K mainGlobals "_law_model" = some (some (.ref fMOD)))
    (lMOD : K.lookup fMOD = some ⟨ocMOD, odMOD, .func (PySem.W.fnOf "_law_model" "_law_model" (defArgs sModel) (defBody sModel) (defScope sModel) .none kVMOD dcMOD pmMOD anMOD cdMOD ctMOD), slMOD⟩)
    (cMOD : PySem.W.codeIn K cdMOD "_law_model" = true)
    (kMOD : PySem.W.keepIn K (.ref fMOD) = true)
    (aROW : PySem.W.nsIn K mainGlobals "_law_row" = some (some (.ref fROW)))
    (lROW : K.lookup fROW = some ⟨ocROW, odROW, .func (PySem.W.fnOf "_law_row" "_law_row" (defArgs sRow) (defBody sRow) (defScope sRow) .none kVROW dcROW pmROW anROW cdROW ctROW), slROW⟩)
    (cROW : PySem.W.codeIn K cdROW "_law_row" = true)
    (kROW : PySem.W.keepIn K (.ref fROW) = true)
    (aTRE : PySem.W.nsIn K mainGlobals "_law_tree" = some (some (.ref fTRE)))
    (lTRE : K.lookup fTRE = some ⟨ocTRE, odTRE, .func (PySem.W.fnOf "_law_tree" "_law_tree" (defArgs sTree) (defBody sTree) (defScope sTree) .none kVTRE dcTRE pmTRE anTRE cdTRE ctTRE), slTRE⟩)
    (cTRE : PySem.W.codeIn K cdTRE "_law_tree" = true)
    (kTRE : PySem.W.keepIn K (.ref fTRE) = true)
    (aALI : PySem.W.nsIn K mainGlobals "_law_alike" = some (some (.ref fALI)))
    (lALI : K.lookup fALI = some ⟨ocALI, odALI, .func (PySem.W.fnOf "_law_alike" "_law_alike" (defArgs sAlike) (defBody sAlike) (defScope sAlike) .none kVALI dcALI pmALI anALI cdALI ctALI), slALI⟩)
    (cALI : PySem.W.codeIn K cdALI "_law_alike" = true)
    (kALI : PySem.W.keepIn K (.ref fALI) = true)
    (aDEP : PySem.W.nsIn K mainGlobals "_law_depths" = some (some (.ref fDEP)))
    (lDEP : K.lookup fDEP = some ⟨ocDEP, odDEP, .func (PySem.W.fnOf "_law_depths" "_law_depths" (defArgs sDepths) (defBody sDepths) (defScope sDepths) .none kVDEP dcDEP pmDEP anDEP cdDEP ctDEP), slDEP⟩)
    (cDEP : PySem.W.codeIn K cdDEP "_law_depths" = true)
    (kDEP : PySem.W.keepIn K (.ref fDEP) = true)
    (aTOL : PySem.W.nsIn K mainGlobals "_law_told" = some (some (.ref fTOL)))
    (lTOL : K.lookup fTOL = some ⟨ocTOL, odTOL, .func (PySem.W.fnOf "_law_told" "_law_told" (defArgs sTold) (defBody sTold) (defScope sTold) .none kVTOL dcTOL pmTOL anTOL cdTOL ctTOL), slTOL⟩)
    (cTOL : PySem.W.codeIn K cdTOL "_law_told" = true)
    (kTOL : PySem.W.keepIn K (.ref fTOL) = true)
    (aFXT : PySem.W.nsIn K mainGlobals "_law_fixed_told" = some (some (.ref fFXT)))
    (lFXT : K.lookup fFXT = some ⟨ocFXT, odFXT, .func (PySem.W.fnOf "_law_fixed_told" "_law_fixed_told" (defArgs sFixT) (defBody sFixT) (defScope sFixT) .none kVFXT dcFXT pmFXT anFXT cdFXT ctFXT), slFXT⟩)
    (cFXT : PySem.W.codeIn K cdFXT "_law_fixed_told" = true)
    (kFXT : PySem.W.keepIn K (.ref fFXT) = true)
    (aODD : PySem.W.nsIn K mainGlobals "_law_odd" = some (some (.ref fODD)))
    (lODD : K.lookup fODD = some ⟨ocODD, odODD, .func (PySem.W.fnOf "_law_odd" "_law_odd" (defArgs sOdd) (defBody sOdd) (defScope sOdd) .none kVODD dcODD pmODD anODD cdODD ctODD), slODD⟩)
    (cODD : PySem.W.codeIn K cdODD "_law_odd" = true)
    (kODD : PySem.W.keepIn K (.ref fODD) = true)
    (aZ : PySem.W.nsIn K mainGlobals "law" = some (some (.ref fZ)))
    (lZ : K.lookup fZ = some ⟨ocZ, odZ, .func (PySem.W.fnOf "law" "law" (defArgs sLaw) (defBody sLaw) (defScope sLaw) .none kVZ dcZ pmZ anZ cdZ ctZ), slZ⟩)
    (cZ : PySem.W.codeIn K cdZ "law" = true)
    (kZ : PySem.W.keepIn K (.ref fZ) = true)
    (aWI : PySem.W.findIn K (.ref gW) "__init__" = some (some (.ref fWI)))
    (lWI : K.lookup fWI = some ⟨ocWI, odWI, .func (PySem.W.fnOf "__init__" "Word.__init__" (defArgs sWI) (defBody sWI) (defScope sWI) (.ref T0) kVWI dcWI pmWI anWI cdWI ctWI), slWI⟩)
    (cWI : PySem.W.codeIn K cdWI "Word.__init__" = true)
    (kWI : PySem.W.keepIn K (.ref fWI) = true)
    (iWI : PySem.W.isFn K (.ref fWI) = true)
    (lT0 : K.lookup T0 = some ⟨ocT0, odT0, .seq #[.int 0 t0] nT0, slT0⟩)
    (aTI : PySem.W.findIn K (.ref gT) "__init__" = some (some (.ref fTI)))
    (lTI : K.lookup fTI = some ⟨ocTI, odTI, .func (PySem.W.fnOf "__init__" "Tree.__init__" (defArgs sTI) (defBody sTI) (defScope sTI) .none kVTI dcTI pmTI anTI cdTI ctTI), slTI⟩)
    (cTI : PySem.W.codeIn K cdTI "Tree.__init__" = true)
    (kTI : PySem.W.keepIn K (.ref fTI) = true)
    (iTI : PySem.W.isFn K (.ref fTI) = true)
    (aFI : PySem.W.findIn K (.ref gF) "__init__" = some (some (.ref fFI)))
    (lFI : K.lookup fFI = some ⟨ocFI, odFI, .func (PySem.W.fnOf "__init__" "Figure.__init__" (defArgs sFI) (defBody sFI) (defScope sFI) .none kVFI dcFI pmFI anFI cdFI ctFI), slFI⟩)
    (cFI : PySem.W.codeIn K cdFI "Figure.__init__" = true)
    (kFI : PySem.W.keepIn K (.ref fFI) = true)
    (iFI : PySem.W.isFn K (.ref fFI) = true)
    (aRI : PySem.W.findIn K (.ref gR) "__init__" = some (some (.ref fRI)))
    (lRI : K.lookup fRI = some ⟨ocRI, odRI, .func (PySem.W.fnOf "__init__" "Row.__init__" (defArgs sRI) (defBody sRI) (defScope sRI) .none kVRI dcRI pmRI anRI cdRI ctRI), slRI⟩)
    (cRI : PySem.W.codeIn K cdRI "Row.__init__" = true)
    (kRI : PySem.W.keepIn K (.ref fRI) = true)
    (iRI : PySem.W.isFn K (.ref fRI) = true)
    (mkW : PySem.W.makesIn K gW = true)
    (kcW : PySem.W.keepIn K (.ref gW) = true)
    (pgW : PySem.W.plainGet K gW Str.empty = true)
    (hdW : PySem.W.hasDictIn K gW = true)
    (poW : PySem.W.plainOver K gW = true)
    (saW : PySem.W.findIn K (.ref gW) "__setattr__" = some (some (.builtin "object.__setattr__")))
    (nAW : PySem.W.findIn K (.ref gW) "at" = some none)
    (nMW : PySem.W.findIn K (.ref gW) "many" = some none)
    (nDW : PySem.W.findIn K (.ref gW) "deep" = some none)
    (haW : PySem.W.findIn K (.ref gW) "__class__" = some (some (.builtin "object.__class__")))
    (hmW : PySem.W.mroIn K gW (.type "object") = some true)
    (mkF : PySem.W.makesIn K gF = true)
    (kcF : PySem.W.keepIn K (.ref gF) = true)
    (pgF : PySem.W.plainGet K gF Str.empty = true)
    (hdF : PySem.W.hasDictIn K gF = true)
    (poF : PySem.W.plainOver K gF = true)
    (saF : PySem.W.findIn K (.ref gF) "__setattr__" = some (some (.builtin "object.__setattr__")))
    (nAF : PySem.W.findIn K (.ref gF) "at" = some none)
    (nMF : PySem.W.findIn K (.ref gF) "many" = some none)
    (nDF : PySem.W.findIn K (.ref gF) "deep" = some none)
    (haF : PySem.W.findIn K (.ref gF) "__class__" = some (some (.builtin "object.__class__")))
    (hmF : PySem.W.mroIn K gF (.type "object") = some true)
    (mkR : PySem.W.makesIn K gR = true)
    (kcR : PySem.W.keepIn K (.ref gR) = true)
    (pgR : PySem.W.plainGet K gR Str.empty = true)
    (hdR : PySem.W.hasDictIn K gR = true)
    (poR : PySem.W.plainOver K gR = true)
    (saR : PySem.W.findIn K (.ref gR) "__setattr__" = some (some (.builtin "object.__setattr__")))
    (nAR : PySem.W.findIn K (.ref gR) "at" = some none)
    (nMR : PySem.W.findIn K (.ref gR) "many" = some none)
    (nDR : PySem.W.findIn K (.ref gR) "deep" = some none)
    (haR : PySem.W.findIn K (.ref gR) "__class__" = some (some (.builtin "object.__class__")))
    (hmR : PySem.W.mroIn K gR (.type "object") = some true)
    (nWn : PySem.W.findIn K (.ref gW) "name" = some none)
    (nWb : PySem.W.findIn K (.ref gW) "bits" = some none)
    (nFn : PySem.W.findIn K (.ref gF) "number" = some none)
    (nRp : PySem.W.findIn K (.ref gR) "parts" = some none)
    (gtT : PySem.W.specialIn K (.ref gT) "__getattribute__" = some (some (.builtin "type.__getattribute__")))
    (rdT : PySem.W.readsIn K gT (.type "type") = true)
    (fcT : PySem.W.findCls K (.ref gT) (.type "type") "__init__" = some (.val (.ref fTI)))
    (hn : PySem.W.specialIn K (.builtin "object.__class__") "__get__" = some (some (.builtin "getset_descriptor.__get__")))
    (htk : PySem.W.takesIn K (.builtin "object.__class__") = some true)
    (iWW : PySem.W.kitOne K (.ref gW) (.ref gW) = some true)
    (iFW : PySem.W.kitOne K (.ref gF) (.ref gW) = some false)
    (iRW : PySem.W.kitOne K (.ref gR) (.ref gW) = some false)
    (iWF : PySem.W.kitOne K (.ref gW) (.ref gF) = some false)
    (iFF : PySem.W.kitOne K (.ref gF) (.ref gF) = some true)
    (iRF : PySem.W.kitOne K (.ref gR) (.ref gF) = some false)
    (iWR : PySem.W.kitOne K (.ref gW) (.ref gR) = some false)
    (iFR : PySem.W.kitOne K (.ref gF) (.ref gR) = some false)
    (iRR : PySem.W.kitOne K (.ref gR) (.ref gR) = some true)
    (iWT : PySem.W.kitOne K (.ref gW) (.ref gT) = some true)
    (iFT : PySem.W.kitOne K (.ref gF) (.ref gT) = some true)
    (iRT : PySem.W.kitOne K (.ref gR) (.ref gT) = some true)
    (idd : PySem.W.kitOne K (.type "dict") (.type "dict") = some true)
    (itt : PySem.W.kitOne K (.type "tuple") (.type "tuple") = some true)
    (iii : PySem.W.kitOne K (.type "int") (.type "int") = some true)
    (iib : PySem.W.kitOne K (.type "int") (.type "bool") = some false)
    (qNN : PySem.W.nsIn K mainGlobals "NO_NAMES" = some (some (.ref nn)))
    (lN0 : K.lookup nn = some ⟨.type "tuple", odNN, .seq #[.str "*" tk1, .str "=" tk2] nNN, slNN⟩)
    (z0 : PySem.W.nsIn K mainGlobals "len" = some none)
    (z1 : PySem.W.nsIn K mainGlobals "isinstance" = some none)
    (z2 : PySem.W.nsIn K mainGlobals "enumerate" = some none)
    (z3 : PySem.W.nsIn K mainGlobals "all" = some none)
    (z4 : PySem.W.nsIn K mainGlobals "zip" = some none)
    (z5 : PySem.W.nsIn K mainGlobals "tuple" = some none)
    (z6 : PySem.W.nsIn K mainGlobals "bool" = some none)
    (z7 : PySem.W.nsIn K mainGlobals "dict" = some none)
    (z8 : PySem.W.nsIn K mainGlobals "int" = some none)
    (z9 : PySem.W.nsIn K mainGlobals "min" = some none)
    (z10 : PySem.W.nsIn K mainGlobals "max" = some none)
    (z11 : PySem.W.nsIn K mainGlobals "sum" = some none)
    (z12 : PySem.W.nsIn K mainGlobals "list" = some none)
    : ∃ fd : FuncData, (∀ (s : Shared) (v : Value), BindsTo s fd ⟨[v], []⟩ [("_law_script", v)]) ∧ ∀ base : Heap, K.In base → base.Ns mainGlobals mg → FnOk l.prog w K mg base CX0 143 fa fd ["_law_script"] (spLaw K) := by
  have e := hfa.symm.trans (PySem.W.mg_of X G aZ)
  cases e
  have TX : Txt K mg nn := ⟨PySem.W.mg_none_of X G z0, PySem.W.mg_none_of X G z1, PySem.W.mg_none_of X G z2, PySem.W.mg_none_of X G z3, PySem.W.mg_none_of X G z4, PySem.W.mg_none_of X G z5, PySem.W.mg_none_of X G z6, PySem.W.mg_none_of X G z7, PySem.W.mg_none_of X G z8, PySem.W.mg_none_of X G z9, PySem.W.mg_none_of X G z10, PySem.W.mg_of X G qNN, fun H => .inr ⟨_, _, _, lN0, rfl, rfl, (by show 2 ≤ sizeLine; rw [sizeLine_eq]; decide), .cons ⟨_, rfl⟩ (.cons ⟨_, rfl⟩ .nil)⟩⟩
  have KI : Kis K := ⟨idd, itt, iii, iib⟩
  have T : Tcs K mg ⟨gT, gW, gF, gR⟩ := ⟨⟨⟨pgW, hdW, poW, saW⟩, nAW, nMW, nDW, haW, hmW⟩, ⟨⟨pgF, hdF, poF, saF⟩, nAF, nMF, nDF, haF, hmF⟩, ⟨⟨pgR, hdR, poR, saR⟩, nAR, nMR, nDR, haR, hmR⟩, nWn, nWb, nFn, nRp, PySem.W.mg_of X G qT, PySem.W.mg_of X G qW, PySem.W.mg_of X G qF, PySem.W.mg_of X G qR, hn, htk, iWW, iFW, iRW, iWF, iFF, iRF, iWR, iFR, iRR, iWT, iFT, iRT, PySem.W.mg_none_of X G z12, PySem.W.mg_none_of X G z10, PySem.W.mg_none_of X G z11⟩
  have FISN := fun_mk (st := sIsName) lISN cISN kISN
  have bISN := FISN.binds (ps := ["tree"]) fun _ _ _ _ _ _ us hl => by obtain ⟨_, rfl⟩ := len1 hl; rfl
  have mISN := PySem.W.mg_of X G aISN
  have FKEY := fun_mk (st := sKeyOf) lKEY cKEY kKEY
  have bKEY := FKEY.binds (ps := ["word"]) fun _ _ _ _ _ _ us hl => by obtain ⟨_, rfl⟩ := len1 hl; rfl
  have mKEY := PySem.W.mg_of X G aKEY
  have FSGN := fun_mk (st := sSign) lSGN cSGN kSGN
  have bSGN := FSGN.binds (ps := ["tree", "name"]) fun _ _ _ _ _ _ us hl => by obtain ⟨_, _, rfl⟩ := len2 hl; rfl
  have mSGN := PySem.W.mg_of X G aSGN
  have FPCS := fun_mk (st := sPieces) lPCS cPCS kPCS
  have bPCS := FPCS.binds (ps := ["row"]) fun _ _ _ _ _ _ us hl => by obtain ⟨_, rfl⟩ := len1 hl; rfl
  have mPCS := PySem.W.mg_of X G aPCS
  have FFIX := fun_mk (st := sFixed) lFIX cFIX kFIX
  have bFIX := FFIX.binds (ps := ["tree"]) fun _ _ _ _ _ _ us hl => by obtain ⟨_, rfl⟩ := len1 hl; rfl
  have mFIX := PySem.W.mg_of X G aFIX
  have FPAT := fun_mk (st := sIsPat) lPAT cPAT kPAT
  have bPAT := FPAT.binds (ps := ["tree"]) fun _ _ _ _ _ _ us hl => by obtain ⟨_, rfl⟩ := len1 hl; rfl
  have mPAT := PySem.W.mg_of X G aPAT
  have FVAR := fun_mk (st := sVars) lVAR cVAR kVAR
  have bVAR := FVAR.binds (ps := ["pattern"]) fun _ _ _ _ _ _ us hl => by obtain ⟨_, rfl⟩ := len1 hl; rfl
  have mVAR := PySem.W.mg_of X G aVAR
  have FDOF := fun_mk (st := sDepthsOf) lDOF cDOF kDOF
  have bDOF := FDOF.binds (ps := ["pairs"]) fun _ _ _ _ _ _ us hl => by obtain ⟨_, rfl⟩ := len1 hl; rfl
  have mDOF := PySem.W.mg_of X G aDOF
  have FVWO := fun_mk (st := sVarWords) lVWO cVWO kVWO
  have bVWO := FVWO.binds (ps := ["pattern", "depth"]) fun _ _ _ _ _ _ us hl => by obtain ⟨_, _, rfl⟩ := len2 hl; rfl
  have mVWO := PySem.W.mg_of X G aVWO
  have FCEL := fun_mk (st := sCell) lCEL cCEL kCEL
  have bCEL := FCEL.binds (ps := ["_law_script", "_law_k"]) fun _ _ _ _ _ _ us hl => by obtain ⟨_, _, rfl⟩ := len2 hl; rfl
  have mCEL := PySem.W.mg_of X G aCEL
  have FNAM := fun_mk (st := sName) lNAM cNAM kNAM
  have bNAM := FNAM.binds (ps := ["_law_cell"]) fun _ _ _ _ _ _ us hl => by obtain ⟨_, rfl⟩ := len1 hl; rfl
  have mNAM := PySem.W.mg_of X G aNAM
  have FLEA := fun_mk (st := sLeaf) lLEA cLEA kLEA
  have bLEA := FLEA.binds (ps := ["_law_cell", "_law_k", "_law_used"]) fun _ _ _ _ _ _ us hl => by obtain ⟨_, _, _, rfl⟩ := len3 hl; rfl
  have mLEA := PySem.W.mg_of X G aLEA
  have FLPC := fun_mk (st := sLPieces) lLPC cLPC kLPC
  have bLPC := FLPC.binds (ps := ["_law_cells", "_law_deepest"]) fun _ _ _ _ _ _ us hl => by obtain ⟨_, _, rfl⟩ := len2 hl; rfl
  have mLPC := PySem.W.mg_of X G aLPC
  have FMOD := fun_mk (st := sModel) lMOD cMOD kMOD
  have bMOD := FMOD.binds (ps := ["_law_piece"]) fun _ _ _ _ _ _ us hl => by obtain ⟨_, rfl⟩ := len1 hl; rfl
  have mMOD := PySem.W.mg_of X G aMOD
  have FROW := fun_mk (st := sRow) lROW cROW kROW
  have bROW := FROW.binds (ps := ["_law_inner", "_law_star", "_law_at"]) fun _ _ _ _ _ _ us hl => by obtain ⟨_, _, _, rfl⟩ := len3 hl; rfl
  have mROW := PySem.W.mg_of X G aROW
  have FTRE := fun_mk (st := sTree) lTRE cTRE kTRE
  have bTRE := FTRE.binds (ps := ["_law_model_here"]) fun _ _ _ _ _ _ us hl => by obtain ⟨_, rfl⟩ := len1 hl; rfl
  have mTRE := PySem.W.mg_of X G aTRE
  have FALI := fun_mk (st := sAlike) lALI cALI kALI
  have bALI := FALI.binds (ps := ["_law_found", "_law_model_here"]) fun _ _ _ _ _ _ us hl => by obtain ⟨_, _, rfl⟩ := len2 hl; rfl
  have mALI := PySem.W.mg_of X G aALI
  have FDEP := fun_mk (st := sDepths) lDEP cDEP kDEP
  have bDEP := FDEP.binds (ps := ["_law_inner", "_law_star", "_law_depth", "_law_found"]) fun _ _ _ _ _ _ us hl => by obtain ⟨_, _, _, _, rfl⟩ := len4 hl; rfl
  have mDEP := PySem.W.mg_of X G aDEP
  have FTOL := fun_mk (st := sTold) lTOL cTOL kTOL
  have bTOL := FTOL.binds (ps := ["_law_found", "_law_due"]) fun _ _ _ _ _ _ us hl => by obtain ⟨_, _, rfl⟩ := len2 hl; rfl
  have mTOL := PySem.W.mg_of X G aTOL
  have FFXT := fun_mk (st := sFixT) lFXT cFXT kFXT
  have bFXT := FFXT.binds (ps := ["_law_inner", "_law_row_here"]) fun _ _ _ _ _ _ us hl => by obtain ⟨_, _, rfl⟩ := len2 hl; rfl
  have mFXT := PySem.W.mg_of X G aFXT
  have FODD := fun_mk (st := sOdd) lODD cODD kODD
  have bODD := FODD.binds (ps := ["_law_cell"]) fun _ _ _ _ _ _ us hl => by obtain ⟨_, rfl⟩ := len1 hl; rfl
  have mODD := PySem.W.mg_of X G aODD
  have FZ := fun_mk (st := sLaw) lZ cZ kZ
  have FTI := fun_mk (st := sTI) lTI cTI kTI
  have bTI := FTI.binds (ps := ["self", "at", "many", "deep"]) fun _ _ _ _ _ _ us hl => by obtain ⟨_, _, _, _, rfl⟩ := len4 hl; rfl
  have FFI := fun_mk (st := sFI) lFI cFI kFI
  have bFI := FFI.binds (ps := ["self", "number", "at"]) fun _ _ _ _ _ _ us hl => by obtain ⟨_, _, _, rfl⟩ := len3 hl; rfl
  have FRI := fun_mk (st := sRI) lRI cRI kRI
  have bRI := FRI.binds (ps := ["self", "parts", "at"]) fun _ _ _ _ _ _ us hl => by obtain ⟨_, _, _, rfl⟩ := len3 hl; rfl
  have FWI := fund_mk (st := sWI) lWI cWI kWI
  have bWI : Binds K (PySem.W.fnOf "__init__" "Word.__init__" (defArgs sWI) (defBody sWI) (defScope sWI) (.ref T0) kVWI dcWI pmWI anWI cdWI ctWI) ["self", "name", "at", "bits"] [] := fun s us hK hl => by
    obtain ⟨_, _, _, _, rfl⟩ := len4 (show us.length = 4 by simpa using hl)
    exact PySem.W.binds_K hK rfl lT0 rfl rfl rfl
  have cT' : ClsFn K (C4.mk gT gW gF gR).T "__init__" fTI := ⟨gtT, rdT, fcT, kTI⟩
  refine ⟨PySem.W.fnOf "law" "law" (defArgs sLaw) (defBody sLaw) (defScope sLaw) .none kVZ dcZ pmZ anZ cdZ ctZ, fun s v => .of_eq rfl, fun base _ _ => ?_⟩
  have GWI : FnOk l.prog w K mg base CX0 2 fWI _ ["self", "name", "at", "bits"] (spWI ⟨gT, gW, gF, gR⟩) := ok_wi FWI T FTI bTI cT'
  have GFI : FnOk l.prog w K mg base CX0 2 fFI _ ["self", "number", "at"] (spFI ⟨gT, gW, gF, gR⟩) := ok_fi FFI T FTI bTI cT'
  have GRI : FnOk l.prog w K mg base CX0 2 fRI _ ["self", "parts", "at"] (spRI ⟨gT, gW, gF, gR⟩) := ok_ri FRI T FTI bTI cT'
  have MW : Mk K gW fWI := ⟨mkW, aWI, iWI, kcW⟩
  have MF : Mk K gF fFI := ⟨mkF, aFI, iFI, kcF⟩
  have MR : Mk K gR fRI := ⟨mkR, aRI, iRI, kcR⟩
  have M : Mks K ⟨gT, gW, gF, gR⟩ fWI fFI fRI := ⟨MW, MF, MR⟩
  have GFX : FnOk l.prog w K mg base CX0 2 fFIX _ ["tree"] (spFixed ⟨gT, gW, gF, gR⟩) := ok_fixed FFIX T TX FSGN bSGN mSGN FISN bISN mISN
  have GPT : FnOk l.prog w K mg base CX0 3 fPAT _ ["tree"] (spIsPat ⟨gT, gW, gF, gR⟩) := ok_isPat FPAT T TX kFIX bFIX mFIX GFX
  have GPC : FnOk l.prog w K mg base CX0 2 fPCS _ ["row"] (spPieces ⟨gT, gW, gF, gR⟩) := ok_pieces FPCS T TX FSGN bSGN mSGN
  have GVW : FnOk l.prog w K mg base CX0 75 fVWO _ ["pattern", "depth"] (spVW ⟨gT, gW, gF, gR⟩ 71) := ok_vw FVWO kPCS bPCS mPCS GPC kISN bISN mISN (ok_isName FISN T TX) kPAT bPAT mPAT GPT bVWO mVWO 71
  have GDO : FnOk l.prog w K mg base CX0 2 fDOF _ ["pairs"] (spDO ⟨gT, gW, gF, gR⟩) := ok_depthsOf FDOF TX kKEY bKEY mKEY (ok_keyOf FKEY T)
  have GVA : FnOk l.prog w K mg base CX0 76 fVAR _ ["pattern"] (spVars ⟨gT, gW, gF, gR⟩ 71) := ok_vars FVAR kVWO bVWO mVWO GVW kDOF bDOF mDOF GDO
  have GNA : FnOk l.prog w K mg base CX0 1 fNAM _ ["_law_cell"] spName := ok_name FNAM
  have GLE : FnOk l.prog w K mg base CX0 2 fLEA _ ["_law_cell", "_law_k", "_law_used"] spLeaf := ok_leaf FLEA kNAM bNAM mNAM GNA
  have GLP : FnOk l.prog w K mg base CX0 3 fLPC _ ["_law_cells", "_law_deepest"] (spLP K) := ok_lp FLPC TX kLEA bLEA mLEA GLE
  have GMO : FnOk l.prog w K mg base CX0 141 fMOD _ ["_law_piece"] (spModel 70) := ok_model FMOD FROW TX bMOD bROW mMOD mROW 70
  have GRO : FnOk l.prog w K mg base CX0 142 fROW _ pRw (spRow 70) := ok_row FROW TX kMOD bMOD mMOD GMO
  have GTR : FnOk l.prog w K mg base CX0 75 fTRE _ ["_law_model_here"] (spTree ⟨gT, gW, gF, gR⟩ 71) := ok_tree FTRE T M GWI bWI GFI bFI GRI bRI bTRE mTRE 71
  have GDE : FnOk l.prog w K mg base CX0 71 fDEP _ pDp (spDepths 70) := ok_depths FDEP TX bDEP mDEP 70
  have GTO : FnOk l.prog w K mg base CX0 1 fTOL _ ["_law_found", "_law_due"] spTold := ok_told FTOL TX KI
  have GFT : FnOk l.prog w K mg base CX0 73 fFXT _ pFt (spFT ⟨gT, gW, gF, gR⟩ 70) := ok_ft FFXT T TX kFIX bFIX mFIX GFX kALI bALI mALI (ok_alike FALI T TX bALI mALI 0) bFXT mFXT 70
  have GOD : FnOk l.prog w K mg base CX0 2 fODD _ ["_law_cell"] spOdd := ok_odd FODD kNAM bNAM mNAM GNA
  exact ok_law FZ TX kLPC bLPC mLPC GLP kCEL bCEL mCEL (ok_cell FCEL TX) kROW bROW mROW GRO kTRE bTRE mTRE GTR kDEP bDEP mDEP GDE kVAR bVAR mVAR GVA kTOL bTOL mTOL GTO kFXT bFXT mFXT GFT kFIX bFIX mFIX GFX kODD bODD mODD GOD kALI bALI mALI (ok_alike FALI T TX bALI mALI 71)
theorem walk {l : PySem.W.OpenLaw} {q : Program} {loose : List Str} {XP : (Str → Option Value) → Heap → Prop} {YP : World → Heap → Prop} {d : DefRec} {K : Params → PySem.W.Frag} (hn : l.most = some 63) (hdf : d.params.defaults = [])
    (hY : ∀ (w : World) (h : Heap), YP w h → (K w.params).In h)
    (F : ∀ (w : World) (mg : Str → Option Value) (fa : Addr) (h : Heap), (K w.params).In h → h.Ns mainGlobals mg → mg d.name = some (.ref fa) →
      ∃ fd : FuncData, (∀ (s : Shared) (u : Value), BindsTo s fd ⟨[u], []⟩ [("_law_script", u)]) ∧ ∀ base : Heap, (K w.params).In base → base.Ns mainGlobals mg → FnOk l.prog w (K w.params) mg base CX0 143 fa fd ["_law_script"] (spLaw (K w.params))) :
    PySem.W.WalkO q loose XP YP l.row.toRowW d [] (fun f vs => PySem.call f vs) :=
  L2.walk_of (n := 63) (k := 143) (x := "_law_script") (CX := fun _ => CX0) (sp := fun w => spLaw (K w.params)) hn (by decide) hdf ⟨rfl, by decide, by decide⟩ hY F (fun _ _ a ns hl _ hS => ⟨a, ns, rfl, hS, hl, fun _ => rfl⟩) fun _ _ _ _ _ z => z
end K32
open PySem PySem.W PyProof.Rows
set_option maxRecDepth 100000 in
set_option maxHeartbeats 0 in
theorem PySem.Challenge.cw_macrohouse_k32_variables_holds : PySem.Challenge.rw_macrohouse_k32_variables.Holds := by
  w_on; o_law; k_head; (case hw => w_witness2)
  k_fill
  refine K32.walk (l := PySem.Challenge.rw_macrohouse_k32_variables) rfl rfl (fun w h Y => PySem.W.kIn_of Y) ?F
  case F =>
    intro w mg fa h KX G hmg
    refine' K32.all_mk KX G hmg ?qT ?qW ?qF ?qR ?aISN ?lISN ?cISN ?kISN ?aKEY ?lKEY ?cKEY ?kKEY ?aSGN ?lSGN ?cSGN ?kSGN ?aPCS ?lPCS ?cPCS ?kPCS ?aFIX ?lFIX ?cFIX ?kFIX ?aPAT ?lPAT ?cPAT ?kPAT ?aVAR ?lVAR ?cVAR ?kVAR ?aDOF ?lDOF ?cDOF ?kDOF ?aVWO ?lVWO ?cVWO ?kVWO ?aCEL ?lCEL ?cCEL ?kCEL ?aNAM ?lNAM ?cNAM ?kNAM ?aLEA ?lLEA ?cLEA ?kLEA ?aLPC ?lLPC ?cLPC ?kLPC ?aMOD ?lMOD ?cMOD ?kMOD ?aROW ?lROW ?cROW ?kROW ?aTRE ?lTRE ?cTRE ?kTRE ?aALI ?lALI ?cALI ?kALI ?aDEP ?lDEP ?cDEP ?kDEP ?aTOL ?lTOL ?cTOL ?kTOL ?aFXT ?lFXT ?cFXT ?kFXT ?aODD ?lODD ?cODD ?kODD ?aZ ?lZ ?cZ ?kZ ?aWI ?lWI ?cWI ?kWI ?iWI ?lT0 ?aTI ?lTI ?cTI ?kTI ?iTI ?aFI ?lFI ?cFI ?kFI ?iFI ?aRI ?lRI ?cRI ?kRI ?iRI ?mkW ?kcW ?pgW ?hdW ?poW ?saW ?nAW ?nMW ?nDW ?haW ?hmW ?mkF ?kcF ?pgF ?hdF ?poF ?saF ?nAF ?nMF ?nDF ?haF ?hmF ?mkR ?kcR ?pgR ?hdR ?poR ?saR ?nAR ?nMR ?nDR ?haR ?hmR ?nWn ?nWb ?nFn ?nRp ?gtT ?rdT ?fcT ?hn ?htk ?iWW ?iFW ?iRW ?iWF ?iFF ?iRF ?iWR ?iFR ?iRR ?iWT ?iFT ?iRT ?idd ?itt ?iii ?iib ?qNN ?lN0 ?z0 ?z1 ?z2 ?z3 ?z4 ?z5 ?z6 ?z7 ?z8 ?z9 ?z10 ?z11 ?z12
    (case qT => k_is); (case qW => k_is); (case qF => k_is); (case qR => k_is); (case aISN => k_is); (case lISN => k_is)
    (case cISN => k_is); (case kISN => k_is); (case aKEY => k_is); (case lKEY => k_is); (case cKEY => k_is); (case kKEY => k_is)
    (case aSGN => k_is); (case lSGN => k_is); (case cSGN => k_is); (case kSGN => k_is); (case aPCS => k_is); (case lPCS => k_is)
    (case cPCS => k_is); (case kPCS => k_is); (case aFIX => k_is); (case lFIX => k_is); (case cFIX => k_is); (case kFIX => k_is)
    (case aPAT => k_is); (case lPAT => k_is); (case cPAT => k_is); (case kPAT => k_is); (case aVAR => k_is); (case lVAR => k_is)
    (case cVAR => k_is); (case kVAR => k_is); (case aDOF => k_is); (case lDOF => k_is); (case cDOF => k_is); (case kDOF => k_is)
    (case aVWO => k_is); (case lVWO => k_is); (case cVWO => k_is); (case kVWO => k_is); (case aCEL => k_is); (case lCEL => k_is)
    (case cCEL => k_is); (case kCEL => k_is); (case aNAM => k_is); (case lNAM => k_is); (case cNAM => k_is); (case kNAM => k_is)
    (case aLEA => k_is); (case lLEA => k_is); (case cLEA => k_is); (case kLEA => k_is); (case aLPC => k_is); (case lLPC => k_is)
    (case cLPC => k_is); (case kLPC => k_is); (case aMOD => k_is); (case lMOD => k_is); (case cMOD => k_is); (case kMOD => k_is)
    (case aROW => k_is); (case lROW => k_is); (case cROW => k_is); (case kROW => k_is); (case aTRE => k_is); (case lTRE => k_is)
    (case cTRE => k_is); (case kTRE => k_is); (case aALI => k_is); (case lALI => k_is); (case cALI => k_is); (case kALI => k_is)
    (case aDEP => k_is); (case lDEP => k_is); (case cDEP => k_is); (case kDEP => k_is); (case aTOL => k_is); (case lTOL => k_is)
    (case cTOL => k_is); (case kTOL => k_is); (case aFXT => k_is); (case lFXT => k_is); (case cFXT => k_is); (case kFXT => k_is)
    (case aODD => k_is); (case lODD => k_is); (case cODD => k_is); (case kODD => k_is); (case aZ => k_is); (case lZ => k_is)
    (case cZ => k_is); (case kZ => k_is); (case aWI => k_is); (case lWI => k_is); (case cWI => k_is); (case kWI => k_is)
    (case iWI => k_is); (case lT0 => k_is); (case aTI => k_is); (case lTI => k_is); (case cTI => k_is); (case kTI => k_is)
    (case iTI => k_is); (case aFI => k_is); (case lFI => k_is); (case cFI => k_is); (case kFI => k_is); (case iFI => k_is)
    (case aRI => k_is); (case lRI => k_is); (case cRI => k_is); (case kRI => k_is); (case iRI => k_is); (case mkW => k_is)
    (case kcW => k_is); (case pgW => k_is); (case hdW => k_is); (case poW => k_is); (case saW => k_is); (case nAW => k_is)
    (case nMW => k_is); (case nDW => k_is); (case haW => k_is); (case hmW => k_is); (case mkF => k_is); (case kcF => k_is)
    (case pgF => k_is); (case hdF => k_is); (case poF => k_is); (case saF => k_is); (case nAF => k_is); (case nMF => k_is)
    (case nDF => k_is); (case haF => k_is); (case hmF => k_is); (case mkR => k_is); (case kcR => k_is); (case pgR => k_is)
    (case hdR => k_is); (case poR => k_is); (case saR => k_is); (case nAR => k_is); (case nMR => k_is); (case nDR => k_is)
    (case haR => k_is); (case hmR => k_is); (case nWn => k_is); (case nWb => k_is); (case nFn => k_is); (case nRp => k_is)
    (case gtT => k_is); (case rdT => k_is); (case fcT => k_is); (case hn => k_is); (case htk => k_is); (case iWW => kit_is)
    (case iFW => kit_is); (case iRW => kit_is); (case iWF => kit_is); (case iFF => kit_is); (case iRF => kit_is); (case iWR => kit_is)
    (case iFR => kit_is); (case iRR => kit_is); (case iWT => kit_is); (case iFT => kit_is); (case iRT => kit_is); (case idd => kit_is)
    (case itt => kit_is); (case iii => kit_is); (case iib => kit_is); (case qNN => k_is); (case lN0 => k_is); (case z0 => k_is)
    (case z1 => k_is); (case z2 => k_is); (case z3 => k_is); (case z4 => k_is); (case z5 => k_is); (case z6 => k_is)
    (case z7 => k_is); (case z8 => k_is); (case z9 => k_is); (case z10 => k_is); (case z11 => k_is); (case z12 => k_is)
#print axioms PySem.Challenge.cw_macrohouse_k32_variables_holds
