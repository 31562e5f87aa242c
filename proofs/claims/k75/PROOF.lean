import PyProof.Rows.All
import PyProof.FactsAll.NoneType_1
import Wide.All
import OpenK.AllK
import Wide.FinOn
import Lean
import PyProof.EqAt
import PyProof.EqKinds
import PyProof.TupleCall
import PyProof.SetScanFacts
import PyProof.SetKind
import PyProof.DictStraight
import PyProof.DictIter
import PyProof.Seq
import PyProof.CollectWalk
import PyProof.MakeMany
import PyProof.Rows.SetFrom
import PyProof.Rows.SortShell
import PyProof.ListRange
import PyProof.SetRoads
import PyProof.NeKinds
import PyProof.SumAny
import PyProof.Rows.RuleM_int
import PyProof.ZipIter
import PyProof.EnumFor
import PyProof.EnumMake
import PyProof.EnumStmt
import PyProof.MinMaxWalk
import PyProof.Rows.CallKwBuiltin
import PyProof.DictUpdate
import PyProof.Rows.FStr
import PyProof.AutoListH
import KE.KRevIter
import PyProof.CollectIter
import PyProof.StrBlockH
import PyProof.StrWalks
import PyProof.StrLawsReplace
import PyProof.StrLawsTight
import PyProof.StrLawsChain
import PyProof.StrLawsIn
import PyProof.StrOps2
import PyProof.StrCalls6
import PyProof.ToksMono
import PyProof.Rows.StrNews
import PyProof.StrLawsJoin
import KE.KIntText
import PyProof.Rows.StrIntSpec
import PySem.Challenge.RW_macrohouse_k75_named_so_already
set_option genInjectivity false
set_option genSizeOf false
noncomputable section
set_option Elab.async false
set_option linter.all false
set_option maxRecDepth 100000
/-! THE HAND LAYER, for ints, bools, texts, own classes, LISTS and tuples (index, slices, in, append, pop ..), calls, loops. Paste it whole ahead of your own text; what your proof does not reach may be deleted. -/
namespace L2
open PySem PySem.Spec PyProof.Rows

theorem hash_none {prog : Program} {w : World} {A : Around} {E : Value → Shared → Prop} {s : Shared} {Q : Int → Shared → Prop} (h : Q 0xFCA86420 { s with toks := s.toks + 1 }) : wpAny (model prog w) A (pyHash .none) Q E s := by
  have hT : s.TypeIs .none "NoneType" := rfl
  unfold pyHash
  have hv : [Value.none].any Value.onHeap = false := rfl
  refine wpAny_bind ?_
  rw [cRoomFor, if_neg (by rw [hv]; exact Bool.false_ne_true)]
  refine wpAny_pure ?_
  refine wpAny_bind (wpAny_specialOf hT PySem.F.slot_NoneType_hash.lookup ?_)
  show wpAny _ _ (if (some (Value.builtin "NoneType.__hash__") == some Value.none) = true then _ else _) Q E s
  rw [if_neg (by rw [beq_builtin_none]; exact Bool.false_ne_true)]
  refine wpAny_bind (wpAny_specialOf hT PySem.F.slot_NoneType_hash.lookup ?_)
  show wpAny _ _ (callSpecialIfBoundUnlessNone? .none "__hash__" _ >>= _) Q E s
  refine wpAny_bind (wpAny_callSpecialIfBoundUnlessNone?_slot hT PySem.F.slot_NoneType_hash (wpAny_call_entry PySem.F.slot_NoneType_hash hT PySem.F.entry_NoneType_hash (show wpAny _ _ (retInt 0xFCA86420) _ _ s from wpAny_ret_mkInt ?_) (PySem.F.args_NoneType_hash_1 _)))
  show wpAny _ _ (if (decide (-(2 : Int) ^ 63 ≤ 0xFCA86420) && decide ((0xFCA86420 : Int) < 2 ^ 63)) = true then _ else _) Q E _
  rw [if_pos (by decide)]
  exact wpAny_pure h
theorem eqb_none {prog : Program} {w : World} {A : Around} {E : Value → Shared → Prop} {s : Shared} {Q : Bool → Shared → Prop} (h : Q true s) : wpAny (model prog w) A (eqBool .none .none) Q E s := by
  exact SeqAt.EqAt.same _ _ _ _ _ h
/-- a key: None, an int or a str -/
abbrev Key := Sum (Option Int) Str
def keyIs : Key → Value → Bool
  | .inl none, v => v == Value.none
  | .inl (some k), v => Value.isInt k v
  | .inr x, v => Value.isStrOf x v
def keyH (w : World) : Key → Int
  | .inl none => 0xFCA86420
  | .inl (some k) => hashInt k
  | .inr x => hashStr w x
theorem keyIs_shape : ∀ {k : Key} {v : Value}, keyIs k v = true → (k = Sum.inl none ∧ v = Value.none) ∨ (∃ i t, k = Sum.inl (some i) ∧ v = Value.int i t) ∨ (∃ x t, k = Sum.inr x ∧ v = Value.str x t)
  | .inl none, v, h => .inl ⟨rfl, eq_of_beq h⟩
  | .inl (some i), v, h => by
    obtain ⟨t, e⟩ := Value.isInt_shape (k := i) (v := v) h
    exact .inr (.inl ⟨i, t, rfl, e⟩)
  | .inr x, v, h => by
    obtain ⟨t, e⟩ := Value.isStrOf_shape (x := x) (v := v) h
    exact .inr (.inr ⟨x, t, rfl, e⟩)
theorem keyIs_int (i : Int) (t : Tok) : keyIs (.inl (some i)) (.int i t) = true := by simp [keyIs, Value.isInt]
theorem keyIs_str (x : Str) (t : Tok) : keyIs (.inr x) (.str x t) = true := by simp [keyIs, Value.isStrOf]
theorem keyIs_none : keyIs (.inl none) .none = true := rfl
theorem key_ne {a b : Key} (h : a ≠ b) : decide (a = b) = false := decide_eq_false h
theorem key_ll (a b : Int) : decide ((Sum.inl (some a) : Key) = Sum.inl (some b)) = (a == b) := by
  by_cases e : a = b
  · subst e; simp
  · rw [key_ne fun q => e (Option.some.inj (Sum.inl.inj q))]
    exact (beq_eq_false_iff_ne.mpr e).symm
theorem key_rr (a b : Str) : decide ((Sum.inr a : Key) = Sum.inr b) = decide (a = b) := by
  by_cases e : a = b
  · subst e; simp
  · rw [key_ne fun q => e (Sum.inr.inj q), decide_eq_false e]
def mixKind (prog : Program) (w : World) : PySem.KeyKind prog w Key where
  is := keyIs
  hash := keyH w
  inj := fun v a b ha hb => by
    rcases keyIs_shape ha with ⟨rfl, rfl⟩ | ⟨i, t, rfl, rfl⟩ | ⟨x, t, rfl, rfl⟩ <;> rcases keyIs_shape hb with ⟨rfl, e⟩ | ⟨j, u, rfl, e⟩ | ⟨y, u, rfl, e⟩
    · rfl
    · exact nomatch e
    · exact nomatch e
    · exact nomatch e
    · injection e with e1 _; rw [e1]
    · exact nomatch e
    · exact nomatch e
    · exact nomatch e
    · injection e with e1 _; rw [e1]
  byValue := fun k v h => by
    rcases keyIs_shape h with ⟨rfl, rfl⟩ | ⟨i, t, rfl, rfl⟩ | ⟨x, t, rfl, rfl⟩ <;> rfl
  pyHash := fun hv h => by
    rcases keyIs_shape hv with ⟨rfl, rfl⟩ | ⟨i, t, rfl, rfl⟩ | ⟨x, t, rfl, rfl⟩
    · exact hash_none h
    · exact wpAny_pyHash_int h
    · exact wpAny_pyHash_str h
  eqBool := fun hu hv h => by
    rcases keyIs_shape hu with ⟨rfl, rfl⟩ | ⟨i, t, rfl, rfl⟩ | ⟨x, t, rfl, rfl⟩ <;> rcases keyIs_shape hv with ⟨rfl, rfl⟩ | ⟨j, u, rfl, rfl⟩ | ⟨y, u, rfl, rfl⟩
    · exact eqb_none h
    · rw [key_ne] at h
      · exact SeqAt.EqAt.none_int j u _ _ _ _ h
      · intro q; cases q
    · rw [key_ne] at h
      · exact SeqAt.EqAt.none_str y u _ _ _ _ h
      · intro q; cases q
    · rw [key_ne] at h
      · exact SeqAt.EqAt.int_none i t _ _ _ _ h
      · intro q; cases q
    · rw [key_ll] at h; exact wpAny_eqBool_int h
    · rw [key_ne] at h
      · exact SeqAt.EqAt.int_str i t y u _ _ _ _ h
      · intro q; cases q
    · rw [key_ne] at h
      · exact SeqAt.EqAt.str_none x t _ _ _ _ h
      · intro q; cases q
    · rw [key_ne] at h
      · exact SeqAt.EqAt.str_int x t j u _ _ _ _ h
      · intro q; cases q
    · rw [key_rr] at h; exact wpAny_eqBool_str h
  «strs» := fun k x t v h => by
    rcases keyIs_shape h with ⟨rfl, e⟩ | ⟨i, u, rfl, e⟩ | ⟨y, u, rfl, e⟩
    · exact nomatch e
    · exact nomatch e
    · injection e with e1 _
      subst e1
      cases v <;> rfl

theorem mixKind_none (prog : Program) (w : World) : (mixKind prog w).is (.inl none) .none = true := keyIs_none
theorem mixKind_int (prog : Program) (w : World) (i : Int) (t : Tok) : (mixKind prog w).is (.inl (some i)) (.int i t) = true := keyIs_int i t
theorem mixKind_str (prog : Program) (w : World) (x : Str) (t : Tok) : (mixKind prog w).is (.inr x) (.str x t) = true := keyIs_str x t
end L2

namespace L2
open PySem PySem.Spec PyProof.Rows

set_option genInjectivity true in
/-- a value, without the heap -/
inductive V where
  | non | bl (b : Bool) | int (i : Int) | str (x : Str) | byt (b : Array UInt8) | flt (b : UInt64) | ref (a : Addr) | ty (n : String)
  deriving DecidableEq

def RelV : V → Value → Prop
  | .non, u => u = Value.none
  | .bl b, u => u = Value.bool b
  | .int i, u => ∃ t, u = Value.int i t
  | .str x, u => ∃ t, u = Value.str x t
  | .byt b, u => ∃ t, u = Value.bytes b t
  | .flt b, u => ∃ t, u = Value.float b t
  | .ref a, u => u = Value.ref a
  | .ty n, u => u = Value.type n

abbrev Vals : List V → List Value → Prop := Paired RelV
theorem Vals.length {xs : List V} {us : List Value} (r : Vals xs us) : xs.length = us.length := Paired.length r
theorem Vals.get : ∀ {xs : List V} {us : List Value} {i : Nat} {x : V}, Vals xs us → xs[i]? = some x → ∃ u, us[i]? = some u ∧ RelV x u
  | _, _, _, _, .nil, e => by simp at e
  | _, _, 0, _, .cons r _, e => by simp at e; subst e; exact ⟨_, rfl, r⟩
  | _, _, i + 1, x, .cons _ t, e => by
    obtain ⟨u, h1, h2⟩ := Vals.get (i := i) (x := x) t (by simpa using e)
    exact ⟨u, by simpa using h1, h2⟩
theorem Vals.set {x : V} {u : Value} (r : RelV x u) : ∀ {xs : List V} {us : List Value} (i : Nat), Vals xs us → Vals (xs.set i x) (us.set i u)
  | _, _, _, .nil => .nil
  | _, _, 0, .cons _ t => .cons r t
  | _, _, i + 1, .cons q t => .cons q (Vals.set r i t)
theorem Vals.append : ∀ {xs ys : List V} {us ws : List Value}, Vals xs us → Vals ys ws → Vals (xs ++ ys) (us ++ ws)
  | _, _, _, _, .nil, s => s
  | _, _, _, _, .cons r t, s => .cons r (Vals.append t s)
theorem Vals.take : ∀ {xs : List V} {us : List Value} (n : Nat), Vals xs us → Vals (xs.take n) (us.take n)
  | _, _, 0, _ => .nil
  | _, _, _ + 1, .nil => .nil
  | _, _, n + 1, .cons r t => .cons r (Vals.take n t)
theorem Vals.drop : ∀ {xs : List V} {us : List Value} (n : Nat), Vals xs us → Vals (xs.drop n) (us.drop n)
  | _, _, 0, r => r
  | _, _, _ + 1, .nil => .nil
  | _, _, n + 1, .cons _ t => Vals.drop n t
theorem Vals.none_of : ∀ {xs : List V} {us : List Value} {i : Nat}, Vals xs us → xs[i]? = none → us[i]? = none := fun {xs us i} r e => by
  have h1 := r.length
  have h2 : xs.length ≤ i := List.getElem?_eq_none_iff.mp e
  exact List.getElem?_eq_none_iff.mpr (by lia)

def RelO : Option V → Option Value → Prop
  | some v, some u => RelV v u
  | none, none => True
  | _, _ => False
def KV {κ : Type} : List (κ × V) → List (κ × Value) → Prop := Paired fun (p : κ × V) (q : κ × Value) => p.1 = q.1 ∧ RelV p.2 q.2

/-- a key of a dict (00_mix): an int or a text -/
def kV : Key → V
  | .inl none => .non
  | .inl (some i) => .int i
  | .inr x => .str x

/-- what stands at a tracked address -/
inductive HO where
  /-- a list -/
  | lst (xs : List V)
  /-- a tuple (never changes) -/
  | tup (xs : List V)
  /-- a dict whose keys are ints and texts; one whose keys are tuples of ints and texts (the empty one is both) -/
  | dK (kvs : List (Key × V)) | dT (kvs : List (List Key × V))
  /-- a set of ints: its members, its size -/
  | set (S : Int → Bool) (n : Nat)
  /-- an instance of the class at C, its dict at dx, its attributes -/
  | ins (C dx : Addr) (fs : List (Str × V))
  /-- the dict of the instance at x -/
  | own (x : Addr)
  /-- the dict of an exception -/
  | xd (fs : List (Str × V))
  /-- a bound method, f of x -/
  | met (f x : Addr)
  /-- a range object lo, lo + 1, .. below hi -/
  | rng (lo hi : Int)
  /-- a thing that is known to the object (the script; a dict while a loop walks it): read, never written while it is so -/
  | frz (o : Obj) (u : HO)
  /-- a code object's table -/
  | tbl (ps : Array Value)
  /-- any other thing, by what is true of its one object (a def of one's own: SetO a S n := HO.ext fun h => ..) -/
  | ext (φ : Heap → Prop)

abbrev Hp := Addr → Option HO
def upd (H : Hp) (a : Addr) (o : HO) : Hp := fun b => if b = a then some o else H b
theorem upd_same {H : Hp} {a : Addr} {o : HO} : upd H a o a = some o := by unfold upd; rw [if_pos rfl]
theorem upd_ne {H : Hp} {a b : Addr} {o : HO} (h : b ≠ a) : upd H a o b = H b := by unfold upd; rw [if_neg h]
theorem upd_upd {H : Hp} {a : Addr} {o u : HO} : upd (upd H a o) a u = upd H a u := by
  funext b; unfold upd; split <;> rfl
/-- two objects of different content stand apart -/
theorem ne_of {H : Hp} {a b : Addr} {o u : HO} (h : H a = some o) (h' : H b = some u) (d : o ≠ u) : a ≠ b := by
  intro e; subst e; rw [h] at h'; exact d (Option.some.inj h')
theorem ne_of_none {H : Hp} {a b : Addr} {o : HO} (h : H a = some o) (h' : H b = none) : a ≠ b := by
  intro e; subst e; rw [h] at h'; cases h'

/-- a tuple of no dict of its own -/
def TupN (h : Heap) (a : Addr) (items : Array Value) : Prop := ∃ o, h.get? a = some o ∧ o.cls = .type "tuple" ∧ (∃ n, o.data = .seq items n) ∧ o.dict = none
theorem TupN.tup {h : Heap} {a : Addr} {items : Array Value} (x : TupN h a items) : IsTup h a items := let ⟨o, e, c, d, _⟩ := x; ⟨o, e, c, d⟩
theorem TupN.new (h : Heap) (items : Array Value) : TupN (h.push { cls := .type "tuple", data := .seq items }) h.objs.size items := ⟨_, Heap.get?_push_size _ rfl, rfl, ⟨_, rfl⟩, rfl⟩
section
variable (P : Program) (w : World)
def ObjOk (H : Hp) (h : Heap) (a : Addr) : HO → Prop
  | .lst xs => xs.length ≤ sizeLine ∧ ∃ (its : List Value) (n : Nat), Vals xs its ∧ h.get? a = some { cls := .type "list", data := .seq its.toArray n }
  | .tup xs => xs.length ≤ sizeLine ∧ ∃ its : List Value, Vals xs its ∧ TupN h a its.toArray
  | .dK kvs => kvs.length ≤ sizeLine ∧ (a == sysModules) = false ∧ ∃ vs, KV kvs vs ∧ h.DictOf (mixKind P w) a vs
  | .dT kvs => kvs.length ≤ sizeLine ∧ (a == sysModules) = false ∧ ∃ xs : List (List Key × Addr × Value),
      Paired (fun (p : List Key × V) (q : List Key × Addr × Value) => p.1 = q.1 ∧ H q.2.1 = some (.tup (p.1.map kV)) ∧ RelV p.2 q.2.2) kvs xs ∧
      ∃ o es ep, h.get? a = some o ∧ o.ExactDict ∧ o.data = .dict es ep ∧ es.toList = xs.map (entryOfKey (tupleKind (mixKind P w))) ∧ (xs.map (·.1)).Nodup
  | .set S n => h.SetOf (intKind P w) a S n
  | .ins C dx fs => H dx = some (.own a) ∧ fs.length ≤ 1000 ∧ dx ≠ a ∧ h.get? a = some (PySem.W.instObj C dx) ∧
      ∃ mA, h.Ns1 dx mA ∧ (∀ f, RelO (fs.lookup f) (mA f)) ∧ PySem.Within mA (fs.map (·.1))
  | .own _ => ∃ o, h.get? a = some o
  | .xd fs => ∃ mA, h.Ns1 a mA ∧ ∀ f, RelO (fs.lookup f) (mA f)
  | .rng lo hi => ∃ t u v, h.get? a = some { cls := .type "range", data := .fields #[.int lo t, .int hi u, .int 1 v] }
  | .frz o u => h.get? a = some o ∧ ObjOk H h a u
  | .tbl ps => h.get? a = some { cls := .none, data := .fields ps }
  | .met f x => h.get? a = some (PySem.W.methodObj (.ref f) (.ref x))
  | .ext φ => φ h ∧ (∃ o, h.get? a = some o) ∧ ∀ h1 h2 : Heap, φ h1 → (∀ o, h1.get? a = some o → h2.get? a = some o) → φ h2
/-- the abstract heap is held -/
def HOk (H : Hp) (h : Heap) : Prop := ∀ a o, H a = some o → ObjOk P w H h a o
end

section
variable {P : Program} {w : World} {H H' : Hp} {h h' : Heap} {a : Addr} {o : HO}
theorem ObjOk.lt (x : ObjOk P w H h a o) : a < h.objs.size := by
  cases o with
  | lst xs => obtain ⟨_, _, _, _, e⟩ := x; exact Heap.lt_size e
  | tup xs => obtain ⟨_, _, _, p⟩ := x; exact p.tup.lt
  | dK kvs => obtain ⟨_, _, _, _, o, _, _, e, _⟩ := x; exact Heap.lt_size e
  | dT kvs => obtain ⟨_, _, _, _, o, _, _, e, _⟩ := x; exact Heap.lt_size e
  | set S n => obtain ⟨o, _, _, _, e, _⟩ := x; exact Heap.lt_size e
  | ins C dx fs => obtain ⟨_, _, _, e, _⟩ := x; exact Heap.lt_size e
  | own y => obtain ⟨_, e⟩ := x; exact Heap.lt_size e
  | xd fs => obtain ⟨_, ⟨_, _, _, e, _⟩, _⟩ := x; exact Heap.lt_size e
  | rng lo hi => obtain ⟨_, _, _, e⟩ := x; exact Heap.lt_size e
  | frz ob u => obtain ⟨e, _⟩ := x; exact Heap.lt_size e
  | tbl ps => exact Heap.lt_size (show h.get? a = some _ from x)
  | met f y => exact Heap.lt_size (show h.get? a = some _ from x)
  | ext φ => obtain ⟨_, ⟨_, e⟩, _⟩ := x; exact Heap.lt_size e
theorem Paired.mapP {α β : Type} {F G : α → β → Prop} : ∀ {l₁ : List α} {l₂ : List β}, Paired F l₁ l₂ → (∀ a b, F a b → G a b) → Paired G l₁ l₂
  | _, _, .nil, _ => .nil
  | _, _, .cons r t, f => .cons (f _ _ r) (Paired.mapP t f)
/-- what an object's description leans on: its own object, its own dict, the tuples -/
theorem ObjOk.stay (x : ObjOk P w H h a o) (k : ∀ b u, (b = a ∨ H b = some (.own a)) → h.get? b = some u → h'.get? b = some u)
    (ho : ∀ b, H b = some (.own a) → H' b = some (.own a)) (ht : ∀ b xs, H b = some (.tup xs) → H' b = some (.tup xs)) : ObjOk P w H' h' a o := by
  induction o with
  | lst xs => obtain ⟨z, its, n, r, e⟩ := x; exact ⟨z, its, n, r, k _ _ (.inl rfl) e⟩
  | tup xs => obtain ⟨z, its, r, ob, e, c⟩ := x; exact ⟨z, its, r, ob, k _ _ (.inl rfl) e, c⟩
  | dK kvs => obtain ⟨z, y, vs, r, ob, es, ep, e, c⟩ := x; exact ⟨z, y, vs, r, ob, es, ep, k _ _ (.inl rfl) e, c⟩
  | dT kvs =>
    obtain ⟨z, y, xs, r, ob, es, ep, e, c⟩ := x
    exact ⟨z, y, xs, Paired.mapP r fun p q z => ⟨z.1, ht _ _ z.2.1, z.2.2⟩, ob, es, ep, k _ _ (.inl rfl) e, c⟩
  | set S n => obtain ⟨ob, es, ep, t, e, c⟩ := x; exact ⟨ob, es, ep, t, k _ _ (.inl rfl) e, c⟩
  | ins C dx fs =>
    obtain ⟨d, z, ne, e, mA, ⟨od, es, ep, e2, c⟩, r⟩ := x
    exact ⟨ho _ d, z, ne, k _ _ (.inl rfl) e, mA, ⟨od, es, ep, k _ _ (.inr d) e2, c⟩, r⟩
  | own y => obtain ⟨ob, e⟩ := x; exact ⟨ob, k _ _ (.inl rfl) e⟩
  | xd fs => obtain ⟨mA, ⟨od, es, ep, e, c⟩, r⟩ := x; exact ⟨mA, ⟨od, es, ep, k _ _ (.inl rfl) e, c⟩, r⟩
  | rng lo hi => obtain ⟨t, u, v, e⟩ := x; exact ⟨t, u, v, k _ _ (.inl rfl) e⟩
  | frz ob u ih => obtain ⟨e, q⟩ := x; exact ⟨k _ _ (.inl rfl) e, ih q⟩
  | tbl ps =>
    have e : h.get? a = some { cls := .none, data := .fields ps } := x
    show h'.get? a = some { cls := .none, data := .fields ps }
    exact k a _ (.inl rfl) e
  | met f y =>
    have e : h.get? a = some (PySem.W.methodObj (.ref f) (.ref y)) := x
    show h'.get? a = some (PySem.W.methodObj (.ref f) (.ref y))
    exact k a _ (.inl rfl) e
  | ext φ => obtain ⟨p, ⟨o, e⟩, st⟩ := x; exact ⟨st _ _ p fun o q => k _ _ (.inl rfl) q, ⟨o, k _ _ (.inl rfl) e⟩, st⟩
theorem HOk.lt (x : HOk P w H h) (e : H a = some o) : a < h.objs.size := (x a o e).lt
theorem HOk.fresh (x : HOk P w H h) (e : h.objs.size ≤ a) : H a = none := by
  cases q : H a with
  | none => rfl
  | some u => exact absurd (Nat.lt_of_lt_of_le (x.lt q) e) (Nat.lt_irrefl _)
/-- every object of the heap is kept -/
theorem HOk.kept (x : HOk P w H h) (k : ∀ b u, h.get? b = some u → h'.get? b = some u) : HOk P w H h' := fun a o e =>
  (x a o e).stay (fun b u _ q => k b u q) (fun _ q => q) fun _ _ q => q
/-- a new object is laid and tracked -/
theorem HOk.laid (x : HOk P w H h) (k : ∀ b u, h.get? b = some u → h'.get? b = some u) (hp : h.objs.size ≤ a) (new : ObjOk P w (upd H a o) h' a o) : HOk P w (upd H a o) h' := fun b u e => by
  have hn := x.fresh hp
  by_cases hb : b = a
  · subst hb; rw [upd_same] at e; cases e; exact new
  · rw [upd_ne hb] at e
    exact (x b u e).stay (fun c v _ q => k c v q) (fun c q => by rw [upd_ne (ne_of_none q hn)]; exact q) fun c xs q => by rw [upd_ne (ne_of_none q hn)]; exact q
end

/-- what may be read as u: it is u, or a known u -/
def Rd (H : Hp) (a : Addr) (u : HO) : Prop := H a = some u ∨ ∃ o, H a = some (.frz o u)
theorem Rd.ok {P : Program} {w : World} {H : Hp} {h : Heap} {a : Addr} {u : HO} (r : Rd H a u) (x : HOk P w H h) : ObjOk P w H h a u := by
  rcases r with r | ⟨o, r⟩
  · exact x a u r
  · obtain ⟨_, q⟩ := x a _ r
    exact q
/-- what may be written -/
def Mut : Option HO → Prop
  | some (.lst _) => True
  | some (.dK _) => True
  | some (.dT _) => True
  | some (.set _ _) => True
  | some (.ins _ _ _) => True
  | some (.ext _) => True
  | _ => False
section
variable {P : Program} {w : World} {H : Hp} {h h' : Heap} {x e : Addr} {o' : HO}
/-- the object at e is changed: x itself, or the dict of the instance x -/
theorem HOk.write (ok : HOk P w H h) (mu : Mut (H x)) (he : e = x ∨ H e = some (.own x)) (k : ∀ b u, b ≠ e → h.get? b = some u → h'.get? b = some u) (heo : ∃ u, h'.get? e = some u)
    (new : ObjOk P w (upd H x o') h' x o') : HOk P w (upd H x o') h' := fun b u q => by
  have nown : ∀ c y, H c = some (.own y) → c ≠ x := fun c y r z => by subst z; rw [r] at mu; exact mu
  have ntup : ∀ c xs, H c = some (.tup xs) → c ≠ x := fun c xs r z => by subst z; rw [r] at mu; exact mu
  by_cases hb : b = x
  · subst hb; rw [upd_same] at q; cases q; exact new
  · rw [upd_ne hb] at q
    by_cases hbe : b = e
    · have q' : H b = some (.own x) := by
        rcases he with z | z
        · exact absurd (hbe.trans z) hb
        · rw [hbe]; exact z
      rw [q] at q'; cases q'
      obtain ⟨v, hv⟩ := heo
      exact ⟨v, by rw [hbe]; exact hv⟩
    · refine (ok b u q).stay (fun c v hc r => k c v ?_ r) (fun c r => by rw [upd_ne (nown c b r)]; exact r) fun c xs r => by rw [upd_ne (ntup c xs r)]; exact r
      rcases hc with rfl | hc
      · exact hbe
      · rintro rfl
        rcases he with z | z
        · exact nown c b hc z
        · rw [hc] at z; cases z; exact hb rfl
end

/-! ### kept unless tracked; of the frames at fs (the callers') the slots may change (an exception that passes writes there); of the records at ex (iterators) nothing is said -/
structure Un (fs ex : List Addr) (H H' : Hp) (h h' : Heap) : Prop where
  keep : ∀ b o, h.get? b = some o → H b = none → b ∉ fs → b ∉ ex → h'.get? b = some o
  slot : ∀ b o, h.get? b = some o → H b = none → b ∈ fs → b ∉ ex → ∃ sl, h'.get? b = some { o with slots := sl }
  free : ∀ b o, h.get? b = some o → H b = none → b ∉ ex → H' b = none
  there : ∀ b o, h.get? b = some o → b ∉ ex → ∃ o', h'.get? b = some o'
  tups : ∀ b xs, H b = some (.tup xs) → H' b = some (.tup xs)
  frzs : ∀ b o u, H b = some (.frz o u) → H' b = some (.frz o u)
  tbls : ∀ b ps, H b = some (.tbl ps) → ∃ more, H' b = some (.tbl (ps ++ more))
section
variable {fs fs' ex ex' : List Addr} {H H1 H2 : Hp} {h h1 h2 h' : Heap} {a x e : Addr} {o : HO}
theorem Un.any (u : Un fs ex H H1 h h1) {b : Addr} {ob : Obj} (q : h.get? b = some ob) (n : H b = none) (hx : b ∉ ex) : ∃ sl, h1.get? b = some { ob with slots := sl } := by
  by_cases hb : b ∈ fs
  · exact u.slot b ob q n hb hx
  · exact ⟨ob.slots, u.keep b ob q n hb hx⟩
theorem Un.kept (k : ∀ b u, h.get? b = some u → h'.get? b = some u) : Un fs ex H H h h' :=
  ⟨fun b ob q _ _ _ => k b ob q, fun b ob q _ _ _ => ⟨ob.slots, k b ob q⟩, fun _ _ _ n _ => n, fun b ob q _ => ⟨ob, k b ob q⟩, fun _ _ q => q, fun _ _ _ q => q, fun _ ps q => ⟨#[], by rw [q]; simp⟩⟩
theorem Un.refl : Un fs ex H H h h := Un.kept fun _ _ q => q
theorem Un.laid (k : ∀ b u, h.get? b = some u → h'.get? b = some u) (hp : h.objs.size ≤ a) (hn : H a = none) : Un fs ex H (upd H a o) h h' where
  keep := fun b u q _ _ _ => k b u q
  slot := fun b u q _ _ _ => ⟨u.slots, k b u q⟩
  free := fun b u q n _ => by rw [upd_ne (Nat.ne_of_lt (Nat.lt_of_lt_of_le (Heap.lt_size q) hp))]; exact n
  there := fun b u q _ => ⟨u, k b u q⟩
  tups := fun b xs q => by rw [upd_ne (ne_of_none q hn)]; exact q
  frzs := fun b u xs q => by rw [upd_ne (ne_of_none q hn)]; exact q
  tbls := fun b ps q => ⟨#[], by rw [upd_ne (ne_of_none q hn), q]; simp⟩
theorem Un.write (mu : Mut (H x)) (he : e = x ∨ H e = some (.own x)) (k : ∀ b u, b ≠ e → h.get? b = some u → h'.get? b = some u) (heo : ∃ u, h'.get? e = some u) : Un fs ex H (upd H x o) h h' := by
  have hx : ∀ b, H b = none → b ≠ x := fun b n z => by subst z; rw [n] at mu; exact mu
  have hb : ∀ b, H b = none → b ≠ e := fun b n z => by
    subst z
    rcases he with r | r
    · exact hx b n r
    · rw [n] at r; cases r
  have hm : ∀ b u, H b = some u → ¬ Mut (some u) → b ≠ x := fun b u q nm z => by subst z; rw [q] at mu; exact nm mu
  refine ⟨fun b u q n _ _ => k b u (hb b n) q, fun b u q n _ _ => ⟨u.slots, k b u (hb b n) q⟩, fun b u q n _ => by rw [upd_ne (hx b n)]; exact n, fun b u q _ => ?_,
    fun b xs q => by rw [upd_ne (hm b _ q fun z => z)]; exact q, fun b u xs q => by rw [upd_ne (hm b _ q fun z => z)]; exact q, fun b ps q => ⟨#[], by rw [upd_ne (hm b _ q fun z => z), q]; simp⟩⟩
  by_cases hbe : b = e
  · subst hbe; exact heo
  · exact ⟨u, k b u hbe q⟩
end

/-! ### the heap without what is tracked -/
def trk (h : Heap) (H : Hp) : List Addr := (List.range h.objs.size).filter fun a => (H a).isSome
def hidT (h : Heap) (H : Hp) : Heap := PySem.W.hideAll h (trk h H)
theorem hidT_size (h : Heap) (H : Hp) : (hidT h H).objs.size = h.objs.size := PySem.W.hideAll_size _ _
theorem hidT_get {h : Heap} {H : Hp} {b : Addr} {o : Obj} (e : h.get? b = some o) (n : H b = none) : (hidT h H).get? b = some o :=
  PySem.W.hideAll_get _ e fun hm => by
    have q : (H b).isSome = true := (List.mem_filter.mp hm).2
    rw [n] at q; simp at q
theorem of_hidT {h : Heap} {H : Hp} {b : Addr} {o : Obj} (e : (hidT h H).get? b = some o) : h.get? b = some o ∧ H b = none := by
  have e' : h.get? b = some o := PySem.W.of_hideAll (trk h H) e
  refine ⟨e', ?_⟩
  cases q : H b with
  | none => rfl
  | some x =>
    have hm : b ∈ trk h H := List.mem_filter.mpr ⟨List.mem_range.mpr (Heap.lt_size e'), by simp [q]⟩
    have z : (hidT h H).get? b = none := PySem.W.hideAll_none (trk h H) hm
    rw [z] at e; cases e

/-! ### OpenK's ledger, filled with every new object but one -/
def allNews (g h : Heap) (L : Addr) : List (Addr × Obj) := (List.range h.objs.size).filterMap fun a => if a = L ∨ (g.get? a).isSome = true then none else (h.get? a).map fun o => (a, o)
def rest (g h : Heap) (L d : Addr) : List (Addr × Obj) := (allNews g h L).filter fun p => decide (p.1 ≠ d)
end L2

namespace L2
open PySem PySem.Spec PyProof.Rows

/-- the module's facts, over the base: the heap at the law's entry without what is tracked there -/
structure Mod (K : PySem.W.Frag) (mg : Str → Option Value) (base : Heap) : Prop where
  kin : K.In base
  glob : base.Ns mainGlobals mg
  blt : ∃ mb, base.Ns builtinsNs mb ∧ ∀ x : Str, x ≠ "__name__" → mb x = bootBuiltins x
  nolimit : base.NoLimit

/-- the context: a def's body (or a comprehension's block) running. base: fixed through the whole law; s₀, H₀: the entry; outer: the frames whose slots others may change (a def's callers); stack: all frames that run;
   ex: iterators that were made ahead of the entry and are walked here (a comprehension's); fn: the names whose cells were made at the entry (a def: all; a comprehension's block: its own); calm: not within an except suite; pn: pins that every state bears; xe: what is wanted of an exception that leaves the code -/
structure Cx where
  prog : Program
  w : World
  K : PySem.W.Frag
  mg : Str → Option Value
  base : Heap
  A : Around
  N : List Str
  s₀ : Shared
  H₀ : Hp
  env : Env
  outer : List Env
  stack : List Env
  ex : List Addr
  fn : Str → Bool
  calm : Bool
  pn : List (Addr × Obj)
  xe : Value → Shared → Prop
/-- the callers' frames -/
def frs (l : List Env) : List Addr := l.filterMap (·.frame)
abbrev Cx.fs (X : Cx) : List Addr := frs X.outer

def Vis (sc : Scope) (x : Str) : Prop := sc.names.lookup x = some .local ∨ sc.names.lookup x = some .cell ∨ sc.names.lookup x = some .free
def Loc (sc : Scope) (x : Str) : Prop := sc.names.lookup x = some .local ∨ sc.names.lookup x = some .cell
def Look (env : Env) (h : Heap) (m : Str → Option Value) (x : Str) (u : Value) : Prop :=
  (env.kindOf x = some .local ∧ m x = some u) ∨ ((env.kindOf x = some .cell ∨ env.kindOf x = some .free) ∧ ∃ c, env.cells.lookup x = some c ∧ h.IsCell c (some u))

structure Cx.Ok (X : Cx) : Prop where
  mod : Mod X.K X.mg X.base
  kind : X.env.scope.kind = .function
  glob : X.env.globals = mainGlobals
  blt : X.env.builtins = builtinsNs
  above : X.s₀.heap.objs.size ≤ X.env.locals
  inj : ∀ x y c, X.env.cells.lookup x = some c → X.env.cells.lookup y = some c → x = y
  has : ∀ x, (X.env.kindOf x = some .cell ∨ X.env.kindOf x = some .free) → ∃ c, X.env.cells.lookup x = some c
  cab : ∀ x c, X.fn x = true → X.env.cells.lookup x = some c → X.s₀.heap.objs.size ≤ c
  hd : X.calm = true → X.A.handled = none
  frames : X.A.frames = some X.stack
  stk : X.stack = X.outer ∨ (X.stack = X.env :: X.outer ∧ X.env.frame = some X.env.locals)
  exf : ∀ b ∈ X.ex, b ≠ X.env.locals ∧ ∀ x c, X.env.cells.lookup x = some c → c ≠ b
  bs : ∀ b o, X.base.get? b = some o → X.s₀.heap.get? b = some o ∧ X.H₀ b = none
  bsz : X.base.objs.size ≤ X.s₀.heap.objs.size
  noex : ∀ b o, X.base.get? b = some o → b ∉ X.ex
  exfs : ∀ b ∈ X.ex, b ∉ X.fs
  funs : X.s₀.heap.FunFrames X.base X.outer
  frf : ∀ b ∈ X.fs, X.H₀ b = none

structure Inv (X : Cx) (pins : List (Addr × Obj)) (σ : List (Option V)) (H : Hp) (s : Shared) : Prop where
  ok : X.Ok
  os : s.os = X.s₀.os
  bare : AllBare s.gens
  base : Un X.fs X.ex X.H₀ H X.s₀.heap s.heap
  loc : ∃ m, s.heap.Ns X.env.locals m ∧ ∀ (i : Nat) (x : Str) (v : V), X.N[i]? = some x → σ[i]? = some (some v) → Vis X.env.scope x → ∃ u, RelV v u ∧ Look X.env s.heap m x u
  cell : ∀ x c, X.env.cells.lookup x = some c → ∃ v, s.heap.IsCell c v
  free : H X.env.locals = none
  freeC : ∀ x c, X.env.cells.lookup x = some c → H c = none
  pin : ∀ p ∈ X.pn ++ pins, s.heap.get? p.1 = some p.2 ∧ H p.1 = none ∧ p.1 ≠ X.env.locals ∧ p.1 ∉ X.fs ∧ ∀ v, p.2.data ≠ .cell v
  hok : HOk X.prog X.w H s.heap
  len : σ.length = X.N.length

section
variable {X : Cx} {pins : List (Addr × Obj)} {σ : List (Option V)} {H H' : Hp} {s : Shared} {h' : Heap}

theorem Cx.Ok.nofr (ok : X.Ok) {b : Addr} {o : Obj} (e : X.base.get? b = some o) : b ∉ X.fs := fun hb => by
  have := (ok.funs.mem hb).1
  rw [e] at this; cases this
theorem Inv.bs (I : Inv X pins σ H s) : ∀ b o, X.base.get? b = some o → s.heap.get? b = some o ∧ H b = none := fun b o e =>
  ⟨I.base.keep b o (I.ok.bs b o e).1 (I.ok.bs b o e).2 (I.ok.nofr e) (I.ok.noex b o e), I.base.free b o (I.ok.bs b o e).1 (I.ok.bs b o e).2 (I.ok.noex b o e)⟩
theorem Inv.bk (I : Inv X pins σ H s) : ∀ b o, X.base.get? b = some o → s.heap.get? b = some o := fun b o e => (I.bs b o e).1
theorem Inv.mod (I : Inv X pins σ H s) : Mod X.K X.mg X.base := I.ok.mod
theorem Inv.kIn (I : Inv X pins σ H s) : X.K.In s.heap := I.ok.mod.kin.keeps I.bk
theorem Inv.lt (I : Inv X pins σ H s) : X.env.locals < s.heap.objs.size := let ⟨_, hn, _⟩ := I.loc; hn.lt
theorem Inv.sz (I : Inv X pins σ H s) : X.s₀.heap.objs.size ≤ s.heap.objs.size := Nat.le_trans I.ok.above (Nat.le_of_lt I.lt)
theorem Inv.nofs (I : Inv X pins σ H s) {a : Addr} (h : s.heap.objs.size ≤ a) : a ∉ X.fs := fun hb => by
  obtain ⟨_, o, ho, _⟩ := I.ok.funs.mem hb
  exact absurd (Nat.lt_of_lt_of_le (Heap.lt_size ho) (Nat.le_trans I.sz h)) (Nat.lt_irrefl _)
theorem Inv.cne (I : Inv X pins σ H s) : ∀ x c, X.env.cells.lookup x = some c → c ≠ X.env.locals := fun x c e z => by
  obtain ⟨v, o, ho, hd⟩ := I.cell x c e
  obtain ⟨m, ⟨o', es, ep, ho', hd', _⟩, _⟩ := I.loc
  rw [z, ho'] at ho; cases ho; rw [hd'] at hd; cases hd
theorem Inv.funs (I : Inv X pins σ H s) : s.heap.FunFrames X.base X.outer := by
  have all : ∀ (l : List Env), (∀ b ∈ frs l, b ∈ X.fs) → X.s₀.heap.FunFrames X.base l → s.heap.FunFrames X.base l := by
    intro l
    induction l with
    | nil => intro _ _; trivial
    | cons env r ih =>
      intro hs hl
      obtain ⟨hk, ⟨L, o, hf, hn, ho, hd⟩, hr⟩ := hl
      have hL : L ∈ X.fs := hs L (by unfold frs; rw [List.filterMap_cons, hf]; exact List.mem_cons_self)
      obtain ⟨sl, e⟩ := I.base.slot L o ho (I.ok.frf L hL) hL fun z => I.ok.exfs L z hL
      exact ⟨hk, ⟨L, _, hf, hn, e, hd⟩, ih (fun b hb => hs b (by unfold frs; rw [List.filterMap_cons, hf]; exact List.mem_cons_of_mem _ hb)) hr⟩
  exact all X.outer (fun _ hb => hb) I.ok.funs

/-- the frames that run, for a call -/
theorem Inv.stack (I : Inv X pins σ H s) : s.heap.FunFrames X.base X.stack := by
  rcases I.ok.stk with e | ⟨e, hf⟩
  · rw [e]; exact I.funs
  · rw [e]
    obtain ⟨m, hn, _⟩ := I.loc
    refine .cons (by rw [I.ok.kind]; decide) hf hn ?_ I.funs
    exact Heap.get?_none_of_le (Nat.le_trans I.ok.bsz I.ok.above)
theorem Inv.stkSub (I : Inv X pins σ H s) : ∀ b ∈ frs X.stack, b ∈ X.env.locals :: X.fs := fun b hb => by
  rcases I.ok.stk with e | ⟨e, hf⟩
  · rw [e] at hb; exact List.mem_cons_of_mem _ hb
  · rw [e] at hb
    unfold frs at hb
    rw [List.filterMap_cons, hf] at hb
    exact hb
theorem Inv.stkFree (I : Inv X pins σ H s) : ∀ b ∈ frs X.stack, H b = none := fun b hb => by
  rcases List.mem_cons.mp (I.stkSub b hb) with e | hb
  · rw [e]; exact I.free
  · obtain ⟨_, o, ho, _⟩ := I.ok.funs.mem hb
    exact I.base.free b o ho (I.ok.frf b hb) fun z => I.ok.exfs b z hb

/-- THE STEP: the untracked objects but the frame and the records at ch are kept (the callers' frames up to slots), the frame's map is kept, the new abstract heap is held -/
theorem Inv.step {g' : Array GenState} {t' : Nat} {d' : Drawn} {ch : List Addr} (I : Inv X pins σ H s)
    (hch : ∀ b ∈ ch, (b ∈ X.ex ∨ X.s₀.heap.objs.size ≤ b) ∧ b ≠ X.env.locals ∧ (∀ x c, X.env.cells.lookup x = some c → c ≠ b) ∧ ∀ p ∈ X.pn ++ pins, p.1 ≠ b)
    (keep : ∀ b o, b ≠ X.env.locals → b ∉ X.fs → b ∉ ch → s.heap.get? b = some o → H b = none → h'.get? b = some o)
    (slot : ∀ b o, b ≠ X.env.locals → b ∈ X.fs → b ∉ ch → s.heap.get? b = some o → H b = none → ∃ sl, h'.get? b = some { o with slots := sl }) (free : ∀ b o, b ∉ ch → s.heap.get? b = some o → H b = none → H' b = none)
    (there : ∀ b o, b ∉ ch → s.heap.get? b = some o → ∃ o', h'.get? b = some o')
    (tups : ∀ b xs, H b = some (.tup xs) → H' b = some (.tup xs)) (frzs : ∀ b o u, H b = some (.frz o u) → H' b = some (.frz o u)) (tbls : ∀ b ps, H b = some (.tbl ps) → ∃ more, H' b = some (.tbl (ps ++ more)))
    (ns : ∀ m, s.heap.Ns X.env.locals m → h'.Ns X.env.locals m) (hok : HOk X.prog X.w H' h') (hg : AllBare g') :
    Inv X pins σ H' { s with heap := h', gens := g', drawn := d', toks := t' } := by
  have neL : ∀ b o, X.s₀.heap.get? b = some o → b ≠ X.env.locals := fun b o e => Nat.ne_of_lt (Nat.lt_of_lt_of_le (Heap.lt_size e) I.ok.above)
  have neC : ∀ b o, X.s₀.heap.get? b = some o → b ∉ X.ex → b ∉ ch := fun b o e hx hb => by
    rcases (hch b hb).1 with z | z
    · exact hx z
    · exact absurd (Nat.lt_of_lt_of_le (Heap.lt_size e) z) (Nat.lt_irrefl _)
  have cellK : ∀ x c, X.env.cells.lookup x = some c → ∀ v, s.heap.IsCell c v → h'.IsCell c v := fun x c e v ⟨o, ho, hd⟩ => by
    have nch : c ∉ ch := fun z => (hch c z).2.2.1 x c e rfl
    by_cases hc : c ∈ X.fs
    · obtain ⟨sl, q⟩ := slot c o (I.cne x c e) hc nch ho (I.freeC x c e)
      exact ⟨_, q, hd⟩
    · exact ⟨o, keep c o (I.cne x c e) hc nch ho (I.freeC x c e), hd⟩
  refine ⟨I.ok, I.os, hg, ⟨fun b o e n hb hx => ?_, fun b o e n hb hx => ?_, fun b o e n hx => ?_, fun b o e hx => ?_, fun b xs e => tups b xs (I.base.tups b xs e), fun b o xs e => frzs b o xs (I.base.frzs b o xs e), fun b ps e => ?_⟩, ?_, fun x c e => ?_, ?_, fun x c e => ?_, fun p hp => ?_, hok, I.len⟩
  · exact keep b o (neL b o e) hb (neC b o e hx) (I.base.keep b o e n hb hx) (I.base.free b o e n hx)
  · obtain ⟨sl, e1⟩ := I.base.slot b o e n hb hx
    obtain ⟨sl', e2⟩ := slot b _ (neL b o e) hb (neC b o e hx) e1 (I.base.free b o e n hx)
    exact ⟨sl', e2⟩
  · obtain ⟨o', e1⟩ := I.base.there b o e hx
    exact free b o' (neC b o e hx) e1 (I.base.free b o e n hx)
  · obtain ⟨o', e1⟩ := I.base.there b o e hx
    exact there b o' (neC b o e hx) e1
  · obtain ⟨m1, e1⟩ := I.base.tbls b ps e
    obtain ⟨m2, e2⟩ := tbls b _ e1
    exact ⟨m1 ++ m2, by rw [e2, Array.append_assoc]⟩
  · obtain ⟨m, hn, hl⟩ := I.loc
    refine ⟨m, ns m hn, fun i x v e1 e2 e3 => ?_⟩
    obtain ⟨u, r, l⟩ := hl i x v e1 e2 e3
    refine ⟨u, r, ?_⟩
    rcases l with l | ⟨k, c, e, z⟩
    · exact .inl l
    · exact .inr ⟨k, c, e, cellK x c e _ z⟩
  · obtain ⟨v, z⟩ := I.cell x c e
    exact ⟨v, cellK x c e v z⟩
  · obtain ⟨m, ⟨o, _, _, ho, _⟩, _⟩ := I.loc
    exact free _ o (fun z => (hch _ z).2.1 rfl) ho I.free
  · obtain ⟨v, o, ho, hd⟩ := I.cell x c e
    exact free c o (fun z => (hch c z).2.2.1 x c e rfl) ho (I.freeC x c e)
  · obtain ⟨e, n, ne, nf, d⟩ := I.pin p hp
    have nch : p.1 ∉ ch := fun z => (hch p.1 z).2.2.2 p hp rfl
    exact ⟨keep p.1 p.2 ne nf nch e n, free p.1 p.2 nch e n, ne, nf, d⟩
/-- .. where the frame's own object is kept too -/
theorem Inv.un {t' : Nat} (I : Inv X pins σ H s) (u : Un X.fs [] H H' s.heap h') (hok : HOk X.prog X.w H' h') : Inv X pins σ H' { s with heap := h', toks := t' } := by
  obtain ⟨m, ⟨o, es, ep, ho, r⟩, _⟩ := id I.loc
  obtain ⟨sl, hL⟩ := u.any ho I.free (by simp)
  exact I.step (g' := s.gens) (d' := s.drawn) (ch := []) (fun _ z => nomatch z) (fun b o _ hb _ e n => u.keep b o e n hb (by simp)) (fun b o _ hb _ e n => u.slot b o e n hb (by simp)) (fun b o _ e n => u.free b o e n (by simp)) (fun b o _ e => u.there b o e (by simp)) u.tups u.frzs u.tbls (fun m' hm => by
    obtain ⟨o', es', ep', ho', r'⟩ := hm
    rw [ho] at ho'; cases ho'
    exact ⟨_, es', ep', hL, r'⟩) hok I.bare
/-- behind a call (or a comprehension's block): the slots of this frame may have changed too, the records at ch may have turned -/
theorem Inv.call {g' : Array GenState} {t' : Nat} {d' : Drawn} {ch : List Addr} (I : Inv X pins σ H s) (u : Un (frs X.stack) ch H H' s.heap h') (hok : HOk X.prog X.w H' h') (hg : AllBare g')
    (hch : ∀ b ∈ ch, (b ∈ X.ex ∨ X.s₀.heap.objs.size ≤ b) ∧ b ≠ X.env.locals ∧ (∀ x c, X.env.cells.lookup x = some c → c ≠ b) ∧ ∀ p ∈ X.pn ++ pins, p.1 ≠ b) :
    Inv X pins σ H' { s with heap := h', gens := g', drawn := d', toks := t' } := by
  obtain ⟨m, ⟨o, es, ep, ho, r⟩, _⟩ := id I.loc
  obtain ⟨sl, hL⟩ := u.any ho I.free fun z => (hch _ z).2.1 rfl
  exact I.step (ch := ch) hch (fun b o hL hb hc e n => u.keep b o e n (fun z => (List.mem_cons.mp (I.stkSub b z)).elim hL hb) hc) (fun b o _ _ hc e n => u.any e n hc) (fun b o hc e n => u.free b o e n hc) (fun b o hc e => u.there b o e hc) u.tups u.frzs u.tbls (fun m' hm => by
    obtain ⟨o', es', ep', ho', r'⟩ := hm
    rw [ho] at ho'; cases ho'
    exact ⟨_, es', ep', hL, r'⟩) hok hg
/-- an untracked record of ours (an iterator) has turned -/
theorem Inv.turned {t' : Nat} {it : Addr} (I : Inv X pins σ H s) (k : ∀ b o, b ≠ it → s.heap.get? b = some o → h'.get? b = some o) (hn : H it = none) (hL : it ≠ X.env.locals)
    (h1 : it ∈ X.ex ∨ X.s₀.heap.objs.size ≤ it) (h2 : ∀ x c, X.env.cells.lookup x = some c → c ≠ it) (h3 : ∀ p ∈ X.pn ++ pins, p.1 ≠ it) : Inv X pins σ H { s with heap := h', toks := t' } := by
  have nit : ∀ b u, H b = some u → b ≠ it := fun b u e z => by rw [z, hn] at e; cases e
  refine I.step (g' := s.gens) (d' := s.drawn) (ch := [it]) (fun b hb => ?_) (fun b o _ _ hc e _ => k b o (fun z => hc (by simp [z])) e) (fun b o _ _ hc e _ => ⟨o.slots, k b o (fun z => hc (by simp [z])) e⟩) (fun _ _ _ _ n => n)
    (fun b o hc e => ⟨o, k b o (fun z => hc (by simp [z])) e⟩) (fun _ _ e => e) (fun _ _ _ e => e) (fun b ps e => ⟨#[], by rw [e]; simp⟩) (fun m hm => ?_) (fun b u e => ?_) I.bare
  · have e : b = it := by simpa using hb
    subst e
    exact ⟨h1, hL, h2, h3⟩
  · obtain ⟨o, es, ep, ho, r⟩ := hm
    exact ⟨o, es, ep, k _ o (Ne.symm hL) ho, r⟩
  · refine (I.hok b u e).stay (fun c v hc q => k c v ?_ q) (fun _ q => q) fun _ _ q => q
    rcases hc with z | z
    · rw [z]; exact nit b u e
    · exact nit c _ z
theorem Inv.tok (I : Inv X pins σ H s) (t : Nat) : Inv X pins σ H { s with toks := t } := I.un (h' := s.heap) (t' := t) Un.refl I.hok
/-- all objects kept -/
theorem Inv.kept {t' : Nat} (I : Inv X pins σ H s) (k : ∀ b u, s.heap.get? b = some u → h'.get? b = some u) : Inv X pins σ H { s with heap := h', toks := t' } := I.un (Un.kept k) (I.hok.kept k)
/-- a new object laid and tracked -/
theorem Inv.laid {a : Addr} {o : HO} {t' : Nat} (I : Inv X pins σ H s) (k : ∀ b u, s.heap.get? b = some u → h'.get? b = some u) (hp : s.heap.objs.size ≤ a) (new : ObjOk X.prog X.w (upd H a o) h' a o) :
    Inv X pins σ (upd H a o) { s with heap := h', toks := t' } := I.un (Un.laid k hp (I.hok.fresh hp)) (I.hok.laid k hp new)
/-- an object written -/
theorem Inv.write {x e : Addr} {o : HO} {t' : Nat} (I : Inv X pins σ H s) (mu : Mut (H x)) (he : e = x ∨ H e = some (.own x)) (k : ∀ b u, b ≠ e → s.heap.get? b = some u → h'.get? b = some u) (heo : ∃ u, h'.get? e = some u)
    (new : ObjOk X.prog X.w (upd H x o) h' x o) : Inv X pins σ (upd H x o) { s with heap := h', toks := t' } := I.un (Un.write mu he k heo) (I.hok.write mu he k heo new)
theorem Inv.pins_of {pins' : List (Addr × Obj)} (I : Inv X pins σ H s) (h : ∀ p ∈ pins', s.heap.get? p.1 = some p.2 ∧ H p.1 = none ∧ p.1 ≠ X.env.locals ∧ p.1 ∉ X.fs ∧ ∀ v, p.2.data ≠ .cell v) : Inv X pins' σ H s :=
  ⟨I.ok, I.os, I.bare, I.base, I.loc, I.cell, I.free, I.freeC, fun p hp => (List.mem_append.mp hp).elim (fun z => I.pin p (List.mem_append_left _ z)) (h p), I.hok, I.len⟩

theorem nodup_ix {N : List Str} (hN : N.Nodup) {i j : Nat} {x : Str} (a : N[i]? = some x) (b : N[j]? = some x) : i = j := by
  obtain ⟨h1, e1⟩ := List.getElem?_eq_some_iff.mp a
  obtain ⟨h2, e2⟩ := List.getElem?_eq_some_iff.mp b
  exact (List.getElem_inj hN).mp (e1.trans e2.symm)

/-- a name is stored; what changed -/
theorem store_ok2 {M : Model} {A : Around} {E : Value → Shared → Prop} {i : Nat} {x : Str} {v : V} {u : Value} {Q : Unit → Shared → Prop} (I : Inv X pins σ H s) (hN : X.N.Nodup) (hi : X.N[i]? = some x) (hx : Loc X.env.scope x) (r : RelV v u)
    (h : ∀ s', Inv X pins (σ.set i (some v)) H s' → (∃ a, Heap.SameBut a s.heap s'.heap ∧ (a = X.env.locals ∨ X.env.cells.lookup x = some a)) → Q () s') (hf : X.fn x = true ∨ X.env.scope.names.lookup x = some .local := by first | exact .inl rfl | exact .inr rfl | assumption) : wpAny M A (storeName X.env x u) Q E s := by
  obtain ⟨m, hn, hl⟩ := id I.loc
  have hcls : (X.env.scope.kind == .class || (X.env.scope.kind == .module && X.env.locals != X.env.globals)) = false := by rw [I.ok.kind]; rfl
  have hiσ : i < σ.length := by rw [I.len]; exact (List.getElem?_eq_some_iff.mp hi).1
  have cne := I.cne
  have tracked : ∀ {a : Addr} {h' : Heap}, (∃ o, s.heap.get? a = some o ∧ H a = none) → Heap.SameBut a s.heap h' → HOk X.prog X.w H h' := fun {a h'} ha hs b ob e => by
    obtain ⟨_, _, hfree⟩ := ha
    refine (I.hok b ob e).stay (fun c w' hc q => (hs.2 c ?_).trans q) (fun _ q => q) fun _ _ q => q
    rintro rfl
    rcases hc with rfl | hc
    · rw [hfree] at e; cases e
    · rw [hfree] at hc; cases hc
  rcases hx with hk | hk
  · refine wpAny_storeName_local hk hn (fun h' hn' hs => ?_) hcls
    obtain ⟨oL, _, _, hoL, _⟩ := id hn
    refine h _ ⟨I.ok, I.os, I.bare, ⟨fun b o e n hb hx => ?_, fun b o e n hb hx => ?_, I.base.free, fun b o e hx => ?_, I.base.tups, I.base.frzs, I.base.tbls⟩, ⟨_, hn', fun j y v' e1 e2 e3 => ?_⟩, fun y c e => ?_, I.free, I.freeC, fun p hp => ?_, tracked ⟨oL, hoL, I.free⟩ hs, by simpa using I.len⟩ ⟨_, hs, .inl rfl⟩
    · exact (hs.2 b (Nat.ne_of_lt (Nat.lt_of_lt_of_le (Heap.lt_size e) I.ok.above))).trans (I.base.keep b o e n hb hx)
    · obtain ⟨sl, e1⟩ := I.base.slot b o e n hb hx
      exact ⟨sl, (hs.2 b (Nat.ne_of_lt (Nat.lt_of_lt_of_le (Heap.lt_size e) I.ok.above))).trans e1⟩
    · obtain ⟨o', e1⟩ := I.base.there b o e hx
      exact ⟨o', (hs.2 b (Nat.ne_of_lt (Nat.lt_of_lt_of_le (Heap.lt_size e) I.ok.above))).trans e1⟩
    · by_cases hj : j = i
      · subst hj
        rw [hi] at e1; cases e1
        rw [List.getElem?_set_self hiσ] at e2
        cases e2
        exact ⟨u, r, .inl ⟨hk, by simp⟩⟩
      · rw [List.getElem?_set_ne (Ne.symm hj)] at e2
        obtain ⟨u', r', q⟩ := hl j y v' e1 e2 e3
        refine ⟨u', r', ?_⟩
        rcases q with ⟨k, e⟩ | ⟨k, c, e, z⟩
        · refine .inl ⟨k, ?_⟩
          have : y ≠ x := fun e => hj (nodup_ix hN e1 (e ▸ hi))
          simp [this, e]
        · exact .inr ⟨k, c, e, z.sameBut hs (cne y c e)⟩
    · obtain ⟨w', z⟩ := I.cell y c e
      exact ⟨w', z.sameBut hs (cne y c e)⟩
    · obtain ⟨e, n, ne, nf, d⟩ := I.pin p hp
      exact ⟨(hs.2 p.1 ne).trans e, n, ne, nf, d⟩
  · have hfn : X.fn x = true := by
      rcases hf with z | z
      · exact z
      · rw [z] at hk; cases hk
    obtain ⟨c, hc⟩ := I.ok.has x (.inl hk)
    obtain ⟨w', z⟩ := I.cell x c hc
    refine wpAny_storeName_cell I.ok.kind hk hc z (fun h' hc' hs => ?_)
    obtain ⟨oc, hoc, hocd⟩ := id z
    refine h { s with heap := h' } ⟨I.ok, I.os, I.bare, ⟨fun b o e n hb hx => ?_, fun b o e n hb hx => ?_, I.base.free, fun b o e hx => ?_, I.base.tups, I.base.frzs, I.base.tbls⟩, ⟨m, hn.sameBut hs (Ne.symm (cne x c hc)), fun j y v' e1 e2 e3 => ?_⟩, fun y c' e => ?_, I.free, I.freeC, fun p hp => ?_, tracked ⟨oc, hoc, I.freeC x c hc⟩ hs, by simpa using I.len⟩ ⟨c, hs, .inr hc⟩
    · exact (hs.2 b (Nat.ne_of_lt (Nat.lt_of_lt_of_le (Heap.lt_size e) (I.ok.cab x c hfn hc)))).trans (I.base.keep b o e n hb hx)
    · obtain ⟨sl, e1⟩ := I.base.slot b o e n hb hx
      exact ⟨sl, (hs.2 b (Nat.ne_of_lt (Nat.lt_of_lt_of_le (Heap.lt_size e) (I.ok.cab x c hfn hc)))).trans e1⟩
    · obtain ⟨o', e1⟩ := I.base.there b o e hx
      exact ⟨o', (hs.2 b (Nat.ne_of_lt (Nat.lt_of_lt_of_le (Heap.lt_size e) (I.ok.cab x c hfn hc)))).trans e1⟩
    · by_cases hj : j = i
      · subst hj
        rw [hi] at e1; cases e1
        rw [List.getElem?_set_self hiσ] at e2
        cases e2
        exact ⟨u, r, .inr ⟨.inl hk, c, hc, hc'⟩⟩
      · rw [List.getElem?_set_ne (Ne.symm hj)] at e2
        obtain ⟨u', r', q⟩ := hl j y v' e1 e2 e3
        refine ⟨u', r', ?_⟩
        rcases q with q | ⟨k, c', e, z'⟩
        · exact .inl q
        · refine .inr ⟨k, c', e, z'.sameBut hs ?_⟩
          rintro rfl
          exact hj (nodup_ix hN e1 (I.ok.inj _ _ _ e hc ▸ hi))
    · by_cases hcc : c' = c
      · subst hcc; exact ⟨_, hc'⟩
      · obtain ⟨w2, z2⟩ := I.cell y c' e
        exact ⟨w2, z2.sameBut hs hcc⟩
    · obtain ⟨e, n, ne, nf, d⟩ := I.pin p hp
      refine ⟨(hs.2 p.1 ?_).trans e, n, ne, nf, d⟩
      intro q
      rw [q, hoc] at e
      have q' : oc = p.2 := Option.some.inj e
      exact d w' (by rw [← q']; exact hocd)
theorem store_ok {M : Model} {A : Around} {E : Value → Shared → Prop} {i : Nat} {x : Str} {v : V} {u : Value} {Q : Unit → Shared → Prop} (I : Inv X pins σ H s) (hN : X.N.Nodup) (hi : X.N[i]? = some x) (hx : Loc X.env.scope x) (r : RelV v u)
    (h : ∀ s', Inv X pins (σ.set i (some v)) H s' → Q () s') (hf : X.fn x = true ∨ X.env.scope.names.lookup x = some .local := by first | exact .inl rfl | exact .inr rfl | assumption) : wpAny M A (storeName X.env x u) Q E s :=
  store_ok2 I hN hi hx r (fun s' I' _ => h s' I') hf
/-- behind a call or a block, the state as it is -/
theorem Inv.call' {s' : Shared} {ch : List Addr} (I : Inv X pins σ H s) (ho : s'.os = s.os) (u : Un (frs X.stack) ch H H' s.heap s'.heap) (hok : HOk X.prog X.w H' s'.heap) (hg : AllBare s'.gens)
    (hch : ∀ b ∈ ch, (b ∈ X.ex ∨ X.s₀.heap.objs.size ≤ b) ∧ b ≠ X.env.locals ∧ (∀ x c, X.env.cells.lookup x = some c → c ≠ b) ∧ ∀ p ∈ X.pn ++ pins, p.1 ≠ b) : Inv X pins σ H' s' := by
  obtain ⟨h', g', d', t', o'⟩ := s'
  have e : o' = s.os := ho
  subst e
  exact I.call (g' := g') (t' := t') (d' := d') u hok hg hch
end

/-! ### the judgements -/
/-- an exception: its class, its own dict's address (where it has one), the abstract heap behind it -/
abbrev XK := Value → Option Addr → Hp → Prop
abbrev St := List (Option V)
abbrev VK := V → Hp → Prop
/-- an expression's reading; a test's; an argument list's -/
abbrev TE := St → Hp → VK → Prop
abbrev TT := St → Hp → (Bool → Hp → Prop) → Prop
abbrev TA := St → Hp → (List V → Hp → Prop) → Prop
/-- what is wanted behind a statement -/
structure Ends where
  nx : St → Hp → Prop
  rt : VK
  bk : St → Hp → Prop := fun _ _ => False
  ct : St → Hp → Prop := fun _ _ => False
abbrev TS := Ends → St → Hp → Prop

def EP (X : Cx) (pins : List (Addr × Obj)) (σ : St) (Q : VK) (u : Value) (s' : Shared) : Prop := ∃ v H', Inv X pins σ H' s' ∧ RelV v u ∧ Q v H'
def TP (X : Cx) (pins : List (Addr × Obj)) (σ : St) (Q : Bool → Hp → Prop) (b : Bool) (s' : Shared) : Prop := ∃ H', Inv X pins σ H' s' ∧ Q b H'
def AP (X : Cx) (pins : List (Addr × Obj)) (σ : St) (Q : List V → Hp → Prop) (us : List Value) (s' : Shared) : Prop := ∃ vs H', Inv X pins σ H' s' ∧ Vals vs us ∧ Q vs H'
def SP (X : Cx) (pins : List (Addr × Obj)) (D : Ends) (f : Flow) (s' : Shared) : Prop :=
  match f with
  | .next => ∃ σ' H', Inv X pins σ' H' s' ∧ D.nx σ' H'
  | .brk => ∃ σ' H', Inv X pins σ' H' s' ∧ D.bk σ' H'
  | .cont => ∃ σ' H', Inv X pins σ' H' s' ∧ D.ct σ' H'
  | .ret u => ∃ v σ' H', Inv X pins σ' H' s' ∧ RelV v u ∧ D.rt v H'

def PE (X : Cx) (e : Expr) (t : TE) : Prop :=
  ∀ (pins : List (Addr × Obj)) (s : Shared) (σ : St) (H : Hp) (Q : VK), Inv X pins σ H s → t σ H Q → wpAny (model X.prog X.w) X.A (eval e X.env) (EP X pins σ Q) X.xe s
def PT (X : Cx) (e : Expr) (t : TT) : Prop :=
  ∀ (pins : List (Addr × Obj)) (s : Shared) (σ : St) (H : Hp) (Q : Bool → Hp → Prop), Inv X pins σ H s → t σ H Q → wpAny (model X.prog X.w) X.A (isTrue e X.env (eval e X.env)) (TP X pins σ Q) X.xe s
/-- a test whatever its 'whole' is (and, or) -/
def PW (X : Cx) (e : Expr) (t : TT) : Prop :=
  ∀ (whole : Sem Value) (pins : List (Addr × Obj)) (s : Shared) (σ : St) (H : Hp) (Q : Bool → Hp → Prop), Inv X pins σ H s → t σ H Q → wpAny (model X.prog X.w) X.A (isTrue e X.env whole) (TP X pins σ Q) X.xe s
theorem PW.pt {X : Cx} {e : Expr} {t : TT} (h : PW X e t) : PT X e t := h _
/-- an argument list (no star), from the left -/
def PA (X : Cx) (es : List Expr) (t : TA) : Prop :=
  ∀ (pos : Pos) (pins : List (Addr × Obj)) (s : Shared) (σ : St) (H : Hp) (Q : List V → Hp → Prop), Inv X pins σ H s → t σ H Q → wpAny (model X.prog X.w) X.A (spliced (backTo pos (starEach es X.env))) (AP X pins σ Q) X.xe s
def PS (X : Cx) (st : Stmt) (t : TS) : Prop :=
  ∀ (pins : List (Addr × Obj)) (s : Shared) (σ : St) (H : Hp) (D : Ends), Inv X pins σ H s → t D σ H → wpAny (model X.prog X.w) X.A (exec st X.env) (SP X pins D) X.xe s
def PSs (X : Cx) (st : List Stmt) (t : TS) : Prop :=
  ∀ (pins : List (Addr × Obj)) (s : Shared) (σ : St) (H : Hp) (D : Ends), Inv X pins σ H s → t D σ H → wpAny (model X.prog X.w) X.A (execs st X.env) (SP X pins D) X.xe s
/-- weaken the end -/
theorem thn {α : Type} {t : Sem α} {Q Q' : α → Shared → Prop} {M : Model} {A : Around} {E : Value → Shared → Prop} {s : Shared} (h : wpAny M A t Q E s) (hQ : ∀ a s, Q a s → Q' a s) : wpAny M A t Q' E s := wpAny_mono h hQ fun _ _ x => x
end L2

namespace L2
open PySem PySem.Spec PyProof.Rows
section
variable {X : Cx}


/-! ### names and constants -/
def tVar (i : Nat) : TE := fun σ H Q => ∃ v, σ[i]? = some (some v) ∧ Q v H
def tC (v : V) : TE := fun _ H Q => Q v H
theorem pe_var {i : Nat} {x : Str} {pos : Pos} (hN : X.N[i]? = some x) (hv : Vis X.env.scope x) (hd : (x == ("__debug__" : Str)) = false := by decide) (hcd : (x == ("__classdict__" : Str)) = false := by decide) : PE X (.Name x pos) (tVar i) := by
  intro pins s σ H Q I h
  obtain ⟨v, e, h⟩ := h
  obtain ⟨m, hn, hl⟩ := I.loc
  obtain ⟨u, r, l⟩ := hl i x v hN e hv
  have fin : EP X pins σ Q u s := ⟨v, H, I, r, h⟩
  rcases l with ⟨hk, hm⟩ | ⟨hk, c, hc, hcell⟩
  · exact wpAny_Name (wpAny_loadName_local I.ok.kind hk hn hm fin) hd
  · rcases hk with hk | hk
    · exact wpAny_Name (wpAny_loadName_cell I.ok.kind hk hc hcell fin) hd
    · exact wpAny_Name (wpAny_loadName_free I.ok.kind hk hc hcell fin hcd) hd
theorem pe_int {i j pos} : PE X (.Constant (.int i) j pos) (tC (.int i)) := fun _ _ _ H _ I h => wpAny_Constant_int ⟨.int i, H, I.tok _, ⟨_, rfl⟩, h⟩
theorem pe_bl {b j pos} : PE X (.Constant (.bool b) j pos) (tC (.bl b)) := fun _ _ _ H _ I h => Constant_bool ⟨.bl b, H, I, rfl, h⟩
theorem pe_str {x j pos} : PE X (.Constant (.str x) j pos) (tC (.str x)) := fun _ _ _ H _ I h => Calls.Constant_str ⟨.str x, H, I.tok _, ⟨_, rfl⟩, h⟩

/-- a global name of the def -/
def Gl (X : Cx) (x : Str) : Prop := X.env.kindOf x = some .globalImplicit
theorem ld_glob {E : Value → Shared → Prop} {pins : List (Addr × Obj)} {s : Shared} {σ : St} {H : Hp} {x : Str} {u : Value} {pos : Pos} {Q : Value → Shared → Prop} (I : Inv X pins σ H s) (hg : Gl X x) (hm : X.mg x = some u) (h : Q u s)
    (hd : (x == ("__debug__" : Str)) = false := by decide) : wpAny (model X.prog X.w) X.A (eval (.Name x pos) X.env) Q E s :=
  Calls.Name_function_global I.ok.kind hg (Calls.loadGlobal_global (by rw [I.ok.glob]; exact I.mod.glob.keeps I.bk) hm h) hd
theorem ld_blt {E : Value → Shared → Prop} {pins : List (Addr × Obj)} {s : Shared} {σ : St} {H : Hp} {x : Str} {u : Value} {pos : Pos} {Q : Value → Shared → Prop} (I : Inv X pins σ H s) (hg : Gl X x) (hm : X.mg x = none) (hv : bootBuiltins x = some u) (h : Q u s)
    (hn : x ≠ "__name__" := by decide) (hd : (x == ("__debug__" : Str)) = false := by decide) : wpAny (model X.prog X.w) X.A (eval (.Name x pos) X.env) Q E s := by
  obtain ⟨mb, h1, h2⟩ := I.mod.blt
  exact Calls.Name_function_global I.ok.kind hg (Calls.loadGlobal_builtin (by rw [I.ok.glob]; exact I.mod.glob.keeps I.bk) hm (by rw [I.ok.blt]; exact h1.keeps I.bk) ((h2 x hn).trans hv) h) hd
/-- a module's constant, a class, a function, as a value -/
theorem pe_glob {x : Str} {v : V} {u : Value} {pos : Pos} (hg : Gl X x) (hm : X.mg x = some u) (r : RelV v u) (hd : (x == ("__debug__" : Str)) = false := by decide) : PE X (.Name x pos) (tC v) :=
  fun _ _ _ H _ I h => ld_glob I hg hm ⟨v, H, I, r, h⟩ hd
theorem pe_bltn {x : Str} {v : V} {u : Value} {pos : Pos} (hg : Gl X x) (hm : X.mg x = none) (hv : bootBuiltins x = some u) (r : RelV v u) (hn : x ≠ "__name__" := by decide) (hd : (x == ("__debug__" : Str)) = false := by decide) : PE X (.Name x pos) (tC v) :=
  fun _ _ _ H _ I h => ld_blt I hg hm hv ⟨v, H, I, r, h⟩ hn hd

/-! ### arithmetic -/
variable {a b : Expr} {ta tb : TE} {pos : Pos}

/-! ### comparisons -/
def PC (X : Cx) (op : CmpOp) (a b : Expr) (t : TE) : Prop :=
  ∀ (pins : List (Addr × Obj)) (s : Shared) (σ : St) (H : Hp) (Q : VK), Inv X pins σ H s → t σ H Q →
    wpAny (model X.prog X.w) X.A (eval a X.env) (fun v s₁ => wpAny (model X.prog X.w) X.A (eval b X.env) (fun u s₂ => wpAny (model X.prog X.w) X.A (compareOp op v u) (EP X pins σ Q) X.xe s₂) X.xe s₁) X.xe s
/-- a comparison as a value, as a test -/
def tB (t : TE) : TT := fun σ H Q => t σ H fun x H1 => ∃ c, x = .bl c ∧ Q c H1
theorem pt_cmp {op : CmpOp} {t : TE} (h : PC X op a b t) (h1 : behindInMarks op b = false := by first | exact nobehind _ (by decide) (by decide) | rfl) : PT X (.Compare a [op] [b] pos) (tB t) := by
  intro pins s σ H Q I hw
  refine wpAny_isTrue_Compare1 (thn (h pins s σ H _ I hw) fun v s1 h1 => thn h1 fun u s2 h2 => thn h2 ?_) h1
  rintro c s3 ⟨x, H1, I1, r1, q1⟩
  obtain ⟨d, rfl, q⟩ := q1
  cases r1
  exact wpAny_truthy_bool ⟨H1, I1, q⟩
/-- an expression whose value is a bool, as a test -/
theorem pt_val {e : Expr} {t : TE} (h : PE X e t) (he : ∀ whole, isTrue e X.env whole = (do let v ← whole; standAt e.pos; holding [v] (truthy v)) := by intro _; rfl) : PT X e (tB t) := by
  intro pins s σ H Q I hw
  refine isTrue_plain (thn (h pins s σ H _ I hw) ?_) (he _)
  rintro v s1 ⟨x, H1, I1, r1, q1⟩
  obtain ⟨d, rfl, q⟩ := q1
  cases r1
  exact wpAny_truthy_bool ⟨H1, I1, q⟩

/-! ### and, or, not -/
variable {tA tB' : TT} {rest : List Expr}
def tAnd (t u : TT) : TT := fun σ H Q => t σ H fun c H1 => if c = true then u σ H1 Q else Q false H1
def tOr (t u : TT) : TT := fun σ H Q => t σ H fun c H1 => if c = true then Q true H1 else u σ H1 Q
def tNot (t : TT) : TT := fun σ H Q => t σ H fun c H1 => Q (!c) H1
theorem pw_and1 (ha : PT X a tA) : PW X (.BoolOp .And [a] pos) tA := by
  intro wh pins s σ H Q I h
  refine isTrue_and (thn (ha pins s σ H Q I h) fun c s1 e => ?_)
  cases c with
  | true => exact isTrue_and_nil e
  | false => exact e
theorem pw_or1 (ha : PT X a tA) : PW X (.BoolOp .Or [a] pos) tA := by
  intro wh pins s σ H Q I h
  refine isTrue_or (thn (ha pins s σ H Q I h) fun c s1 e => ?_)
  cases c with
  | false => exact isTrue_or_nil e
  | true => exact e
theorem pw_and (ha : PT X a tA) (hb : PW X (.BoolOp .And (b :: rest) pos) tB') : PW X (.BoolOp .And (a :: b :: rest) pos) (tAnd tA tB') := by
  intro wh pins s σ H Q I h
  refine isTrue_and (thn (ha pins s σ H _ I h) ?_)
  rintro c s1 ⟨H1, I1, q1⟩
  cases c with
  | true => exact hb wh pins s1 σ H1 Q I1 q1
  | false => exact ⟨H1, I1, q1⟩
theorem pw_or (ha : PT X a tA) (hb : PW X (.BoolOp .Or (b :: rest) pos) tB') : PW X (.BoolOp .Or (a :: b :: rest) pos) (tOr tA tB') := by
  intro wh pins s σ H Q I h
  refine isTrue_or (thn (ha pins s σ H _ I h) ?_)
  rintro c s1 ⟨H1, I1, q1⟩
  cases c with
  | true => exact ⟨H1, I1, q1⟩
  | false => exact hb wh pins s1 σ H1 Q I1 q1
theorem pt_not (ha : PT X a tA) : PT X (.UnaryOp .Not a pos) (tNot tA) := by
  intro pins s σ H Q I h
  exact isTrue_not (ha pins s σ H (fun c H1 => Q (!c) H1) I h)
/-- a if t else b -/
def tIf (t : TT) (ta tb : TE) : TE := fun σ H Q => t σ H fun c H1 => if c = true then ta σ H1 Q else tb σ H1 Q
theorem pe_ifExp {c : Expr} (hc : PT X c tA) (ha : PE X a ta) (hb : PE X b tb) : PE X (.IfExp c a b pos) (tIf tA ta tb) := by
  intro pins s σ H Q I h
  refine wpAny_IfExp (thn (hc pins s σ H _ I h) ?_)
  rintro d s1 ⟨H1, I1, q1⟩
  cases d with
  | true => exact ha pins s1 σ H1 Q I1 q1
  | false => exact hb pins s1 σ H1 Q I1 q1
end
end L2

namespace L2
open PySem PySem.Spec PyProof.Rows

/-! ### a list, a tuple that is read: tracked, frozen, or an object of the module -/
def SqL (K : PySem.W.Frag) (H : Hp) (a : Addr) (xs : List V) : Prop :=
  Rd H a (.lst xs) ∨
    ∃ (o : Obj) (its : Array Value) (n : Nat), K.lookup a = some o ∧ o.cls = .type "list" ∧ o.dict = none ∧ o.data = .seq its n ∧ its.size ≤ sizeLine ∧ Vals xs its.toList
def SqT (K : PySem.W.Frag) (H : Hp) (a : Addr) (xs : List V) : Prop :=
  Rd H a (.tup xs) ∨
    ∃ (o : Obj) (its : Array Value) (n : Nat), K.lookup a = some o ∧ o.cls = .type "tuple" ∧ o.data = .seq its n ∧ its.size ≤ sizeLine ∧ Vals xs its.toList
def absV : Value → Option V
  | .none => some .non
  | .bool b => some (.bl b)
  | .int i _ => some (.int i)
  | .str x _ => some (.str x)
  | .bytes b _ => some (.byt b)
  | .float b _ => some (.flt b)
  | .ref a => some (.ref a)
  | .type n => some (.ty n)
  | _ => none
theorem RelV.abs {x : V} {u : Value} (r : RelV x u) : absV u = some x := by
  cases x with
  | non => cases r; rfl
  | bl _ => cases r; rfl
  | int _ => obtain ⟨t, rfl⟩ := r; rfl
  | str _ => obtain ⟨t, rfl⟩ := r; rfl
  | byt _ => obtain ⟨t, rfl⟩ := r; rfl
  | flt _ => obtain ⟨t, rfl⟩ := r; rfl
  | ref _ => cases r; rfl
  | ty _ => cases r; rfl
theorem RelV.inj {x y : V} {u : Value} (r : RelV x u) (q : RelV y u) : x = y := Option.some.inj (r.abs.symm.trans q.abs)
theorem Vals.inj : ∀ {xs ys : List V} {us : List Value}, Vals xs us → Vals ys us → xs = ys
  | _, _, _, .nil, .nil => rfl
  | _, _, _, .cons r t, .cons r' t' => by rw [r.inj r', Vals.inj t t']
section
variable {X : Cx} {pins : List (Addr × Obj)} {σ : St} {H : Hp} {s : Shared} {a : Addr} {xs ys : List V}
theorem SqL.of {K : PySem.W.Frag} (h : H a = some (.lst xs)) : SqL K H a xs := .inl (.inl h)
theorem SqT.of {K : PySem.W.Frag} (h : H a = some (.tup xs)) : SqT K H a xs := .inl (.inl h)
theorem Inv.list (I : Inv X pins σ H s) (h : SqL X.K H a xs) : ∃ its : List Value, Vals xs its ∧ PlainL s.heap a its.toArray ∧ xs.length ≤ sizeLine := by
  rcases h with h | ⟨o, its, n, hk, hc, hd, hs, hz, r⟩
  · obtain ⟨z, its, n, r, e⟩ := h.ok I.hok
    exact ⟨its, r, ⟨_, n, e, rfl, rfl, rfl⟩, z⟩
  · refine ⟨its.toList, r, ⟨o, n, I.kIn a o hk, hc, hd, by simpa using hs⟩, ?_⟩
    have e := r.length
    simp only [Array.length_toList] at e
    lia
theorem Inv.tuple (I : Inv X pins σ H s) (h : SqT X.K H a xs) : ∃ its : List Value, Vals xs its ∧ IsTup s.heap a its.toArray ∧ xs.length ≤ sizeLine := by
  rcases h with h | ⟨o, its, n, hk, hc, hs, hz, r⟩
  · obtain ⟨z, its, r, p⟩ := h.ok I.hok
    exact ⟨its, r, p.tup, z⟩
  · refine ⟨its.toList, r, ⟨o, I.kIn a o hk, hc, n, by simpa using hs⟩, ?_⟩
    have e := r.length
    simp only [Array.length_toList] at e
    lia
theorem Inv.list_inj (I : Inv X pins σ H s) (h : SqL X.K H a xs) (h' : SqL X.K H a ys) : xs = ys := by
  obtain ⟨its, r, ⟨o, n, e, _, _, d⟩, _⟩ := I.list h
  obtain ⟨its', r', ⟨o', n', e', _, _, d'⟩, _⟩ := I.list h'
  rw [e] at e'; cases e'
  rw [d] at d'
  injection d' with d1 _
  have : its = its' := by simpa using congrArg Array.toList d1
  subst this
  exact r.inj r'
theorem Inv.tuple_inj (I : Inv X pins σ H s) (h : SqT X.K H a xs) (h' : SqT X.K H a ys) : xs = ys := by
  obtain ⟨its, r, ⟨o, e, _, n, d⟩, _⟩ := I.tuple h
  obtain ⟨its', r', ⟨o', e', _, n', d'⟩, _⟩ := I.tuple h'
  rw [e] at e'; cases e'
  rw [d] at d'
  injection d' with d1 _
  have : its = its' := by simpa using congrArg Array.toList d1
  subst this
  exact r.inj r'
end

/-! ### another wish about exceptions -/
abbrev Cx.wish (X : Cx) (E : Value → Shared → Prop) : Cx := { X with xe := E }
/-- no exception leaves -/
abbrev Cx.nox (X : Cx) : Cx := X.wish fun _ _ => False
theorem Cx.Ok.wish {X : Cx} (ok : X.Ok) (E : Value → Shared → Prop) : (X.wish E).Ok :=
  ⟨ok.mod, ok.kind, ok.glob, ok.blt, ok.above, ok.inj, ok.has, ok.cab, ok.hd, ok.frames, ok.stk, ok.exf, ok.bs, ok.bsz, ok.noex, ok.exfs, ok.funs, ok.frf⟩
theorem Cx.Ok.unwish {X : Cx} {E : Value → Shared → Prop} (ok : (X.wish E).Ok) : X.Ok :=
  ⟨ok.mod, ok.kind, ok.glob, ok.blt, ok.above, ok.inj, ok.has, ok.cab, ok.hd, ok.frames, ok.stk, ok.exf, ok.bs, ok.bsz, ok.noex, ok.exfs, ok.funs, ok.frf⟩
section
variable {X : Cx} {pins : List (Addr × Obj)} {σ : St} {H : Hp} {s : Shared} {E : Value → Shared → Prop}
theorem Inv.wish (I : Inv X pins σ H s) (E : Value → Shared → Prop) : Inv (X.wish E) pins σ H s := ⟨I.ok.wish E, I.os, I.bare, I.base, I.loc, I.cell, I.free, I.freeC, I.pin, I.hok, I.len⟩
theorem Inv.unwish (I : Inv (X.wish E) pins σ H s) : Inv X pins σ H s := ⟨I.ok.unwish, I.os, I.bare, I.base, I.loc, I.cell, I.free, I.freeC, I.pin, I.hok, I.len⟩
theorem SP.unwish {D : Ends} {f : Flow} {s' : Shared} (h : SP (X.wish E) pins D f s') : SP X pins D f s' := by
  cases f with
  | next => obtain ⟨σ', H', I, q⟩ := h; exact ⟨σ', H', I.unwish, q⟩
  | brk => obtain ⟨σ', H', I, q⟩ := h; exact ⟨σ', H', I.unwish, q⟩
  | cont => obtain ⟨σ', H', I, q⟩ := h; exact ⟨σ', H', I.unwish, q⟩
  | ret u => obtain ⟨v, σ', H', I, r, q⟩ := h; exact ⟨v, σ', H', I.unwish, r, q⟩
theorem PSs.nox {st : List Stmt} {t : TS} (h : PSs X.nox st t) : PSs X st t := fun pins s σ H D I hw =>
  wpAny_mono (h pins s σ H D (I.wish _) hw) (fun _ _ q => q.unwish) fun _ _ z => False.elim z
end

/-! ### blocks and small statements -/
section
variable {X : Cx} {st : Stmt} {rest : List Stmt} {t u : TS} {e : Expr} {te : TE} {pos : Pos}
def tNext : TS := fun D σ H => D.nx σ H
def tSeq (t u : TS) : TS := fun D σ H => t { D with nx := u D } σ H
theorem pss_nil : PSs X [] tNext := fun _ _ σ H _ I h => wpAny_execs_nil ⟨σ, H, I, h⟩
theorem pss_cons (h1 : PS X st t) (h2 : PSs X rest u) : PSs X (st :: rest) (tSeq t u) := by
  intro pins s σ H D I h
  refine wpAny_execs_cons (thn (h1 pins s σ H { D with nx := u D } I h) fun f s1 q => ?_)
  cases f with
  | next =>
    obtain ⟨σ', H', I', q⟩ := q
    exact h2 pins s1 σ' H' D I' q
  | ret v => exact q
  | brk => exact q
  | cont => exact q
theorem pss_one (h1 : PS X st t) : PSs X [st] t := by
  intro pins s σ H D I h
  refine wpAny_execs_cons (thn (h1 pins s σ H D I h) fun f s1 q => ?_)
  cases f with
  | next => exact wpAny_execs_nil q
  | ret v => exact q
  | brk => exact q
  | cont => exact q
/-- in a def's body nothing is shown -/
theorem Inv.quiet {pins : List (Addr × Obj)} {σ : St} {H : Hp} {s : Shared} (I : Inv X pins σ H s) : interactive X.env = false := by simp [interactive, I.ok.kind]
/-- an expression whose value is dropped -/
def tDrop (te : TE) : TS := fun D σ H => te σ H fun _ H1 => D.nx σ H1
theorem ps_expr (he : PE X e te) (hs : swapsWith e none pos.line X.env = pure false := by rfl) : PS X (.Expr e pos) (tDrop te) := by
  intro pins s σ H D I h
  refine wpAny_Expr_any (thn (he pins s σ H _ I h) ?_) I.quiet hs
  rintro v s1 ⟨x, H1, I1, r1, q1⟩
  exact ⟨σ, H1, I1, q1⟩
def tRet (te : TE) : TS := fun D σ H => te σ H D.rt
theorem ps_ret (he : PE X e te) : PS X (.Return (some e) pos) (tRet te) := by
  intro pins s σ H D I h
  refine wpAny_Return_some (thn (he pins s σ H _ I h) ?_)
  rintro v s1 ⟨x, H1, I1, r1, q1⟩
  exact ⟨x, σ, H1, I1, r1, q1⟩
def tIfS (c : TT) (t u : TS) : TS := fun D σ H => c σ H fun b H1 => if b = true then t D σ H1 else u D σ H1
theorem ps_if {c : Expr} {a b : List Stmt} {tc : TT} (hc : PT X c tc) (ha : PSs X a t) (hb : PSs X b u) : PS X (.If c a b pos) (tIfS tc t u) := by
  intro pins s σ H D I h
  refine wpAny_If (thn (hc pins s σ H _ I h) ?_)
  rintro d s1 ⟨H1, I1, q1⟩
  cases d with
  | true => exact ha pins s1 σ H1 D I1 q1
  | false => exact hb pins s1 σ H1 D I1 q1
end

/-! ### targets -/
abbrev TG := V → St → Hp → (St → Hp → Prop) → Prop
abbrev TGs := List V → St → Hp → (St → Hp → Prop) → Prop
def PG (X : Cx) (target : Expr) (t : TG) : Prop :=
  ∀ (pins : List (Addr × Obj)) (s : Shared) (σ : St) (H : Hp) (v : V) (u : Value) (Q : St → Hp → Prop), Inv X pins σ H s → RelV v u → t v σ H Q →
    wpAny (model X.prog X.w) X.A (assign target X.env u) (fun _ s' => ∃ σ' H', Inv X pins σ' H' s' ∧ Q σ' H') X.xe s
/-- several targets, one after another -/
def PGs (X : Cx) (ts : List Expr) (t : TGs) : Prop :=
  ∀ (pins : List (Addr × Obj)) (s : Shared) (σ : St) (H : Hp) (vs : List V) (us : List Value) (Q : St → Hp → Prop), Inv X pins σ H s → Vals vs us → t vs σ H Q →
    wpAny (model X.prog X.w) X.A (assignInOrder ((assignEach ts X.env).map (·.2)) us) (fun _ s' => ∃ σ' H', Inv X pins σ' H' s' ∧ Q σ' H') X.xe s
/-- o[i] = v, by values -/
abbrev TSet := V → V → V → Hp → (Hp → Prop) → Prop
def PSet (X : Cx) (t : TSet) : Prop :=
  ∀ (pins : List (Addr × Obj)) (s : Shared) (σ : St) (H : Hp) (o i v : V) (ov iv u : Value) (Q : Hp → Prop), Inv X pins σ H s → RelV o ov → RelV i iv → RelV v u → t o i v H Q →
    wpAny (model X.prog X.w) X.A (setItem ov iv u) (fun _ s' => ∃ H', Inv X pins σ H' s' ∧ Q H') X.xe s
/-- a op= b, by values -/
abbrev TIp := V → V → Hp → VK → Prop
def PIp (X : Cx) (op : Operator) (t : TIp) : Prop :=
  ∀ (pins : List (Addr × Obj)) (s : Shared) (σ : St) (H : Hp) (x y : V) (v u : Value) (Q : VK), Inv X pins σ H s → RelV x v → RelV y u → t x y H Q →
    wpAny (model X.prog X.w) X.A (inplaceOp op v u) (EP X pins σ Q) X.xe s
section
variable {X : Cx} {pos : Pos}
def gName (i : Nat) : TG := fun v σ H Q => Q (σ.set i (some v)) H
theorem pg_name {i : Nat} {x : Str} (hN : X.N.Nodup) (hi : X.N[i]? = some x) (hx : Loc X.env.scope x) (hf : X.fn x = true ∨ X.env.scope.names.lookup x = some .local := by first | exact .inl rfl | exact .inr rfl | assumption) : PG X (.Name x pos) (gName i) := by
  intro pins s σ H v u Q I r h
  exact wpAny_assign_Name (store_ok I hN hi hx r (fun s' I' => ⟨_, H, I', h⟩) hf)
def gNil : TGs := fun vs σ H Q => vs = [] ∧ Q σ H
def gCons (t : TG) (u : TGs) : TGs := fun vs σ H Q => ∃ v r, vs = v :: r ∧ t v σ H fun σ' H' => u r σ' H' Q
theorem pgs_nil : PGs X [] gNil := by
  intro pins s σ H vs us Q I r h
  obtain ⟨e, h⟩ := h
  subst e
  cases r
  exact assignInOrder_nil ⟨σ, H, I, h⟩
theorem pgs_cons {e : Expr} {es : List Expr} {t : TG} {u : TGs} (h1 : PG X e t) (h2 : PGs X es u)
    (hs : (assignEach (e :: es) X.env).map (·.2) = assign e X.env :: (assignEach es X.env).map (·.2) := by rfl) : PGs X (e :: es) (gCons t u) := by
  intro pins s σ H vs us Q I r h
  obtain ⟨v, vr, e1, h⟩ := h
  subst e1
  cases r with
  | cons r rr =>
    rw [hs]
    refine assignInOrder_cons (thn (h1 pins s σ H _ _ _ I r h) ?_)
    rintro _ s1 ⟨σ1, H1, I1, q1⟩
    exact h2 pins s1 σ1 H1 _ _ Q I1 rr q1
/-- (a, b, ..) = a tuple of that length -/
def gTup (K : PySem.W.Frag) (n : Nat) (t : TGs) : TG := fun v σ H Q => ∃ a xs, v = .ref a ∧ SqT K H a xs ∧ xs.length = n ∧ t xs σ H Q
theorem pg_tup {es : List Expr} {k : Nat} {t : TGs} {n : Nat} (hc : X.calm = true) (h : PGs X es t)
    (hn : (assignEach es X.env).length = n := by rfl) (hst : (assignEach es X.env).findIdx? (·.1) = none := by rfl) : PG X (.Tuple es k pos) (gTup X.K n t) := by
  intro pins s σ H v u Q I r hw
  obtain ⟨a, xs, e1, hq, hl, hw⟩ := hw
  subst e1
  cases r
  obtain ⟨its, rv, ht, hz⟩ := I.tuple hq
  refine assign_Tuple_tuple (I.ok.hd hc) ht (by simp [hn, ← hl, rv.length]) hst fun h' hx => ?_
  have I1 : Inv X pins σ H { s with heap := h' } := I.kept (t' := s.toks) fun b o e => hx b o (Nat.ne_of_lt (Heap.lt_size e)) e
  exact h pins _ σ H xs _ Q I1 (by simpa using rv) hw
/-- o[i] = .. -/
def gSub (to ti : TE) (t : TSet) : TG := fun v σ H Q => to σ H fun o H1 => ti σ H1 fun i H2 => t o i v H2 fun H3 => Q σ H3
theorem pg_sub {o i : Expr} {to ti : TE} {t : TSet} (ho : PE X o to) (hi : PE X i ti) (hs : PSet X t)
    (ha : ∀ v, assign (.Subscript o i pos) X.env v = (do
      let ov ← holding [v] (eval o X.env)
      let iv ← holding [v, ov] (eval i X.env)
      standAt pos
      holding [v, ov, iv] (setItem ov iv v)
      release [v, ov, iv] []) := by intro _; rfl) : PG X (.Subscript o i pos) (gSub to ti t) := by
  intro pins s σ H v u Q I r h
  rw [ha]
  refine wpAny_bind (wpAny_holding (thn (ho pins s σ H _ I h) ?_))
  rintro ov s1 ⟨x, H1, I1, r1, q1⟩
  refine wpAny_bind (wpAny_holding (thn (hi pins s1 σ H1 _ I1 q1) ?_))
  rintro iv s2 ⟨y, H2, I2, r2, q2⟩
  refine wpAny_bind (wpAny_standAt (wpAny_bind (wpAny_holding (thn (hs pins s2 σ H2 x y v ov iv u _ I2 r1 r2 r q2) ?_))))
  rintro _ s3 ⟨H3, I3, q3⟩
  exact wpAny_release ⟨σ, H3, I3, q3⟩
/-- target = value -/
def tAsg (te : TE) (g : TG) : TS := fun D σ H => te σ H fun x H1 => g x σ H1 D.nx
theorem ps_asg {tg e : Expr} {te : TE} {g : TG} (he : PE X e te) (hg : PG X tg g) (hs : swapsWithSole [tg] e pos.line X.env = pure false := by rfl) (hw : swappedStores [tg] e X.env = pure none := by rfl)
    (h1 : (assignEach [tg] X.env).map (·.2) = [assign tg X.env] := by rfl) : PS X (.Assign [tg] e pos) (tAsg te g) := by
  intro pins s σ H D I h
  refine wpAny_Assign_stores (thn (he pins s σ H _ I h) ?_) hs hw
  rintro v s1 ⟨x, H1, I1, r1, q1⟩
  rw [h1]
  exact thn (hg pins s1 σ H1 x v _ I1 r1 q1) fun _ s2 q => q
/-- name = value -/
theorem ps_set {i : Nat} {x : Str} {e : Expr} {te : TE} {pos' : Pos} (hN : X.N.Nodup) (hi : X.N[i]? = some x) (hx : Loc X.env.scope x) (he : PE X e te) (hs : swapsWith e (some (.Name x pos')) pos.line X.env = pure false := by rfl) (hf : X.fn x = true ∨ X.env.scope.names.lookup x = some .local := by first | exact .inl rfl | exact .inr rfl | assumption) :
    PS X (.Assign [.Name x pos'] e pos) (tAsg te (gName i)) := by
  intro pins s σ H D I h
  refine wpAny_Assign_Name (thn (he pins s σ H _ I h) ?_) hs
  rintro v s1 ⟨y, H1, I1, r1, q1⟩
  exact store_ok I1 hN hi hx r1 (fun s2 I2 => ⟨_, H1, I2, q1⟩) hf
/-- name op= e -/
def tAug (i : Nat) (te : TE) (ti : TIp) : TS := fun D σ H => ∃ x, σ[i]? = some (some x) ∧ te σ H fun y H1 => ti x y H1 fun z H2 => D.nx (σ.set i (some z)) H2
theorem ps_aug {i : Nat} {x : Str} {e : Expr} {te : TE} {op : Operator} {ti : TIp} {pos' : Pos} (hN : X.N.Nodup) (hi : X.N[i]? = some x) (hx : Loc X.env.scope x) (he : PE X e te) (ho : PIp X op ti) (hf : X.fn x = true ∨ X.env.scope.names.lookup x = some .local := by first | exact .inl rfl | exact .inr rfl | assumption) :
    PS X (.AugAssign (.Name x pos') op e pos) (tAug i te ti) := by
  intro pins s σ H D I h
  obtain ⟨v, e1, h⟩ := h
  obtain ⟨m, hn, hl⟩ := I.loc
  have vis : Vis X.env.scope x := by rcases hx with k | k; exact .inl k; exact .inr (.inl k)
  obtain ⟨u, r, l⟩ := hl i x v hi e1 vis
  refine wpAny_AugAssign_Name ?_
  have go : wpAny (model X.prog X.w) X.A (eval e X.env) (fun w s₂ => wpAny (model X.prog X.w) X.A (inplaceOp op u w) (fun r s₃ => wpAny (model X.prog X.w) X.A (storeName X.env x r) (fun _ => SP X pins D .next) X.xe s₃) X.xe s₂) X.xe s := by
    refine thn (he pins s σ H _ I h) ?_
    rintro w s1 ⟨y, H1, I1, r1, q1⟩
    refine thn (ho pins s1 σ H1 v y u w _ I1 r r1 q1) ?_
    rintro z s2 ⟨zv, H2, I2, r2, q2⟩
    exact store_ok I2 hN hi hx r2 (fun s3 I3 => ⟨_, H2, I3, q2⟩) hf
  rcases l with ⟨hk, hm⟩ | ⟨hk, c, hc, hcell⟩
  · exact wpAny_loadName_local I.ok.kind hk hn hm go
  · rcases hk with hk | hk
    · exact wpAny_loadName_cell I.ok.kind hk hc hcell go
    · rcases hx with k | k
      · have : X.env.scope.names.lookup x = some .free := hk
        rw [k] at this; cases this
      · have : X.env.scope.names.lookup x = some .free := hk
        rw [k] at this; cases this
end

/-! ### while -/
section
variable {X : Cx} {pos : Pos}
/-- the invariant W with its measure -/
def tWhile (c : TT) (tb : TS) : TS := fun D σ H => ∃ W : Nat → St → Hp → Prop, (∃ m, W m σ H) ∧ ∀ m σ H, W m σ H →
  c σ H fun b H1 => if b = true then ∃ N : St → Hp → Prop, (∀ σ' H', N σ' H' → ∃ m', m' < m ∧ W m' σ' H') ∧ tb { D with nx := N, ct := N, bk := D.nx } σ H1 else D.nx σ H1
theorem ps_while {c : Expr} {body : List Stmt} {tc : TT} {tb : TS} (hp : PassesOwn (model X.prog X.w) X.A X.env X.xe) (hc : PT X c tc) (hb : PSs X body tb) : PS X (.While c body [] pos) (tWhile tc tb) := by
  intro pins s σ H D I h
  obtain ⟨W, ⟨m0, w0⟩, turn⟩ := h
  refine wpAny_While (codeAny_whileLoop (fun n s' => ∃ σ' H', Inv X pins σ' H' s' ∧ W n σ' H') ?_ m0 ⟨σ, H, I, w0⟩)
  rintro n s1 ⟨σ1, H1, I1, w1⟩
  refine wpAny_passesOwn hp (thn (hc pins s1 σ1 H1 _ I1 (turn n σ1 H1 w1)) ?_)
  rintro b s2 ⟨H2, I2, q2⟩
  cases b with
  | true =>
    obtain ⟨N, hN, q2⟩ := q2
    rw [if_pos rfl]
    refine wpAny_passesOwn hp (thn (hb pins s2 σ1 H2 _ I2 q2) fun f s3 q3 => ?_)
    cases f with
    | next =>
      obtain ⟨σ3, H3, I3, n3⟩ := q3
      obtain ⟨m', hm, w3⟩ := hN σ3 H3 n3
      exact ⟨m', hm, σ3, H3, I3, w3⟩
    | cont =>
      obtain ⟨σ3, H3, I3, n3⟩ := q3
      obtain ⟨m', hm, w3⟩ := hN σ3 H3 n3
      exact ⟨m', hm, σ3, H3, I3, w3⟩
    | brk => exact q3
    | ret v => exact q3
  | false =>
    rw [if_neg Bool.false_ne_true]
    exact wpAny_execs_nil ⟨σ1, H2, I2, q2⟩
end

/-! ### what a loop or a comprehension walks -/
/-- at turn i: it yields x (the heap may grow), or it stops -/
structure It where
  go : Nat → Hp → Prop
  yld : Nat → Hp → V → Hp → Prop
  stop : Nat → Hp → Prop
/-- the iterator's own objects may turn: they are not the frame's, not pinned, younger than the entry (or a comprehension's own) -/
def FpOk (X : Cx) (pins : List (Addr × Obj)) (H : Hp) (b : Addr) : Prop :=
  H b = none ∧ b ≠ X.env.locals ∧ b ∉ X.fs ∧ (b ∈ X.ex ∨ X.s₀.heap.objs.size ≤ b) ∧ (∀ x c, X.env.cells.lookup x = some c → c ≠ b) ∧ ∀ p ∈ X.pn ++ pins, p.1 ≠ b
theorem Inv.fpOk {X : Cx} {pins : List (Addr × Obj)} {σ : St} {H H' : Hp} {s : Shared} {b : Addr} (I : Inv X pins σ H s) (hb : s.heap.objs.size ≤ b) (hn : H' b = none) : FpOk X pins H' b := by
  refine ⟨hn, Nat.ne_of_gt (Nat.lt_of_lt_of_le I.lt hb), I.nofs hb, .inr (Nat.le_trans I.sz hb), fun x c e z => ?_, fun p hp z => ?_⟩
  · obtain ⟨v, q⟩ := I.cell x c e
    exact absurd (Nat.lt_of_lt_of_le q.lt (by rw [z]; exact hb)) (Nat.lt_irrefl _)
  · exact absurd (Nat.lt_of_lt_of_le (Heap.lt_size (I.pin p hp).1) (by rw [z]; exact hb)) (Nat.lt_irrefl _)
structure Turn (P : Program) (w : World) (K : PySem.W.Frag) (tg : Expr) (J : It) (fp : List Addr) (it : Addr) (tn : Nat → Heap → Prop) : Prop where
  mem : it ∈ fp
  obj : ∀ i h, tn i h → ∀ b ∈ fp, ∃ o, h.get? b = some o ∧ ∀ v, o.data ≠ .cell v
  keep : ∀ i h h', tn i h → (∀ b ∈ fp, ∀ o, h.get? b = some o → h'.get? b = some o) → tn i h'
  item : ∀ (X : Cx), X.prog = P → X.w = w → X.K = K → X.calm = true → ∀ (i : Nat) (pins : List (Addr × Obj)) (s : Shared) (σ : St) (H : Hp) (E : Value → Shared → Prop), Inv X pins σ H s → (∀ b ∈ fp, FpOk X pins H b) → tn i s.heap → J.go i H →
    wpAny (model P w) X.A (pyNext (.ref it)) (fun r s1 => ∃ u, r = some u ∧
      wpAny (model P w) X.A (letOwnedTupleGo tg (.ref it) u) (fun _ s2 => ∃ x H', Inv X pins σ H' s2 ∧ RelV x u ∧ J.yld i H x H' ∧ tn (i + 1) s2.heap ∧ ∀ b ∈ fp, H' b = none) E s1) E s
  done : ∀ (X : Cx), X.prog = P → X.w = w → X.K = K → X.calm = true → ∀ (i : Nat) (pins : List (Addr × Obj)) (s : Shared) (σ : St) (H : Hp) (E : Value → Shared → Prop), Inv X pins σ H s → (∀ b ∈ fp, FpOk X pins H b) → tn i s.heap → J.stop i H →
    wpAny (model P w) X.A (pyNext (.ref it)) (fun r s1 => r = none ∧ Inv X pins σ H s1) E s
  self : ∀ (A : Around) (i : Nat) (s : Shared) (Q : Value → Shared → Prop) (E : Value → Shared → Prop), tn i s.heap → Q (.ref it) s → wpAny (model P w) A (pyIter (.ref it)) Q E s
abbrev TI := St → Hp → (It → Hp → Prop) → Prop
/-- an iterator has come -/
def PIE (X : Cx) (pins : List (Addr × Obj)) (σ : St) (tg : Expr) (R : It → Hp → Prop) (itv : Value) (s2 : Shared) : Prop :=
  ∃ (it : Addr) (fp : List Addr) (tn : Nat → Heap → Prop) (J : It) (H' : Hp), itv = .ref it ∧ Inv X pins σ H' s2 ∧ Turn X.prog X.w X.K tg J fp it tn ∧ tn 0 s2.heap ∧ (∀ b ∈ fp, FpOk X pins H' b) ∧ R J H'
def PI (X : Cx) (tg iter : Expr) (wi : TI) : Prop :=
  ∀ (pins : List (Addr × Obj)) (s : Shared) (σ : St) (H : Hp) (R : It → Hp → Prop), Inv X pins σ H s → wi σ H R →
    wpAny (model X.prog X.w) X.A (eval iter X.env) (fun v s1 => wpAny (model X.prog X.w) X.A (pyIter v) (PIE X pins σ tg R) X.xe s1) X.xe s

/-- the step ahead of the store is nothing for an iterator that keeps no tuple -/
theorem go_of {M : Model} {A : Around} {E : Value → Shared → Prop} {s : Shared} {tg : Expr} {it : Addr} {u : Value} {o : Obj} {n : String} {vs : Array Value} {Q : Unit → Shared → Prop} (ho : s.heap.get? it = some o) (hc : o.cls = .type n) (hd : o.data = .fields vs)
    (hn : ["enumerate", "zip", "dict_itemiterator", "dict_reverseitemiterator", "odict_iterator", "itertools.zip_longest", "itertools.pairwise"].contains n = false) (hQ : Q () s) : wpAny M A (letOwnedTupleGo tg (.ref it) u) Q E s := by
  unfold letOwnedTupleGo
  cases tg <;> first
    | exact wpAny_pure hQ
    | (cases u <;> first
        | exact wpAny_pure hQ
        | (refine wpAny_bind (wpAny_load ho ?_)
           rw [hc, hd]
           show wpAny M A (if (["enumerate", "zip", "dict_itemiterator", "dict_reverseitemiterator", "odict_iterator", "itertools.zip_longest", "itertools.pairwise"].contains n && vs[0]? == some (rawInt _)) = true then _ else _) Q E s
           rw [if_neg (by intro h; rw [hn, Bool.false_and] at h; cases h)]
           exact wpAny_pure hQ))

/-- the list at a, as it stands at each turn (a loop may append to it) -/
def Itl (K : PySem.W.Frag) (a : Addr) : It :=
  ⟨fun i H => ∃ xs x, SqL K H a xs ∧ xs[i]? = some x, fun i H x H' => H' = H ∧ ∀ xs, SqL K H a xs → xs[i]? = some x, fun i H => ∃ xs, SqL K H a xs ∧ xs.length ≤ i⟩
def Itt (K : PySem.W.Frag) (a : Addr) : It :=
  ⟨fun i H => ∃ xs x, SqT K H a xs ∧ xs[i]? = some x, fun i H x H' => H' = H ∧ ∀ xs, SqT K H a xs → xs[i]? = some x, fun i H => ∃ xs, SqT K H a xs ∧ xs.length ≤ i⟩
/-- lo, lo + 1, .. (n of them) -/
def Itr (lo : Int) (n : Nat) : It := ⟨fun i _ => i < n, fun i H x H' => H' = H ∧ x = .int (lo + i), fun i _ => n ≤ i⟩
theorem turn_list {P : Program} {w : World} {K : PySem.W.Frag} {tg : Expr} (a it : Addr) : Turn P w K tg (Itl K a) [it] it (fun i h => h.IsListIter it a i) where
  mem := by simp
  obj := fun i h st b hb => by
    have e : b = it := by simpa using hb
    subst e
    obtain ⟨o, e, c, d⟩ := st
    exact ⟨o, e, fun v z => by rw [d] at z; cases z⟩
  keep := fun i h h' st k => st.at fun o e => k it (by simp) o e
  item := by
    intro X hP hw hK hc i pins s σ H E I hf st hg
    subst hP hw hK
    obtain ⟨xs, x, hq, hx⟩ := hg
    obtain ⟨its, rv, p, hz⟩ := I.list hq
    obtain ⟨u, hu, ru⟩ := rv.get hx
    obtain ⟨f0, f1, f2, f3, f4, f5⟩ := hf it (by simp)
    refine wpAny_pyNext_list_item st p.isList (x := u) (by simpa using hu) fun h' st' sb => ?_
    have I1 : Inv X pins σ H { s with heap := h' } := I.turned (t' := s.toks) (fun b o hb e => (sb.2 b hb).trans e) f0 f1 f3 f4 f5
    obtain ⟨o, e, c, d⟩ := id st'
    exact ⟨u, rfl, go_of (s := { s with heap := h' }) e c d (by decide) ⟨x, H, I1, ru, ⟨rfl, fun ys hy => by rw [I.list_inj hy hq]; exact hx⟩, st', fun b hb => (hf b hb).1⟩⟩
  done := by
    intro X hP hw hK hc i pins s σ H E I hf st hg
    subst hP hw hK
    obtain ⟨xs, hq, hx⟩ := hg
    obtain ⟨its, rv, p, hz⟩ := I.list hq
    obtain ⟨f0, f1, f2, f3, f4, f5⟩ := hf it (by simp)
    have hl := rv.length
    exact wpAny_pyNext_list_end (I.ok.hd hc) st p.isList (by simp; lia) fun h' eb => ⟨rfl, I.turned (t' := s.toks) (fun b o hb e => eb b o hb e) f0 f1 f3 f4 f5⟩
  self := fun _ _ _ _ _ st h => wpAny_pyIter_listiter st h
theorem turn_tuple {P : Program} {w : World} {K : PySem.W.Frag} {tg : Expr} (a it : Addr) : Turn P w K tg (Itt K a) [it] it (fun i h => h.IsTupleIter it a i) where
  mem := by simp
  obj := fun i h st b hb => by
    have e : b = it := by simpa using hb
    subst e
    obtain ⟨o, e, c, d⟩ := st
    exact ⟨o, e, fun v z => by rw [d] at z; cases z⟩
  keep := fun i h h' st k => st.at fun o e => k it (by simp) o e
  item := by
    intro X hP hw hK hc i pins s σ H E I hf st hg
    subst hP hw hK
    obtain ⟨xs, x, hq, hx⟩ := hg
    obtain ⟨its, rv, p, hz⟩ := I.tuple hq
    obtain ⟨u, hu, ru⟩ := rv.get hx
    obtain ⟨f0, f1, f2, f3, f4, f5⟩ := hf it (by simp)
    refine wpAny_pyNext_tuple_item st (show s.heap.IsTuple a its.toArray from p) (x := u) (by simpa using hu) fun h' st' sb => ?_
    have I1 : Inv X pins σ H { s with heap := h' } := I.turned (t' := s.toks) (fun b o hb e => (sb.2 b hb).trans e) f0 f1 f3 f4 f5
    obtain ⟨o, e, c, d⟩ := id st'
    exact ⟨u, rfl, go_of (s := { s with heap := h' }) e c d (by decide) ⟨x, H, I1, ru, ⟨rfl, fun ys hy => by rw [I.tuple_inj hy hq]; exact hx⟩, st', fun b hb => (hf b hb).1⟩⟩
  done := by
    intro X hP hw hK hc i pins s σ H E I hf st hg
    subst hP hw hK
    obtain ⟨xs, hq, hx⟩ := hg
    obtain ⟨its, rv, p, hz⟩ := I.tuple hq
    obtain ⟨f0, f1, f2, f3, f4, f5⟩ := hf it (by simp)
    have hl := rv.length
    exact wpAny_pyNext_tuple_end (I.ok.hd hc) st (show s.heap.IsTuple a its.toArray from p) (by simp; lia) fun h' eb => ⟨rfl, I.turned (t' := s.toks) (fun b o hb e => eb b o hb e) f0 f1 f3 f4 f5⟩
  self := fun _ _ _ _ _ st h => wpAny_pyIter_tupleiter st h
theorem turn_range {P : Program} {w : World} {K : PySem.W.Frag} {tg : Expr} (it : Addr) (lo : Int) (n : Nat) : Turn P w K tg (Itr lo n) [it] it (fun i h => IsRangeIter h it (lo + (i : Nat) * 1) ((n : Int) - (i : Nat)) 1) where
  mem := by simp
  obj := fun i h st b hb => by
    have e : b = it := by simpa using hb
    subst e
    exact ⟨_, st, fun v z => by
      have z' : Data.fields _ = Data.cell v := z
      cases z'⟩
  keep := fun i h h' st k => k it (by simp) _ st
  item := by
    intro X hP hw hK hc i pins s σ H E I hf st hg
    subst hP hw hK
    obtain ⟨f0, f1, f2, f3, f4, f5⟩ := hf it (by simp)
    have W := Walks.range (prog := X.prog) (w := X.w) (I.ok.hd hc) it lo 1 n
    refine W.item i s _ _ hg st fun v h' tk hv st' kk => ?_
    obtain ⟨t, rfl⟩ := hv
    have I1 : Inv X pins σ H { s with heap := h', toks := tk } := I.turned (fun b o hb e => kk b o (by simpa using hb) e) f0 f1 f3 f4 f5
    refine ⟨_, rfl, go_of (s := { s with heap := h', toks := tk }) (n := "range_iterator") st' rfl rfl (by decide) ⟨.int (lo + i), H, I1, ⟨t, ?_⟩, ⟨rfl, rfl⟩, st', fun b hb => (hf b hb).1⟩⟩
    rw [Int.mul_one]
  done := by
    intro X hP hw hK hc i pins s σ H E I hf st hg
    subst hP hw hK
    obtain ⟨f0, f1, f2, f3, f4, f5⟩ := hf it (by simp)
    exact wpAny_pyNext_range_end (I.ok.hd hc) st (by have : n ≤ i := hg; lia) fun h' eb => ⟨rfl, I.turned (t' := s.toks) (fun b o hb e => eb b o hb e) f0 f1 f3 f4 f5⟩
  self := fun _ _ _ _ _ st h => wpAny_pyIter_rangeiter st h
end L2

namespace L2
open PySem PySem.Spec PyProof.Rows
section
variable {X : Cx} {tg : Expr}
def iList (K : PySem.W.Frag) (tl : TE) : TI := fun σ H R => tl σ H fun x H1 => ∃ a, x = .ref a ∧ (∃ xs, SqL K H1 a xs) ∧ R (Itl K a) H1
def iTup (K : PySem.W.Frag) (tl : TE) : TI := fun σ H R => tl σ H fun x H1 => ∃ a, x = .ref a ∧ (∃ xs, SqT K H1 a xs) ∧ R (Itt K a) H1
theorem pi_list {l : Expr} {tl : TE} (hl : PE X l tl) : PI X tg l (iList X.K tl) := by
  intro pins s σ H R I h
  refine thn (hl pins s σ H _ I h) ?_
  rintro v s1 ⟨x, H1, I1, r1, q1⟩
  obtain ⟨a, e, ⟨xs, hq⟩, q⟩ := q1
  subst e
  cases r1
  obtain ⟨its, rv, p, hz⟩ := I1.list hq
  refine wpAny_pyIter_list p.isList ?_
  refine ⟨s1.heap.objs.size, [s1.heap.objs.size], _, _, H1, rfl, I1.kept (t' := s1.toks) fun b o e => Heap.get?_push_of_some _ e, turn_list a _, ⟨_, Heap.get?_push_size _ rfl, rfl, rfl⟩, fun b hb => ?_, q⟩
  have e : b = s1.heap.objs.size := by simpa using hb
  subst e
  exact I1.fpOk (Nat.le_refl _) (I1.hok.fresh (Nat.le_refl _))
theorem pi_tup {l : Expr} {tl : TE} (hl : PE X l tl) : PI X tg l (iTup X.K tl) := by
  intro pins s σ H R I h
  refine thn (hl pins s σ H _ I h) ?_
  rintro v s1 ⟨x, H1, I1, r1, q1⟩
  obtain ⟨a, e, ⟨xs, hq⟩, q⟩ := q1
  subst e
  cases r1
  obtain ⟨its, rv, p, hz⟩ := I1.tuple hq
  refine wpAny_pyIter_tuple (show s1.heap.IsTuple a its.toArray from p) ?_
  refine ⟨s1.heap.objs.size, [s1.heap.objs.size], _, _, H1, rfl, I1.kept (t' := s1.toks) fun b o e => Heap.get?_push_of_some _ e, turn_tuple a _, ⟨_, Heap.get?_push_size _ rfl, rfl, rfl⟩, fun b hb => ?_, q⟩
  have e : b = s1.heap.objs.size := by simpa using hb
  subst e
  exact I1.fpOk (Nat.le_refl _) (I1.hok.fresh (Nat.le_refl _))
/-- a range object just made, walked -/
theorem range_it {pins : List (Addr × Obj)} {σ : St} {H : Hp} {s : Shared} {R : It → Hp → Prop} {E : Value → Shared → Prop} {lo hi : Int} {t u v : Tok} {tk : Nat} (I : Inv X pins σ H s) (h1 : -(2 ^ 62) ≤ lo) (h2 : lo < 2 ^ 62) (h3 : -(2 ^ 62) ≤ hi) (h4 : hi < 2 ^ 62)
    (q : R (Itr lo (hi - lo).toNat) H) : wpAny (model X.prog X.w) X.A (pyIter (.ref s.heap.objs.size)) (PIE X pins σ tg R) E { s with heap := s.heap.push { cls := .type "range", data := .fields #[.int lo t, .int hi u, .int 1 v] }, toks := tk } := by
  refine wpAny_pyIter_range (IsRange.new ..) (small_one h1 h2 h3 h4) ?_
  have I1 : Inv X pins σ H { s with heap := s.heap.push { cls := .type "range", data := .fields #[.int lo t, .int hi u, .int 1 v] }, toks := tk } := I.kept fun b o e => Heap.get?_push_of_some _ e
  refine ⟨(s.heap.push { cls := .type "range", data := .fields #[.int lo t, .int hi u, .int 1 v] }).objs.size, [(s.heap.push { cls := .type "range", data := .fields #[.int lo t, .int hi u, .int 1 v] }).objs.size], _, _, H, rfl,
    I1.kept (t' := tk) fun b o e => Heap.get?_push_of_some _ e, turn_range _ lo (hi - lo).toNat, ?_, fun b hb => ?_, q⟩
  · have e1 : lo + ((0 : Nat) : Int) * 1 = lo := by simp
    have e2 : (((hi - lo).toNat : Nat) : Int) - ((0 : Nat) : Int) = Builtin.Range.rangeSize lo hi 1 := by rw [rangeSize_one]; split <;> lia
    show IsRangeIter _ _ (lo + ((0 : Nat) : Int) * 1) ((((hi - lo).toNat : Nat) : Int) - ((0 : Nat) : Int)) 1
    rw [e1, e2]
    exact Heap.get?_push_size _ rfl
  · have e : b = (s.heap.push { cls := .type "range", data := .fields #[.int lo t, .int hi u, .int 1 v] }).objs.size := by simpa using hb
    subst e
    exact I1.fpOk (Nat.le_refl _) (I1.hok.fresh (Nat.le_refl _))
def iRng1 (ta : TA) : TI := fun σ H R => ta σ H fun vs H1 => ∃ j : Int, vs = [.int j] ∧ -(2 ^ 62) ≤ j ∧ j < 2 ^ 62 ∧ R (Itr 0 j.toNat) H1
def iRng2 (ta : TA) : TI := fun σ H R => ta σ H fun vs H1 => ∃ i j : Int, vs = [.int i, .int j] ∧ (-(2 ^ 62) ≤ i ∧ i < 2 ^ 62 ∧ -(2 ^ 62) ≤ j ∧ j < 2 ^ 62) ∧ R (Itr i (j - i).toNat) H1
theorem pi_range1 {a : Expr} {ta : TA} {p pos : Pos} (hg : Gl X "range") (hm : X.mg "range" = none) (ha : PA X [a] ta) (hs : starEach [a] X.env = [(false, eval a X.env)] := by rfl) : PI X tg (.Call (.Name "range" p) [a] [] pos) (iRng1 ta) := by
  intro pins s σ H R I h
  refine Call_ (ld_blt I hg hm boot_range (PyProof.Rows.callWith_type1 (thn (ha pos pins s σ H _ I h) ?_) hs rfl))
  rintro us s1 ⟨vs, H1, I1, r1, q1⟩
  obtain ⟨j, e, q1, q2, q⟩ := q1
  subst e
  cases r1 with
  | cons r rr =>
    cases rr
    obtain ⟨t, rfl⟩ := r
    exact call_range_1 (range_it I1 (by lia) (by lia) q1 q2 (by simpa using q))
theorem pi_range2 {a b : Expr} {ta : TA} {p pos : Pos} (hg : Gl X "range") (hm : X.mg "range" = none) (ha : PA X [a, b] ta) (hs : starEach [a, b] X.env = [(false, eval a X.env), (false, eval b X.env)] := by rfl) (hs2 : starEach [b] X.env = [(false, eval b X.env)] := by rfl) :
    PI X tg (.Call (.Name "range" p) [a, b] [] pos) (iRng2 ta) := by
  intro pins s σ H R I h
  refine Call_ (ld_blt I hg hm boot_range (PyProof.Rows.callWith_type1 (thn (ha pos pins s σ H _ I h) ?_) (by rw [hs, hs2]) (by rw [hs2]; rfl)))
  rintro us s1 ⟨vs, H1, I1, r1, q1⟩
  obtain ⟨i, j, e, ⟨q1, q2, q3, q4⟩, q⟩ := q1
  subst e
  cases r1 with
  | cons r rr =>
    cases rr with
    | cons r' rr =>
      cases rr
      obtain ⟨t, rfl⟩ := r
      obtain ⟨t', rfl⟩ := r'
      exact call_range_2 (range_it I1 q1 q2 q3 q4 q)

/-! ### for -/
/-- W: the invariant by the turn and a measure; N: what the body is to reach -/
def tFor (wi : TI) (g : TG) (tb : TS) : TS := fun D σ H => wi σ H fun J H1 => ∃ W : Nat → Nat → St → Hp → Prop, (∃ m, W 0 m σ H1) ∧ ∀ i m σ H, W i m σ H →
  (J.stop i H ∧ D.nx σ H) ∨ (J.go i H ∧ ∃ N : St → Hp → Prop, (∀ σ' H', N σ' H' → ∃ m', m' < m ∧ W (i + 1) m' σ' H') ∧ ∀ x H', J.yld i H x H' → g x σ H' fun σ2 H2 => tb { D with nx := N, ct := N, bk := D.nx } σ2 H2)
/-- the records at fp as they stand -/
def pinsAt (fp : List Addr) (h : Heap) : List (Addr × Obj) := fp.filterMap fun b => (h.get? b).map fun o => (b, o)
theorem mem_pinsAt {fp : List Addr} {h : Heap} {b : Addr} {o : Obj} (hb : b ∈ fp) (e : h.get? b = some o) : (b, o) ∈ pinsAt fp h := List.mem_filterMap.mpr ⟨b, hb, by rw [e]; rfl⟩
theorem of_pinsAt {fp : List Addr} {h : Heap} {p : Addr × Obj} (hp : p ∈ pinsAt fp h) : p.1 ∈ fp ∧ h.get? p.1 = some p.2 := by
  obtain ⟨b, hb, e⟩ := List.mem_filterMap.mp hp
  cases q : h.get? b with
  | none => rw [q] at e; cases e
  | some o =>
    rw [q] at e
    have e' : (b, o) = p := Option.some.inj e
    subst e'
    exact ⟨hb, q⟩
theorem Inv.pinned {pins : List (Addr × Obj)} {σ : St} {H : Hp} {s : Shared} {fp : List Addr} (I : Inv X pins σ H s) (hf : ∀ b ∈ fp, FpOk X pins H b) (ho : ∀ b ∈ fp, ∃ o, s.heap.get? b = some o ∧ ∀ v, o.data ≠ .cell v) : Inv X (pins ++ pinsAt fp s.heap) σ H s :=
  I.pins_of fun p hp => (List.mem_append.mp hp).elim (fun z => I.pin p (List.mem_append_right _ z)) fun z => by
    obtain ⟨hb, e⟩ := of_pinsAt z
    obtain ⟨f0, f1, f2, _⟩ := hf p.1 hb
    obtain ⟨o, e', d⟩ := ho p.1 hb
    rw [e] at e'; cases e'
    exact ⟨e, f0, f1, f2, d⟩
theorem Inv.unpinned {pins pl : List (Addr × Obj)} {σ : St} {H : Hp} {s : Shared} (I : Inv X (pins ++ pl) σ H s) : Inv X pins σ H s := I.pins_of fun p hp => I.pin p (List.mem_append_right _ (List.mem_append_left _ hp))
theorem ps_for {iter : Expr} {body : List Stmt} {wi : TI} {g : TG} {tb : TS} {pos : Pos} (hp : PassesOwn (model X.prog X.w) X.A X.env X.xe) (hc : X.calm = true) (hi : PI X tg iter wi) (hg : PG X tg g) (hb : PSs X body tb)
    (hs : ∀ x, foldedSetIterable iter X.env x = pure x := by intro _; rfl) : PS X (.For tg iter body [] pos) (tFor wi g tb) := by
  intro pins s σ H D I h
  refine wpAny_For (thn (hi pins s σ H _ I h) fun v s1 h1 => thn h1 fun itv s2 h2 => ?_) hs
  obtain ⟨it, fp, tn, J, H2, e, I2, T, st2, f2, W, ⟨m0, w0⟩, turn⟩ := h2
  subst e
  -- what stays true of the iterator's objects through the loop
  have stat : ∀ {H' : Hp}, (∀ b ∈ fp, H' b = none) → ∀ b ∈ fp, FpOk X pins H' b := fun hn b hb => ⟨hn b hb, (f2 b hb).2⟩
  refine codeAny_forLoop_any (fun n s' => ∃ i σ' H', Inv X pins σ' H' s' ∧ tn i s'.heap ∧ (∀ b ∈ fp, H' b = none) ∧ W i n σ' H') ?_ m0 ⟨0, σ, H2, I2, st2, fun b hb => (f2 b hb).1, w0⟩
  rintro n s3 ⟨i, σ3, H3, I3, st3, fr3, w3⟩
  rcases turn i n σ3 H3 w3 with ⟨stop, qn⟩ | ⟨go, N, hN, step⟩
  · refine wpAny_passesOwn hp (thn (T.done X rfl rfl rfl hc i pins s3 σ3 H3 X.xe I3 (stat fr3) st3 stop) ?_)
    rintro r s4 ⟨hr, I4⟩
    subst hr
    exact wpAny_execs_nil ⟨σ3, H3, I4, qn⟩
  · refine wpAny_passesOwn hp (thn (T.item X rfl rfl rfl hc i pins s3 σ3 H3 X.xe I3 (stat fr3) st3 go) ?_)
    rintro r s4 ⟨u, hr, h4⟩
    subst hr
    refine wpAny_passesOwn hp (thn h4 ?_)
    rintro _ s5 ⟨x, H5, I5, r5, y5, st5, fr5⟩
    have I5' := I5.pinned (stat fr5) (T.obj _ _ st5)
    refine wpAny_passesOwn hp (thn (hg _ s5 σ3 H5 x u _ I5' r5 (step x H5 y5)) ?_)
    rintro _ s6 ⟨σ6, H6, I6, q6⟩
    refine wpAny_passesOwn hp (thn (hb _ s6 σ6 H6 _ I6 q6) fun f s7 q7 => ?_)
    have again : ∀ {σ7 : St} {H7 : Hp}, Inv X (pins ++ pinsAt fp s5.heap) σ7 H7 s7 → N σ7 H7 → ∃ m, m < n ∧ ∃ i σ' H', Inv X pins σ' H' s7 ∧ tn i s7.heap ∧ (∀ b ∈ fp, H' b = none) ∧ W i m σ' H' := fun {σ7 H7} I7 n7 => by
      obtain ⟨m', hm, w7⟩ := hN σ7 H7 n7
      refine ⟨m', hm, i + 1, σ7, H7, I7.unpinned, T.keep _ _ _ st5 fun b hb o e => (I7.pin (b, o) (List.mem_append_right _ (List.mem_append_right _ (mem_pinsAt hb e)))).1, fun b hb => ?_, w7⟩
      obtain ⟨o, e, d⟩ := T.obj _ _ st5 b hb
      exact (I7.pin (b, o) (List.mem_append_right _ (List.mem_append_right _ (mem_pinsAt hb e)))).2.1
    cases f with
    | next => obtain ⟨σ7, H7, I7, n7⟩ := q7; exact again I7 n7
    | cont => obtain ⟨σ7, H7, I7, n7⟩ := q7; exact again I7 n7
    | brk => obtain ⟨σ7, H7, I7, q7⟩ := q7; exact ⟨σ7, H7, I7.unpinned, q7⟩
    | ret v => obtain ⟨x7, σ7, H7, I7, r7, q7⟩ := q7; exact ⟨x7, σ7, H7, I7.unpinned, r7, q7⟩
end

/-! ### the forms one uses -/
/-- over a list that the body leaves as it is -/
theorem for_list {K : PySem.W.Frag} {a : Addr} {xs : List V} {g : TG} {tb : TS} {D : Ends} {σ : St} {H : Hp} (Pv : Nat → St → Hp → Prop) (h0 : Pv 0 σ H) (hl : ∀ i σ H, i ≤ xs.length → Pv i σ H → SqL K H a xs)
    (hs : ∀ i x σ H, xs[i]? = some x → Pv i σ H → g x σ H fun σ2 H2 => tb { D with nx := Pv (i + 1), ct := Pv (i + 1), bk := D.nx } σ2 H2) (hd : ∀ σ H, Pv xs.length σ H → D.nx σ H) :
    ∃ W : Nat → Nat → St → Hp → Prop, (∃ m, W 0 m σ H) ∧ ∀ i m σ H, W i m σ H →
      ((Itl K a).stop i H ∧ D.nx σ H) ∨ ((Itl K a).go i H ∧ ∃ N : St → Hp → Prop, (∀ σ' H', N σ' H' → ∃ m', m' < m ∧ W (i + 1) m' σ' H') ∧ ∀ x H', (Itl K a).yld i H x H' → g x σ H' fun σ2 H2 => tb { D with nx := N, ct := N, bk := D.nx } σ2 H2) := by
  refine ⟨fun i m σ H => m = xs.length - i ∧ i ≤ xs.length ∧ Pv i σ H, ⟨xs.length, by simp, Nat.zero_le _, h0⟩, ?_⟩
  rintro i m σ H ⟨rfl, hi, p⟩
  have q := hl i σ H hi p
  by_cases hlt : i < xs.length
  · refine .inr ⟨⟨xs, xs[i], q, by simp [hlt]⟩, Pv (i + 1), fun σ' H' p' => ⟨xs.length - (i + 1), by lia, rfl, hlt, p'⟩, fun x H' y => ?_⟩
    obtain ⟨e, y⟩ := y
    subst e
    exact hs i x σ _ (y xs q) p
  · have e : i = xs.length := by lia
    subst e
    exact .inl ⟨⟨xs, q, Nat.le_refl _⟩, hd σ H p⟩
theorem for_tup {K : PySem.W.Frag} {a : Addr} {xs : List V} {g : TG} {tb : TS} {D : Ends} {σ : St} {H : Hp} (Pv : Nat → St → Hp → Prop) (h0 : Pv 0 σ H) (hl : ∀ i σ H, i ≤ xs.length → Pv i σ H → SqT K H a xs)
    (hs : ∀ i x σ H, xs[i]? = some x → Pv i σ H → g x σ H fun σ2 H2 => tb { D with nx := Pv (i + 1), ct := Pv (i + 1), bk := D.nx } σ2 H2) (hd : ∀ σ H, Pv xs.length σ H → D.nx σ H) :
    ∃ W : Nat → Nat → St → Hp → Prop, (∃ m, W 0 m σ H) ∧ ∀ i m σ H, W i m σ H →
      ((Itt K a).stop i H ∧ D.nx σ H) ∨ ((Itt K a).go i H ∧ ∃ N : St → Hp → Prop, (∀ σ' H', N σ' H' → ∃ m', m' < m ∧ W (i + 1) m' σ' H') ∧ ∀ x H', (Itt K a).yld i H x H' → g x σ H' fun σ2 H2 => tb { D with nx := N, ct := N, bk := D.nx } σ2 H2) := by
  refine ⟨fun i m σ H => m = xs.length - i ∧ i ≤ xs.length ∧ Pv i σ H, ⟨xs.length, by simp, Nat.zero_le _, h0⟩, ?_⟩
  rintro i m σ H ⟨rfl, hi, p⟩
  have q := hl i σ H hi p
  by_cases hlt : i < xs.length
  · refine .inr ⟨⟨xs, xs[i], q, by simp [hlt]⟩, Pv (i + 1), fun σ' H' p' => ⟨xs.length - (i + 1), by lia, rfl, hlt, p'⟩, fun x H' y => ?_⟩
    obtain ⟨e, y⟩ := y
    subst e
    exact hs i x σ _ (y xs q) p
  · have e : i = xs.length := by lia
    subst e
    exact .inl ⟨⟨xs, q, Nat.le_refl _⟩, hd σ H p⟩
theorem for_range {lo : Int} {n : Nat} {g : TG} {tb : TS} {D : Ends} {σ : St} {H : Hp} (Pv : Nat → St → Hp → Prop) (h0 : Pv 0 σ H)
    (hs : ∀ i σ H, i < n → Pv i σ H → g (.int (lo + i)) σ H fun σ2 H2 => tb { D with nx := Pv (i + 1), ct := Pv (i + 1), bk := D.nx } σ2 H2) (hd : ∀ σ H, Pv n σ H → D.nx σ H) :
    ∃ W : Nat → Nat → St → Hp → Prop, (∃ m, W 0 m σ H) ∧ ∀ i m σ H, W i m σ H →
      ((Itr lo n).stop i H ∧ D.nx σ H) ∨ ((Itr lo n).go i H ∧ ∃ N : St → Hp → Prop, (∀ σ' H', N σ' H' → ∃ m', m' < m ∧ W (i + 1) m' σ' H') ∧ ∀ x H', (Itr lo n).yld i H x H' → g x σ H' fun σ2 H2 => tb { D with nx := N, ct := N, bk := D.nx } σ2 H2) := by
  refine ⟨fun i m σ H => m = n - i ∧ i ≤ n ∧ Pv i σ H, ⟨n, by simp, Nat.zero_le _, h0⟩, ?_⟩
  rintro i m σ H ⟨rfl, hi, p⟩
  by_cases hlt : i < n
  · refine .inr ⟨hlt, Pv (i + 1), fun σ' H' p' => ⟨n - (i + 1), by lia, rfl, hlt, p'⟩, fun x H' y => ?_⟩
    obtain ⟨e, y⟩ := y
    subst e y
    exact hs i σ _ hlt p
  · have e : i = n := by lia
    subst e
    exact .inl ⟨Nat.le_refl _, hd σ H p⟩
end L2

namespace L2
open PySem PySem.Spec PyProof.Rows

abbrev R2 := V → V → Hp → VK → Prop
/-- a two-place operation on values: f is binaryOp op, inplaceOp op or compareOp op -/
def OpR (X : Cx) (f : Value → Value → Sem Value) (r : R2) : Prop :=
  ∀ (pins : List (Addr × Obj)) (s : Shared) (σ : St) (H : Hp) (x y : V) (v u : Value) (Q : VK), Inv X pins σ H s → RelV x v → RelV y u → r x y H Q →
    wpAny (model X.prog X.w) X.A (f v u) (EP X pins σ Q) X.xe s
/-- a one-place operation -/
def UnR (X : Cx) (f : Value → Sem Value) (r : V → Hp → VK → Prop) : Prop :=
  ∀ (pins : List (Addr × Obj)) (s : Shared) (σ : St) (H : Hp) (x : V) (v : Value) (Q : VK), Inv X pins σ H s → RelV x v → r x H Q →
    wpAny (model X.prog X.w) X.A (f v) (EP X pins σ Q) X.xe s
/-- a call of a value that is known (a builtin, a type) with values -/
def CallR (X : Cx) (f : Value) (r : List V → Hp → VK → Prop) : Prop :=
  ∀ (pins : List (Addr × Obj)) (s : Shared) (σ : St) (H : Hp) (xs : List V) (us : List Value) (Q : VK), Inv X pins σ H s → Vals xs us → r xs H Q →
    wpAny (model X.prog X.w) X.A (call f us) (EP X pins σ Q) X.xe s

def tOp (r : R2) (ta tb : TE) : TE := fun σ H Q => ta σ H fun x H1 => tb σ H1 fun y H2 => r x y H2 Q
def tUn (r : V → Hp → VK → Prop) (ta : TE) : TE := fun σ H Q => ta σ H fun x H1 => r x H1 Q
/-- ints in, under C, and a value out -/
def rI (C : Int → Int → Prop) (g : Int → Int → V) : R2 := fun x y H Q => ∃ i j, x = .int i ∧ y = .int j ∧ C i j ∧ Q (g i j) H
def rI0 (g : Int → Int → V) : R2 := fun x y H Q => ∃ i j, x = .int i ∧ y = .int j ∧ Q (g i j) H
def rU (g : Int → V) : V → Hp → VK → Prop := fun x H Q => ∃ i, x = .int i ∧ Q (g i) H

section
variable {X : Cx} {a b c : Expr} {ta tb tc : TE} {pos : Pos}

theorem binT (ha : PE X a ta) (hb : PE X b tb) {pins : List (Addr × Obj)} {s : Shared} {σ : St} {H : Hp} {R : V → V → Hp → Prop} (I : Inv X pins σ H s)
    (h : ta σ H fun x H1 => tb σ H1 fun y H2 => R x y H2) {Q : Value → Shared → Prop} {f : Value → Value → Sem Value}
    (hf : ∀ v u s2 x y H2, Inv X pins σ H2 s2 → RelV x v → RelV y u → R x y H2 → wpAny (model X.prog X.w) X.A (f v u) Q X.xe s2) :
    wpAny (model X.prog X.w) X.A (eval a X.env) (fun v s₁ => wpAny (model X.prog X.w) X.A (eval b X.env) (fun u s₂ => wpAny (model X.prog X.w) X.A (f v u) Q X.xe s₂) X.xe s₁) X.xe s := by
  refine thn (ha pins s σ H _ I h) ?_
  rintro v s1 ⟨x, H1, I1, r1, q1⟩
  refine thn (hb pins s1 σ H1 _ I1 q1) ?_
  rintro u s2 ⟨y, H2, I2, r2, q2⟩
  exact hf v u s2 x y H2 I2 r1 r2 q2

theorem pe_op {op : Operator} {r : R2} (ho : OpR X (binaryOp op) r) (ha : PE X a ta) (hb : PE X b tb) : PE X (.BinOp a op b pos) (tOp r ta tb) := by
  intro pins s σ H Q I h
  exact wpAny_BinOp (binT ha hb I h fun v u s2 x y H2 I2 rx ry q => ho pins s2 σ H2 x y v u Q I2 rx ry q)
theorem pe_un {op : UnaryOp} {r : V → Hp → VK → Prop} (ho : UnR X (unaryOp op) r) (ha : PE X a ta) : PE X (.UnaryOp op a pos) (tUn r ta) := by
  intro pins s σ H Q I h
  refine UnaryOp_ (thn (ha pins s σ H _ I h) ?_)
  rintro v s1 ⟨x, H1, I1, r1, q1⟩
  exact ho pins s1 σ H1 x v Q I1 r1 q1

/-! ### ints -/
theorem opI {f : Value → Value → Sem Value} {C : Int → Int → Prop} {g : Int → Int → Int}
    (rule : ∀ (i j : Int) (t u : Tok) (s : Shared) (Q : Value → Shared → Prop) (E : Value → Shared → Prop), C i j → Q (.int (g i j) s.toks) { s with toks := s.toks + 1 } → wpAny (model X.prog X.w) X.A (f (.int i t) (.int j u)) Q E s) :
    OpR X f (rI C fun i j => .int (g i j)) := by
  intro pins s σ H x y v u Q I rx ry h
  obtain ⟨i, j, rfl, rfl, hc, q⟩ := h
  obtain ⟨t, rfl⟩ := rx
  obtain ⟨t', rfl⟩ := ry
  exact rule i j t t' s _ _ hc ⟨.int (g i j), H, I.tok _, ⟨_, rfl⟩, q⟩
theorem opI0 {f : Value → Value → Sem Value} {g : Int → Int → Int}
    (rule : ∀ (i j : Int) (t u : Tok) (s : Shared) (Q : Value → Shared → Prop) (E : Value → Shared → Prop), Q (.int (g i j) s.toks) { s with toks := s.toks + 1 } → wpAny (model X.prog X.w) X.A (f (.int i t) (.int j u)) Q E s) :
    OpR X f (rI0 fun i j => .int (g i j)) := by
  intro pins s σ H x y v u Q I rx ry h
  obtain ⟨i, j, rfl, rfl, q⟩ := h
  obtain ⟨t, rfl⟩ := rx
  obtain ⟨t', rfl⟩ := ry
  exact rule i j t t' s _ _ ⟨.int (g i j), H, I.tok _, ⟨_, rfl⟩, q⟩
theorem opB0 {f : Value → Value → Sem Value} {g : Int → Int → Bool}
    (rule : ∀ (i j : Int) (t u : Tok) (s : Shared) (Q : Value → Shared → Prop) (E : Value → Shared → Prop), Q (.bool (g i j)) s → wpAny (model X.prog X.w) X.A (f (.int i t) (.int j u)) Q E s) :
    OpR X f (rI0 fun i j => .bl (g i j)) := by
  intro pins s σ H x y v u Q I rx ry h
  obtain ⟨i, j, rfl, rfl, q⟩ := h
  obtain ⟨t, rfl⟩ := rx
  obtain ⟨t', rfl⟩ := ry
  exact rule i j t t' s _ _ ⟨.bl (g i j), H, I, rfl, q⟩

def CDiv (i j : Int) : Prop := 0 < j ∧ j < 1073741824
def CPow (i j : Int) : Prop := 0 ≤ j ∧ j ≤ 1000000 ∧ i.natAbs < 2 ^ 64
def CMul (i j : Int) : Prop := (-(2 ^ 64) < i ∧ i < 2 ^ 64) ∨ (-(2 ^ 64) < j ∧ j < 2 ^ 64)
theorem CMul.ok {i j : Int} (h : CMul i j) : IntMulOk i j := by
  rcases h with ⟨h1, h2⟩ | ⟨h1, h2⟩
  · exact .of_left (intBits_le_64 h1 h2)
  · exact .of_right (intBits_le_64 h1 h2)

theorem op_add : OpR X (binaryOp .Add) (rI0 fun i j => .int (i + j)) := opI0 fun _ _ _ _ _ _ _ q => add_int q
theorem op_sub : OpR X (binaryOp .Sub) (rI0 fun i j => .int (i - j)) := opI0 fun _ _ _ _ _ _ _ q => sub_int q
theorem op_mul : OpR X (binaryOp .Mult) (rI CMul fun i j => .int (i * j)) := opI fun _ _ _ _ _ _ _ hc q => mul_int q hc.ok
/-- // by a positive divisor -/
theorem op_fdiv : OpR X (binaryOp .FloorDiv) (rI CDiv fun i j => .int (i / j)) := opI fun i j _ _ _ _ _ hc q => by
  have h1 : (0 : Int) < j := hc.1
  have h2 : j < 1073741824 := hc.2
  exact floordiv_int (by lia) (by rw [Int.fdiv_eq_ediv_of_nonneg i (by lia)]; exact q) (.inl (PyProof.noPylong_small (by lia)))
/-- % by a positive divisor of any size -/
theorem op_mod : OpR X (binaryOp .Mod) (rI (fun _ j => 0 < j) fun i j => .int (i % j)) := opI fun i j _ _ _ _ _ hc q => by
  have h1 : (0 : Int) < j := hc
  exact mod_int' (by lia) (by rw [Int.fmod_eq_emod_of_nonneg i (by lia)]; exact q)
theorem op_pow : OpR X (binaryOp .Pow) (rI CPow fun i j => .int (i ^ j.toNat)) := opI fun _ _ _ _ _ _ _ hc q => pow_int_small hc.1 hc.2.1 hc.2.2 q

theorem iop_add : OpR X (inplaceOp .Add) (rI0 fun i j => .int (i + j)) := opI0 fun _ _ _ _ _ _ _ q => iadd_int q

theorem unI {f : Value → Sem Value} {g : Int → Int}
    (rule : ∀ (i : Int) (t : Tok) (s : Shared) (Q : Value → Shared → Prop) (E : Value → Shared → Prop), Q (.int (g i) s.toks) { s with toks := s.toks + 1 } → wpAny (model X.prog X.w) X.A (f (.int i t)) Q E s) :
    UnR X f (rU fun i => .int (g i)) := by
  intro pins s σ H x v Q I rx h
  obtain ⟨i, rfl, q⟩ := h
  obtain ⟨t, rfl⟩ := rx
  exact rule i t s _ _ ⟨.int (g i), H, I.tok _, ⟨_, rfl⟩, q⟩
theorem un_neg : UnR X (unaryOp .USub) (rU fun i => .int (-i)) := unI fun _ _ _ _ _ q => neg_int q

/-! ### bools among ints: n += (a < b) -/
end

/-! ### comparisons -/
/-- the scalars that == tells apart as data does -/
def scal : V → V → Bool
  | .non, .non => true | .non, .int _ => true | .int _, .non => true | .non, .bl _ => true | .bl _, .non => true | .non, .str _ => true | .str _, .non => true
  | .int _, .int _ => true | .bl _, .bl _ => true | .str _, .str _ => true | .byt _, .byt _ => true
  | .int _, .str _ => true | .str _, .int _ => true | .bl _, .str _ => true | .str _, .bl _ => true
  | _, _ => false
def rEq : R2 := fun x y H Q => scal x y = true ∧ Q (.bl (decide (x = y))) H
def rNe : R2 := fun x y H Q => scal x y = true ∧ Q (.bl (!decide (x = y))) H

theorem dec_int {i j : Int} : decide (V.int i = V.int j) = (i == j) := by
  rw [Bool.eq_iff_iff]
  simp
theorem dec_bl {i j : Bool} : decide (V.bl i = V.bl j) = (i == j) := by
  rw [Bool.eq_iff_iff]
  simp
theorem dec_str {i j : Str} : decide (V.str i = V.str j) = (i == j) := by
  rw [Bool.eq_iff_iff]
  simp
theorem dec_byt {i j : Array UInt8} : decide (V.byt i = V.byt j) = (i.toList == j.toList) := by
  rw [Bool.eq_iff_iff]
  cases i
  cases j
  simp

section
variable {X : Cx} {a b c : Expr} {ta tb tc : TE} {pos : Pos}
theorem fin_bl {pins : List (Addr × Obj)} {σ : St} {H : Hp} {s : Shared} {Q : VK} {k k' : Bool} (I : Inv X pins σ H s) (q : Q (.bl k) H) (e : k = k') : EP X pins σ Q (.bool k') s := by
  subst e
  exact ⟨.bl k, H, I, rfl, q⟩
theorem op_eq : OpR X (compareOp .Eq) rEq := by
  intro pins s σ H x y v u Q I rx ry h
  obtain ⟨hs, q⟩ := h
  cases x with
  | non =>
    cases rx
    cases y with
    | non => cases ry; exact PySem.EqNone.eq_none_none (fin_bl I q (by simp))
    | bl j => cases ry; exact PySem.EqNone.eq_none_bool (fin_bl I q (by simp))
    | int j => obtain ⟨t', rfl⟩ := ry; exact PySem.EqNone.eq_none_int (fin_bl I q (by simp))
    | str j => obtain ⟨t', rfl⟩ := ry; exact PySem.EqNone.eq_none_str (fin_bl I q (by simp))
    | _ => exact absurd (show false = true from hs) Bool.false_ne_true
  | bl i =>
    cases rx
    cases y with
    | non => cases ry; exact PySem.EqNone.eq_bool_none (fin_bl I q (by simp))
    | bl j => cases ry; exact eq_bool (fin_bl I q dec_bl)
    | str j => obtain ⟨t', rfl⟩ := ry; exact PySem.EqMixed.eq_bool_str (fin_bl I q (by simp))
    | _ => exact absurd (show false = true from hs) Bool.false_ne_true
  | int i =>
    obtain ⟨t, rfl⟩ := rx
    cases y with
    | non => cases ry; exact PySem.EqNone.eq_int_none (fin_bl I q (by simp))
    | int j => obtain ⟨t', rfl⟩ := ry; exact eq_int (fin_bl I q dec_int)
    | str j => obtain ⟨t', rfl⟩ := ry; exact PySem.EqMixed.eq_int_str (fin_bl I q (by simp))
    | _ => exact absurd (show false = true from hs) Bool.false_ne_true
  | str i =>
    obtain ⟨t, rfl⟩ := rx
    cases y with
    | non => cases ry; exact PySem.EqNone.eq_str_none (fin_bl I q (by simp))
    | bl j => cases ry; exact PySem.EqMixed.eq_str_bool (fin_bl I q (by simp))
    | int j => obtain ⟨t', rfl⟩ := ry; exact PySem.EqMixed.eq_str_int (fin_bl I q (by simp))
    | str j => obtain ⟨t', rfl⟩ := ry; exact eq_str (fin_bl I q dec_str)
    | _ => exact absurd (show false = true from hs) Bool.false_ne_true
  | byt i =>
    obtain ⟨t, rfl⟩ := rx
    cases y with
    | byt j => obtain ⟨t', rfl⟩ := ry; exact PySem.W.eq_bytes (fin_bl I q dec_byt)
    | _ => exact absurd (show false = true from hs) Bool.false_ne_true
  | _ => cases y <;> exact absurd (show false = true from hs) Bool.false_ne_true
theorem op_ne : OpR X (compareOp .NotEq) rNe := by
  intro pins s σ H x y v u Q I rx ry h
  obtain ⟨hs, q⟩ := h
  cases x with
  | non =>
    cases rx
    cases y with
    | non => cases ry; exact PySem.EqNone.ne_none_none (fin_bl I q (by simp))
    | bl j => cases ry; exact PySem.EqNone.ne_none_bool (fin_bl I q (by simp))
    | int j => obtain ⟨t', rfl⟩ := ry; exact PySem.EqNone.ne_none_int (fin_bl I q (by simp))
    | str j => obtain ⟨t', rfl⟩ := ry; exact PySem.EqNone.ne_none_str (fin_bl I q (by simp))
    | _ => exact absurd (show false = true from hs) Bool.false_ne_true
  | bl i =>
    cases rx
    cases y with
    | non => cases ry; exact PySem.EqNone.ne_bool_none (fin_bl I q (by simp))
    | bl j => cases ry; exact ne_bool (fin_bl I q (congrArg not dec_bl))
    | str j => obtain ⟨t', rfl⟩ := ry; exact PySem.EqMixed.ne_bool_str (fin_bl I q (by simp))
    | _ => exact absurd (show false = true from hs) Bool.false_ne_true
  | int i =>
    obtain ⟨t, rfl⟩ := rx
    cases y with
    | non => cases ry; exact PySem.EqNone.ne_int_none (fin_bl I q (by simp))
    | int j => obtain ⟨t', rfl⟩ := ry; exact ne_int (fin_bl I q (congrArg not dec_int))
    | str j => obtain ⟨t', rfl⟩ := ry; exact PySem.EqMixed.ne_int_str (fin_bl I q (by simp))
    | _ => exact absurd (show false = true from hs) Bool.false_ne_true
  | str i =>
    obtain ⟨t, rfl⟩ := rx
    cases y with
    | non => cases ry; exact PySem.EqNone.ne_str_none (fin_bl I q (by simp))
    | bl j => cases ry; exact PySem.EqMixed.ne_str_bool (fin_bl I q (by simp))
    | int j => obtain ⟨t', rfl⟩ := ry; exact PySem.EqMixed.ne_str_int (fin_bl I q (by simp))
    | str j => obtain ⟨t', rfl⟩ := ry; exact ne_str (fin_bl I q (congrArg not dec_str))
    | _ => exact absurd (show false = true from hs) Bool.false_ne_true
  | byt i =>
    obtain ⟨t, rfl⟩ := rx
    cases y with
    | byt j => obtain ⟨t', rfl⟩ := ry; exact PySem.W.ne_bytes (fin_bl I q (congrArg not dec_byt))
    | _ => exact absurd (show false = true from hs) Bool.false_ne_true
  | _ => cases y <;> exact absurd (show false = true from hs) Bool.false_ne_true

theorem op_lt : OpR X (compareOp .Lt) (rI0 fun i j => .bl (decide (i < j))) := opB0 fun _ _ _ _ _ _ _ q => lt_int q
theorem op_gt : OpR X (compareOp .Gt) (rI0 fun i j => .bl (decide (j < i))) := opB0 fun _ _ _ _ _ _ _ q => gt_int q




theorem nomark (b : Expr) {op : CmpOp} (h : op ≠ .In := by decide) (h2 : op ≠ .NotIn := by decide) : behindInMarks op b = false := by
  have e1 : (op == CmpOp.In) = false := by cases op <;> first | rfl | exact absurd rfl h
  have e2 : (op == CmpOp.NotIn) = false := by cases op <;> first | rfl | exact absurd rfl h2
  cases b <;> simp [behindInMarks, e1, e2]
/-- a comparison as a value; hm: nomark b, or (for in, not in) by with_unfolding_all rfl -/
theorem pe_cmpR {op : CmpOp} {r : R2} (ho : OpR X (compareOp op) r) (ha : PE X a ta) (hb : PE X b tb) (hm : behindInMarks op b = false) : PE X (.Compare a [op] [b] pos) (tOp r ta tb) := by
  intro pins s σ H Q I h
  exact wpAny_Compare1 (binT ha hb I h fun v u s2 x y H2 I2 rx ry q => ho pins s2 σ H2 x y v u Q I2 rx ry q) hm
/-- a reading of a value as a test -/
def tTest (t : TE) : TT := fun σ H Q => t σ H fun x H' => ∃ k, x = .bl k ∧ Q k H'
theorem pt_cmpR {op : CmpOp} {r : R2} (ho : OpR X (compareOp op) r) (ha : PE X a ta) (hb : PE X b tb) (hm : behindInMarks op b = false) : PT X (.Compare a [op] [b] pos) (tTest (tOp r ta tb)) := by
  intro pins s σ H Q I h
  refine wpAny_isTrue_Compare1 (thn (ha pins s σ H _ I h) ?_) hm
  rintro v s1 ⟨x, H1, I1, r1, q1⟩
  refine thn (hb pins s1 σ H1 _ I1 q1) ?_
  rintro u s2 ⟨y, H2, I2, r2, q2⟩
  refine thn (ho pins s2 σ H2 x y v u _ I2 r1 r2 q2) ?_
  rintro c s3 ⟨z, H3, I3, r3, k, e, q3⟩
  subst e
  cases r3
  exact wpAny_truthy_bool ⟨H3, I3, q3⟩

/-! ### truth -/
theorem line63 : (sizeLine : Nat) < 2 ^ 63 := by rw [sizeLine_eq]; decide

/-! ### strs and bytes -/
theorem op_add_str : OpR X (binaryOp .Add) (fun x y H Q => ∃ i j, x = .str i ∧ y = .str j ∧ i.length + j.length ≤ sizeLine ∧ Q (.str (i ++ j)) H) := by
  intro pins s σ H x y v u Q I rx ry h
  obtain ⟨i, j, rfl, rfl, hz, q⟩ := h
  obtain ⟨t, rfl⟩ := rx
  obtain ⟨t', rfl⟩ := ry
  exact add_str (fun t' tk => ⟨.str (i ++ j), H, I.tok _, ⟨_, rfl⟩, q⟩) hz


/-! ### scalar builtins, by CallR -/
theorem vals1 {x : V} {us : List Value} (r : Vals [x] us) : ∃ u, us = [u] ∧ RelV x u := by
  cases r with
  | cons r1 r2 => cases r2; exact ⟨_, rfl, r1⟩
theorem vals2 {x y : V} {us : List Value} (r : Vals [x, y] us) : ∃ u w', us = [u, w'] ∧ RelV x u ∧ RelV y w' := by
  cases r with
  | cons r1 r2 =>
    cases r2 with
    | cons r3 r4 => cases r4; exact ⟨_, _, rfl, r1, r3⟩
theorem call_str_int : CallR X (.type "str") (fun xs H Q => ∃ i, xs = [.int i] ∧ i.natAbs.log2 < 1920 ∧ Q (.str (toString i)) H) := by
  intro pins s σ H xs us Q I r h
  obtain ⟨i, rfl, hz, q⟩ := h
  obtain ⟨u, rfl, t, rfl⟩ := vals1 r
  exact PySem.P.str_of_int hz ⟨.str _, H, I.tok _, ⟨_, rfl⟩, q⟩
end
end L2

namespace L2
open PySem PySem.Spec PyProof.Rows

/-! ### an instance, its attributes a map -/
structure ObjM (h : Heap) (x dx C : Addr) (mA : Str → Option Value) : Prop where
  obj : h.get? x = some (PySem.W.instObj C dx)
  ns : h.Ns1 dx mA
  ne : dx ≠ x

theorem lookIn_ns {h : Heap} {dx : Addr} {mA : Str → Option Value} (n : h.Ns1 dx mA) : ∃ od, h.get? dx = some od ∧ ∀ name, PySem.W.lookIn name od = some (mA name) := by
  obtain ⟨o, es, ep, ho, hd, hk, _, hm⟩ := n
  refine ⟨o, ho, fun name => ?_⟩
  have e := hm name
  unfold nsFind findBy at e
  rw [← Array.find?_toList] at e
  unfold PySem.W.lookIn
  rw [hd]
  dsimp only
  split
  · rename_i y q
    rw [q] at e
    exact congrArg some e
  · rename_i q
    rw [q] at e
    have a : es.toList.any (·.refKey) = false := by
      rw [List.any_eq_false]
      intro y hy
      obtain ⟨z, t, hkey⟩ := hk y (Array.mem_toList_iff.mp hy)
      simp [DictEntry.refKey, hkey]
    have a' : ¬ es.toList.any (·.refKey) = true := by rw [a]; exact Bool.false_ne_true
    rw [if_neg a']
    exact congrArg some e

theorem ObjM.look {h : Heap} {x dx C : Addr} {mA : Str → Option Value} (I : ObjM h x dx C mA) : ∃ od, PySem.W.InstAt h x (PySem.W.instObj C dx) C (some od) ∧ ∀ name, PySem.W.lookIn name od = some (mA name) :=
  let ⟨od, ho, hl⟩ := lookIn_ns I.ns
  ⟨od, ⟨I.obj, rfl, rfl, ho⟩, hl⟩

section
variable {prog : Program} {w : World} {A : Around} {E : Value → Shared → Prop} {s : Shared} {K : PySem.W.Frag} {x dx C f : Addr} {mA : Str → Option Value} {name : Str} {v : Value}

theorem get_map {expr : Bool} {Q : Value → Shared → Prop} (X : K.In s.heap) (I : ObjM s.heap x dx C mA) (hg : PySem.W.plainGet K C name = true) (hh : PySem.W.hasDictIn K C = true)
    (ha : PySem.W.findIn K (.ref C) name = some none) (hv : mA name = some v) (hv' : PySem.W.handedIn v = true) (h : Q v { s with toks := s.toks + 1 }) :
    wpAny (model prog w) A (getAttr (.ref x) name expr) Q E s := by
  obtain ⟨od, J, hl⟩ := I.look
  exact PySem.W.get_value X J (PySem.W.plainGet_of hg).1 (PySem.W.findObj_own hh ha rfl (by rw [hl, hv])) hv' h



theorem set_map {ns : List Str} {Q : Unit → Shared → Prop} (X : K.In s.heap) (I : ObjM s.heap x dx C mA)
    (hs : PySem.W.findIn K (.ref C) "__setattr__" = some (some (.builtin "object.__setattr__"))) (hp : PySem.W.plainOver K C = true) (ht : PySem.W.takerIn K C name = some none) (hh : PySem.W.hasDictIn K C = true)
    (hw : PySem.Within mA ns) (hsz : ns.length ≤ sizeLine)
    (h : ∀ h', ObjM h' x dx C (fun y => if y = name then some v else mA y) → Heap.SameBut dx s.heap h' → Q () { s with heap := h', toks := s.toks + 2 }) :
    wpAny (model prog w) A (setAttr (.ref x) name v) Q E s := by
  obtain ⟨od, J, hl⟩ := I.look
  refine PySem.W.set_plain X J hs (PySem.W.osa_open (s := { s with toks := s.toks + 1 }) (r := none) X J hp ht fun b => ?_)
  obtain ⟨cd, hc, hd'⟩ := PySem.W.any_some hh
  have hx : s.heap.get? x = some ⟨.ref C, some dx, .plain, #[]⟩ := I.obj
  refine wpAny_bind (wpAny_pure (wpAny_bind (wpAny_bind (wpAny_loadPart hx (wpAny_bind (PySem.W.Looks.here (s := { s with toks := s.toks + 1 }) (PySem.W.looks_clsIn X hc) ?_))))))
  rw [hd']
  refine wpAny_pure (a := some dx) (wpAny_bind (wpAny_pure (wpAny_bind ?_)))
  refine wpAny_nsSet1 (s := { s with toks := s.toks + 1 }) I.ns fun h' hn2 hs2 => ?_
  obtain ⟨oD, esD, epD, hoD, hdD, hcD⟩ := hn2.count (PySem.Within.cons name v hw)
  refine wpAny_bind (wpAny_lookBehind hoD (by rw [hdD]; exact pastItsLine_dict (Nat.le_trans hcD (by rw [List.length_cons]; lia))) ?_)
  exact wpAny_pure (h _ ⟨(hs2.2 _ (Ne.symm I.ne)).trans I.obj, hn2, I.ne⟩ hs2)

/-- C(..): the dict at the heap's end, the instance behind it; then its __init__ -/
theorem make_map {R : Result → Shared → Prop} {vs : List Value} {kw : List (Str × Value)} (X : K.In s.heap) (hm : PySem.W.makesIn K C = true)
    (hi : PySem.W.findIn K (.ref C) "__init__" = some (some (.ref f))) (hf : PySem.W.typeIn K (.ref f) = some (.type "function"))
    (h : codeAny (model prog w) (A.under (.builtin "type.__call__" ⟨.ref C :: vs, kw⟩)) (.call (.ref f) ⟨.ref (s.heap.objs.size + 1) :: vs, kw⟩) (PySem.W.InitBack (s.heap.objs.size + 1) R)
      { s with heap := (s.heap.push PySem.W.emptyDict).push (PySem.W.instObj C s.heap.objs.size) }) :
    codeAny (model prog w) A (.call (.ref C) ⟨vs, kw⟩) R s := by
  obtain ⟨hh, g, d, t, os⟩ := s
  exact PySem.W.make_core (PySem.W.makes_of X hm) (PySem.W.looks_findIn X hi) (fun self => PySem.W.bind_fn X self hf) (.inl rfl) h
end

/-! ### the attributes as a list of pairs -/
def putF (f : Str) (v : V) : List (Str × V) → List (Str × V)
  | [] => [(f, v)]
  | (g, x) :: r => if g = f then (g, v) :: r else (g, x) :: putF f v r
theorem lookup_putF (f g : Str) (v : V) : ∀ fs : List (Str × V), (putF f v fs).lookup g = if g = f then some v else fs.lookup g
  | [] => by
    show List.lookup g [(f, v)] = _
    by_cases h : g = f
    · have hb : (g == f) = true := beq_iff_eq.mpr h
      simp only [List.lookup, hb, if_pos h]
    · have hb : (g == f) = false := beq_eq_false_iff_ne.mpr h
      simp only [List.lookup, hb, if_neg h]
  | (k, x) :: r => by
    have ih := lookup_putF f g v r
    rw [show putF f v ((k, x) :: r) = (if k = f then (k, v) :: r else (k, x) :: putF f v r) from rfl]
    by_cases hk : k = f
    · rw [if_pos hk]
      by_cases h : g = k
      · have hb : (g == k) = true := beq_iff_eq.mpr h
        simp only [List.lookup, hb, if_pos (h.trans hk)]
      · have hb : (g == k) = false := beq_eq_false_iff_ne.mpr h
        simp only [List.lookup, hb, if_neg (fun e : g = f => h (e.trans hk.symm))]
    · rw [if_neg hk]
      by_cases h : g = k
      · have hb : (g == k) = true := beq_iff_eq.mpr h
        simp only [List.lookup, hb, if_neg (fun e : g = f => hk (h.symm.trans e))]
      · have hb : (g == k) = false := beq_eq_false_iff_ne.mpr h
        simp only [List.lookup, hb]
        exact ih
theorem keys_putF (f : Str) (v : V) : ∀ fs : List (Str × V), f ∈ (putF f v fs).map (·.1) ∧ ∀ g, g ∈ fs.map (·.1) → g ∈ (putF f v fs).map (·.1)
  | [] => ⟨by simp [putF], fun g h => by simp at h⟩
  | (k, x) :: r => by
    obtain ⟨i1, i2⟩ := keys_putF f v r
    rw [show putF f v ((k, x) :: r) = (if k = f then (k, v) :: r else (k, x) :: putF f v r) from rfl]
    by_cases hk : k = f
    · rw [if_pos hk]
      subst hk
      exact ⟨by simp, fun g h => by simpa using h⟩
    · rw [if_neg hk]
      refine ⟨?_, fun g h => ?_⟩
      · rw [List.map_cons]
        exact List.mem_cons_of_mem _ i1
      · rw [List.map_cons] at h ⊢
        rcases List.mem_cons.mp h with e | e
        · exact List.mem_cons.mpr (.inl e)
        · exact List.mem_cons_of_mem _ (i2 g e)
theorem length_putF (f : Str) (v : V) : ∀ fs : List (Str × V), (putF f v fs).length ≤ fs.length + 1
  | [] => by simp [putF]
  | (k, x) :: r => by
    have ih := length_putF f v r
    rw [show putF f v ((k, x) :: r) = (if k = f then (k, v) :: r else (k, x) :: putF f v r) from rfl]
    by_cases hk : k = f
    · rw [if_pos hk, List.length_cons, List.length_cons]; lia
    · rw [if_neg hk, List.length_cons, List.length_cons]; lia

theorem RelO.some_of {v : V} {o : Option Value} (r : RelO (some v) o) : ∃ u, o = some u ∧ RelV v u := by
  cases o with
  | none => exact (show False from r).elim
  | some u => exact ⟨u, rfl, r⟩
theorem handed_of {v : V} {u : Value} (r : RelV v u) : PySem.W.handedIn u = true := by
  cases v with
  | non => cases (show u = Value.none from r); rfl
  | bl b => cases (show u = Value.bool b from r); rfl
  | int i => obtain ⟨t, e⟩ := (show ∃ t, u = Value.int i t from r); cases e; rfl
  | str x => obtain ⟨t, e⟩ := (show ∃ t, u = Value.str x t from r); cases e; rfl
  | byt b => obtain ⟨t, e⟩ := (show ∃ t, u = Value.bytes b t from r); cases e; rfl
  | flt b => obtain ⟨t, e⟩ := (show ∃ t, u = Value.float b t from r); cases e; rfl
  | ref a => cases (show u = Value.ref a from r); rfl
  | ty n => cases (show u = Value.type n from r); rfl

section
variable {P : Program} {w : World} {H H' : Hp} {h h' : Heap} {a C dx : Addr} {fs fs' : List (Str × V)}
theorem ins_get (hok : HOk P w H h) (e : H a = some (.ins C dx fs)) : ∃ mA, ObjM h a dx C mA ∧ (∀ f, RelO (fs.lookup f) (mA f)) ∧ PySem.Within mA (fs.map (·.1)) ∧ fs.length ≤ 1000 ∧ H dx = some (.own a) := by
  obtain ⟨d, z, ne, ob, mA, n, r, q⟩ := (show ObjOk P w H h a (.ins C dx fs) from hok a _ e)
  exact ⟨mA, ⟨ob, n, ne⟩, r, q, z, d⟩
end

/-! ### what of the text a class must have -/
structure Cls (K : PySem.W.Frag) (C : Addr) : Prop where
  pg : PySem.W.plainGet K C Str.empty = true
  hd : PySem.W.hasDictIn K C = true
  po : PySem.W.plainOver K C = true
  sa : PySem.W.findIn K (.ref C) "__setattr__" = some (some (.builtin "object.__setattr__"))
theorem Cls.get {K : PySem.W.Frag} {C : Addr} (c : Cls K C) (f : Str) : PySem.W.plainGet K C f = true := c.pg
/-- no class of it has the name -/
def NoAttr (K : PySem.W.Frag) (C : Addr) (f : Str) : Prop := PySem.W.findIn K (.ref C) f = some none
theorem NoAttr.taker {K : PySem.W.Frag} {C : Addr} {f : Str} (n : NoAttr K C f) : PySem.W.takerIn K C f = some none := by
  unfold PySem.W.takerIn
  rw [show PySem.W.findIn K (.ref C) f = some none from n]
  rfl

section
variable {X : Cx} {pins : List (Addr × Obj)} {σ : St} {H : Hp} {s : Shared} {a C dx : Addr} {fs : List (Str × V)} {f : Str} {v : V} {A : Around} {E : Value → Shared → Prop}

theorem getattr_ok {b : Bool} {Q : Value → Shared → Prop} (I : Inv X pins σ H s) (e : H a = some (.ins C dx fs)) (c : Cls X.K C) (n : NoAttr X.K C f) (l : fs.lookup f = some v)
    (h : ∀ u s', Inv X pins σ H s' → RelV v u → Q u s') : wpAny (model X.prog X.w) A (getAttr (.ref a) f b) Q E s := by
  obtain ⟨mA, O, r, _, _, _⟩ := ins_get I.hok e
  obtain ⟨u, hu, ru⟩ := RelO.some_of (v := v) (o := mA f) (by rw [← l]; exact r f)
  exact get_map I.kIn O (c.get f) c.hd n hu (handed_of ru) (h u _ (I.tok _) ru)



theorem setattr_ok {y : V} {u : Value} {Q : Unit → Shared → Prop} (I : Inv X pins σ H s) (e : H a = some (.ins C dx fs)) (c : Cls X.K C) (n : NoAttr X.K C f) (hl : fs.length < 1000) (ry : RelV y u)
    (h : ∀ s', Inv X pins σ (upd H a (.ins C dx (putF f y fs))) s' → Q () s') : wpAny (model X.prog X.w) A (setAttr (.ref a) f u) Q E s := by
  obtain ⟨mA, O, r, wi, _, ho⟩ := ins_get I.hok e
  have hz : (fs.map (·.1)).length ≤ sizeLine := by rw [List.length_map, sizeLine_eq]; lia
  refine set_map I.kIn O c.sa c.po n.taker c.hd wi hz fun h' O' sb => h _ ?_
  have hd : ∃ o, h'.get? dx = some o := let ⟨o, _, _, e', _⟩ := O'.ns; ⟨o, e'⟩
  refine I.write (x := a) (e := dx) (by rw [e]; exact True.intro) (.inr ho) (fun b q hb z => (sb.2 b hb).trans z) hd ?_
  refine ⟨by rw [upd_ne O.ne]; exact ho, ?_, O.ne, O'.obj, _, O'.ns, fun g => ?_, fun g hg => ?_⟩
  · have := length_putF f y fs; lia
  · show RelO ((putF f y fs).lookup g) (if g = f then some u else mA g)
    rw [lookup_putF]
    by_cases q : g = f
    · rw [if_pos q, if_pos q]; exact ry
    · rw [if_neg q, if_neg q]; exact r g
  · by_cases q : g = f
    · rw [q]; exact (keys_putF f y fs).1
    · refine (keys_putF f y fs).2 g (wi g fun z => hg ?_)
      show (if g = f then some u else mA g) = none
      rw [if_neg q]; exact z

/-- a new instance, tracked, without attributes -/
theorem Inv.made (I : Inv X pins σ H s) : Inv X pins σ (upd (upd H s.heap.objs.size (.own (s.heap.objs.size + 1))) (s.heap.objs.size + 1) (.ins C s.heap.objs.size []))
    { s with heap := (s.heap.push PySem.W.emptyDict).push (PySem.W.instObj C s.heap.objs.size) } := by
  have e1 : (s.heap.push PySem.W.emptyDict).get? s.heap.objs.size = some PySem.W.emptyDict := Heap.get?_push_size s.heap rfl
  have e2 : ((s.heap.push PySem.W.emptyDict).push (PySem.W.instObj C s.heap.objs.size)).get? (s.heap.objs.size + 1) = some (PySem.W.instObj C s.heap.objs.size) := by
    have := Heap.get?_push_size (s.heap.push PySem.W.emptyDict) (o := PySem.W.instObj C s.heap.objs.size) rfl
    rwa [Heap.size_push] at this
  have e3 : (s.heap.push PySem.W.emptyDict).Ns s.heap.objs.size (fun _ => none) := ⟨PySem.W.emptyDict, #[], _, e1, rfl, (fun e he => absurd he (by simp)), fun _ => rfl⟩
  have I1 := I.laid (a := s.heap.objs.size) (o := .own (s.heap.objs.size + 1)) (h' := s.heap.push PySem.W.emptyDict) (t' := s.toks) (fun b u q => Heap.get?_push_of_some _ q) (Nat.le_refl _) ⟨_, e1⟩
  refine I1.laid (a := s.heap.objs.size + 1) (o := .ins C s.heap.objs.size []) (t' := s.toks) (fun b u q => Heap.get?_push_of_some _ q) (Nat.le_of_eq (Heap.size_push _ _)) ?_
  have ne : s.heap.objs.size ≠ s.heap.objs.size + 1 := Nat.ne_of_lt (Nat.lt_succ_self _)
  refine ⟨by rw [upd_ne ne, upd_same], Nat.zero_le _, ne, e2, fun _ => none, (Heap.Ns1.of_empty e3).at fun o q => Heap.get?_push_of_some _ q, fun _ => True.intro, fun y hy => absurd rfl hy⟩

/-- e.f where nothing but the object is asked: through attributeBase (super) and the last hold -/
theorem attr_of {prog : Program} {w : World} {env : Env} {e : Expr} {f : Str} {pos : Pos} {s : Shared} {Q : Value → Shared → Prop} (hb : attributeBase e f env (eval e env) = eval e env)
    (h : wpAny (model prog w) A (eval e env) (fun o s₁ => wpAny (model prog w) A (getAttr o f true) Q E s₁) E s) : wpAny (model prog w) A (eval (.Attribute e f pos) env) Q E s :=
  Attribute_any_ h (by rw [arm_eval_Attribute, hb])
end

/-! ### readings and rules -/
/-- e.f, an attribute of the instance -/
def tFld (K : PySem.W.Frag) (ta : TE) (f : Str) : TE := fun σ H Q => ta σ H fun x H1 => ∃ a C dx fs v, x = .ref a ∧ H1 a = some (.ins C dx fs) ∧ Cls K C ∧ NoAttr K C f ∧ fs.lookup f = some v ∧ Q v H1
/-- e.f = value -/
def sFld (K : PySem.W.Frag) (ta tv : TE) (f : Str) : TS := fun D σ H => tv σ H fun y H1 => ta σ H1 fun x H2 => ∃ a C dx fs, x = .ref a ∧ H2 a = some (.ins C dx fs) ∧ Cls K C ∧ NoAttr K C f ∧ fs.length < 1000 ∧
  D.nx σ (upd H2 a (.ins C dx (putF f y fs)))

section
variable {X : Cx} {o e value : Expr} {f : Str} {pos pos' tpos : Pos} {ta tv : TE}
theorem pe_fld (he : PE X e ta) (hb : attributeBase e f X.env (eval e X.env) = eval e X.env) : PE X (.Attribute e f pos) (tFld X.K ta f) := by
  intro pins s σ H Q I h
  refine attr_of hb (thn (he pins s σ H _ I h) ?_)
  rintro u s1 ⟨x, H1, I1, rx, a, C, dx, fs, v, ex, ea, c, n, l, q⟩
  subst ex
  obtain rfl : u = Value.ref a := rx
  exact getattr_ok I1 ea c n l fun u' s2 I2 ru => ⟨v, H1, I2, ru, q⟩
theorem ps_fld (ha : PE X o ta) (hv : PE X value tv) (hs : swapsWith value (some (.Attribute o f pos')) pos.line X.env = pure false) : PS X (.Assign [.Attribute o f pos'] value pos) (sFld X.K ta tv f) := by
  intro pins s σ H D I h
  refine plainObj_wpAny_Assign_Attribute (thn (hv pins s σ H _ I h) ?_) hs
  rintro u s1 ⟨y, H1, I1, ry, q⟩
  refine thn (ha pins s1 σ H1 _ I1 q) ?_
  rintro ov s2 ⟨x, H2, I2, rx, a, C, dx, fs, ex, ea, c, n, l, q2⟩
  subst ex
  obtain rfl : ov = Value.ref a := rx
  exact setattr_ok I2 ea c n l ry fun s3 I3 => ⟨σ, _, I3, q2⟩

end

/-! ### isinstance -/
section
variable {X : Cx} {pins : List (Addr × Obj)} {σ : St} {H : Hp} {s : Shared} {A : Around} {E : Value → Shared → Prop} {Q : Value → Shared → Prop} {c : Value} {b : Bool}
/-- the type of a value, as the fragment's deciders take it; for an instance its class -/
inductive TyOf (K : PySem.W.Frag) (H : Hp) : V → Value → Prop where
  | non : TyOf K H .non (.type "NoneType")
  | bl (x : Bool) : TyOf K H (.bl x) (.type "bool")
  | int (i : Int) : TyOf K H (.int i) (.type "int")
  | str (x : Str) : TyOf K H (.str x) (.type "str")
  | flt (x : UInt64) : TyOf K H (.flt x) (.type "float")
  | lst {a : Addr} {xs : List V} (e : H a = some (.lst xs)) : TyOf K H (.ref a) (.type "list")
  | frz {a : Addr} {o : Obj} {xs : List V} (e : H a = some (.frz o (.lst xs))) : TyOf K H (.ref a) (.type "list")
  | tup {a : Addr} {xs : List V} (e : H a = some (.tup xs)) : TyOf K H (.ref a) (.type "tuple")
  | dK {a : Addr} {kvs : List (Key × V)} (e : H a = some (.dK kvs)) : TyOf K H (.ref a) (.type "dict")
  | dT {a : Addr} {kvs : List (List Key × V)} (e : H a = some (.dT kvs)) : TyOf K H (.ref a) (.type "dict")
  | ins {a C dx : Addr} {fs : List (Str × V)} (e : H a = some (.ins C dx fs)) (cl : Cls K C) (ha : PySem.W.findIn K (.ref C) "__class__" = some (some (.builtin "object.__class__")))
      (hn : PySem.W.specialIn K (.builtin "object.__class__") "__get__" = some (some (.builtin "getset_descriptor.__get__"))) (htk : PySem.W.takesIn K (.builtin "object.__class__") = some true)
      (hm : PySem.W.mroIn K C (.type "object") = some true) : TyOf K H (.ref a) (.ref C)
/-- isinstance(x, c) for one class c, a built-in or an own one: kitOne's answer -/
theorem isinst_ok {x : V} {u t : Value} (I : Inv X pins σ H s) (rx : RelV x u) (ty : TyOf X.K H x t) (e : PySem.W.kitOne X.K t c = some b) (h : ∀ tk, Q (.bool b) { s with toks := tk }) :
    wpAny (model X.prog X.w) A (call (.builtin "isinstance") [u, c]) Q E s := by
  cases ty with
  | non => cases (show u = Value.none from rx); exact PySem.W.kia_one PySem.W.kitx_none I.kIn True.intro e (fun z => nomatch z) h
  | bl y => cases (show u = Value.bool y from rx); exact PySem.W.kia_one PySem.W.kitx_bool I.kIn True.intro e (fun z => nomatch z) h
  | int i => obtain ⟨t, q⟩ := (show ∃ t, u = Value.int i t from rx); cases q; exact PySem.W.kia_one PySem.W.kitx_int I.kIn True.intro e (fun z => nomatch z) h
  | str y => obtain ⟨t, q⟩ := (show ∃ t, u = Value.str y t from rx); cases q; exact PySem.W.kia_one PySem.W.kitx_str I.kIn True.intro e (fun z => nomatch z) h
  | flt y => obtain ⟨t, q⟩ := (show ∃ t, u = Value.float y t from rx); cases q; exact PySem.W.kia_one PySem.W.kitx_float I.kIn True.intro e (fun z => nomatch z) h
  | @lst a xs ea =>
    cases (show u = Value.ref a from rx)
    obtain ⟨_, _, n, _, h1⟩ := (show ObjOk X.prog X.w H s.heap a (.lst xs) from I.hok a _ ea)
    exact PySem.W.kia_one PySem.W.kitx_list I.kIn ⟨_, h1, rfl⟩ e (fun z => nomatch z) h
  | @frz a ob xs ea =>
    cases (show u = Value.ref a from rx)
    obtain ⟨_, _, _, n, _, h1⟩ := (show ObjOk X.prog X.w H s.heap a (.frz ob (.lst xs)) from I.hok a _ ea)
    exact PySem.W.kia_one PySem.W.kitx_list I.kIn ⟨_, h1, rfl⟩ e (fun z => nomatch z) h
  | @tup a xs ea =>
    cases (show u = Value.ref a from rx)
    obtain ⟨_, _, _, p⟩ := (show ObjOk X.prog X.w H s.heap a (.tup xs) from I.hok a _ ea)
    obtain ⟨o, h1, h2, _⟩ := p
    exact PySem.W.kia_one PySem.W.kitx_tuple I.kIn ⟨o, h1, h2⟩ e (fun z => nomatch z) h
  | @dK a kvs ea =>
    cases (show u = Value.ref a from rx)
    obtain ⟨_, _, vs, _, p⟩ := (show ObjOk X.prog X.w H s.heap a (.dK kvs) from I.hok a _ ea)
    obtain ⟨o, es, ep, h1, h2, _⟩ := p
    exact PySem.W.kia_one PySem.W.kitx_dict I.kIn ⟨o, h1, h2.1⟩ e (fun z => nomatch z) h
  | @dT a kvs ea =>
    cases (show u = Value.ref a from rx)
    obtain ⟨_, _, xs, _, o, es, ep, h1, h2, _⟩ := (show ObjOk X.prog X.w H s.heap a (.dT kvs) from I.hok a _ ea)
    exact PySem.W.kia_one PySem.W.kitx_dict I.kIn ⟨o, h1, h2.1⟩ e (fun z => nomatch z) h
  | @ins a C dx fs ea cl ha hn htk hm =>
    cases (show u = Value.ref a from rx)
    obtain ⟨mA, O, _⟩ := ins_get I.hok ea
    obtain ⟨od, J, _⟩ := O.look
    exact PySem.W.kia_one (PySem.W.kitx_own (cl.get _) cl.hd ha hn htk hm) I.kIn J e (fun z => nomatch z) h
end
end L2

namespace L2
open PySem PySem.Spec PyProof.Rows

/-! ### room -/
structure Room (k : Nat) (A : Around) : Prop where
  hd : A.handled = none
  dp : A.depth + 3 * k + 5 < recursionLimit
  un : A.units + 16 * k + 200 < cLine
theorem Room.mono {j k : Nat} {A : Around} (r : Room k A) (h : j ≤ k) : Room j A := ⟨r.hd, by have := r.dp; lia, by have := r.un; lia⟩
theorem Room.deeper {k : Nat} {A : Around} (r : Room (k + 1) A) (env : Env) : Room k (A.deeper env) :=
  ⟨r.hd, by have := r.dp; show A.depth + 1 + 3 * k + 5 < _; lia, by have := r.un; show A.units + 3 + 16 * k + 200 < _; lia⟩
theorem make_depth {A : Around} {C : Addr} {us : List Value} {kw : List (Str × Value)} : (A.under (.builtin "type.__call__" ⟨.ref C :: us, kw⟩)).depth = A.depth + 1 := by
  first | rfl | simp [Around.under, Code.weight, Code.isCreation, Code.isGuard, Code.isCaller, Code.frames, Code.isFrame, guardIds]
theorem make_units {A : Around} {C : Addr} {us : List Value} {kw : List (Str × Value)} : (A.under (.builtin "type.__call__" ⟨.ref C :: us, kw⟩)).units = A.units + 1 := by
  first | rfl | simp [Around.under, Code.cUnits, Code.frames, Code.isFrame]
theorem Room.make {k : Nat} {A : Around} (r : Room (k + 1) A) (C : Addr) (us : List Value) (kw : List (Str × Value)) : Room k (A.under (.builtin "type.__call__" ⟨.ref C :: us, kw⟩)) :=
  ⟨r.hd, by have := r.dp; rw [make_depth]; lia, by have := r.un; rw [make_units]; lia⟩
theorem Room.depth {k : Nat} {A : Around} (r : Room k A) : A.depth < recursionLimit := by have := r.dp; lia
theorem Room.units {k : Nat} {A : Around} (r : Room k A) : A.units + 64 < cLine := by have := r.un; lia

/-! ### argument lists and displays -/
def tNil : TA := fun _ H Q => Q [] H
def tCons (ta : TE) (tr : TA) : TA := fun σ H Q => ta σ H fun x H1 => tr σ H1 fun xs H2 => Q (x :: xs) H2
section
variable {X : Cx} {e : Expr} {es : List Expr} {te : TE} {t : TA} {pos : Pos}
theorem pa_nil : PA X [] tNil := fun _ _ _ _ H Q I h => Calls.spliced_nil ⟨[], H, I, .nil, h⟩
theorem pa_cons (ha : PE X e te) (hr : PA X es t) (hs : starEach (e :: es) X.env = (false, eval e X.env) :: starEach es X.env := by rfl) : PA X (e :: es) (tCons te t) := by
  intro pos pins s σ H Q I h
  rw [hs]
  show wpAny _ _ (spliced ((false, eval e X.env) :: backTo pos (starEach es X.env))) _ _ s
  refine Calls.spliced_cons (thn (ha pins s σ H _ I h) ?_)
  rintro u s1 ⟨x, H1, I1, r1, q1⟩
  refine thn (hr pos pins s1 σ H1 _ I1 q1) ?_
  rintro us s2 ⟨xs, H2, I2, r2, q2⟩
  exact ⟨x :: xs, H2, I2, .cons r1 r2, q2⟩

/-- a tuple, a list of written items -/
def tTup (t : TA) : TE := fun σ H Q => t σ H fun xs H1 => xs.length ≤ sizeLine ∧ ∀ p, H1 p = none → Q (.ref p) (upd H1 p (.tup xs))
def tLst (t : TA) : TE := fun σ H Q => t σ H fun xs H1 => xs.length ≤ sizeLine ∧ ∀ p, H1 p = none → Q (.ref p) (upd H1 p (.lst xs))
theorem pe_tup {x1} (h : PA X es t) : PE X (.Tuple es x1 pos) (tTup t) := by
  intro pins s σ H Q I hq
  refine wpAny_Tuple_spliced (thn (h pos pins s σ H _ I hq) ?_)
  rintro us s1 ⟨xs, H1, I1, r, z, q⟩
  refine ⟨by rw [← r.length]; exact z, ?_⟩
  have hf : H1 s1.heap.objs.size = none := I1.hok.fresh (Nat.le_refl _)
  refine ⟨.ref s1.heap.objs.size, upd H1 s1.heap.objs.size (.tup xs), I1.laid (t' := s1.toks) (fun b u e => Heap.get?_push_of_some _ e) (Nat.le_refl _) ?_, rfl, q _ hf⟩
  exact ⟨z, us, r, TupN.new _ _⟩
theorem pe_lst (h : PA X es t) : PE X (.List es pos) (tLst t) := by
  intro pins s σ H Q I hq
  refine wpAny_List_spliced (thn (h pos pins s σ H _ I hq) ?_)
  rintro us s1 ⟨xs, H1, I1, r, z, q⟩
  refine ⟨by rw [← r.length]; exact z, ?_⟩
  have hf : H1 s1.heap.objs.size = none := I1.hok.fresh (Nat.le_refl _)
  refine ⟨.ref s1.heap.objs.size, upd H1 s1.heap.objs.size (.lst xs), I1.laid (t' := s1.toks) (fun b u e => Heap.get?_push_of_some _ e) (Nat.le_refl _) ?_, rfl, q _ hf⟩
  exact ⟨z, us, 0, r, Heap.get?_push_size _ rfl⟩
end

/-! ### what a def promises -/
/-- a def's promise: the bound arguments in the parameters' order, the heap, the wanted end, the wanted exception -/
abbrev Sp := List V → Hp → VK → XK → Prop
/-- how an exception lies behind a call (file 08 gives it): the callers' frames, abstract heap and state ahead of the call, the wish, the exception, the state -/
abbrev CXT := List Env → Hp → Shared → XK → Value → Shared → Prop

/-- the state at a call -/
structure Env0 (P : Program) (w : World) (K : PySem.W.Frag) (mg : Str → Option Value) (base : Heap) (A : Around) (outer : List Env) (s : Shared) (H : Hp) : Prop where
  frames : A.frames = some outer
  mod : Mod K mg base
  bs : ∀ b o, base.get? b = some o → s.heap.get? b = some o ∧ H b = none
  bsz : base.objs.size ≤ s.heap.objs.size
  funs : s.heap.FunFrames base outer
  frf : ∀ b ∈ frs outer, H b = none
  hok : HOk P w H s.heap
  bare : AllBare s.gens
/-- a call's end -/
def CE (outer : List Env) (P : Program) (w : World) (H : Hp) (s : Shared) (Q : VK) (u : Value) (s' : Shared) : Prop :=
  ∃ v H', s'.os = s.os ∧ AllBare s'.gens ∧ Un (frs outer) [] H H' s.heap s'.heap ∧ HOk P w H' s'.heap ∧ RelV v u ∧ Q v H'
def CR (CX : CXT) (outer : List Env) (P : Program) (w : World) (H : Hp) (s : Shared) (Q : VK) (E : XK) (r : Result) (s' : Shared) : Prop :=
  match r with
  | .ok (.ret u) => CE outer P w H s Q u s'
  | .ok _ => False
  | .error e => CX outer H s E e s'
structure FnOk (P : Program) (w : World) (K : PySem.W.Frag) (mg : Str → Option Value) (base : Heap) (CX : CXT) (k : Nat) (f : Addr) (fd : FuncData) (ps : List Str) (sp : Sp) : Prop where
  len : ∀ vs H Q E, sp vs H Q E → vs.length = ps.length
  run : ∀ (A : Around) (outer : List Env) (s : Shared) (H : Hp) (args : Args) (us : List Value) (vs : List V) (Q : VK) (E : XK), Room k A → Env0 P w K mg base A outer s H → BindsTo s fd args (ps.zip us) → Vals vs us → sp vs H Q E →
    codeAny (model P w) A (.call (.ref f) args) (CR CX outer P w H s Q E) s
theorem FnOk.mono {P : Program} {w : World} {K : PySem.W.Frag} {mg : Str → Option Value} {base : Heap} {CX : CXT} {j k : Nat} {f : Addr} {fd : FuncData} {ps : List Str} {sp : Sp} (F : FnOk P w K mg base CX j f fd ps sp) (h : j ≤ k) :
    FnOk P w K mg base CX k f fd ps sp := ⟨F.len, fun A outer s H args us vs Q E hr => F.run A outer s H args us vs Q E (hr.mono h)⟩

theorem Env0.make {P : Program} {w : World} {K : PySem.W.Frag} {mg : Str → Option Value} {base : Heap} {A : Around} {outer : List Env} {s : Shared} {H : Hp} (e : Env0 P w K mg base A outer s H) (C : Addr) (us : List Value) (kw : List (Str × Value)) :
    Env0 P w K mg base (A.under (.builtin "type.__call__" ⟨.ref C :: us, kw⟩)) outer s H := ⟨by first | exact e.frames | (simpa [Around.under, Code.envs, Code.isFrame, pushEnvs] using e.frames), e.mod, e.bs, e.bsz, e.funs, e.frf, e.hok, e.bare⟩

section
variable {X : Cx} {pins : List (Addr × Obj)} {σ : St} {H : Hp} {s s' : Shared}
/-- from a body: what a callee wants -/
theorem Inv.env0 (I : Inv X pins σ H s) : Env0 X.prog X.w X.K X.mg X.base X.A X.stack s H :=
  ⟨I.ok.frames, I.ok.mod, I.bs, Nat.le_trans I.ok.bsz I.sz, I.stack, I.stkFree, I.hok, I.bare⟩
/-- behind a call -/
theorem Inv.after {Q : VK} {u : Value} (I : Inv X pins σ H s) (h : CE X.stack X.prog X.w H s Q u s') : EP X pins σ Q u s' := by
  obtain ⟨v, H', os, bare, un, hok, r, q⟩ := h
  obtain ⟨hh, g, d, t, os'⟩ := s'
  obtain rfl : os' = s.os := os
  exact ⟨v, H', I.call (h' := hh) (g' := g) (d' := d) (t' := t) (ch := []) un hok bare (fun b z => absurd z (by simp)), r, q⟩
end

/-! ### calls -/
/-- f(..): the written arguments, then the defaults dvs; E: what is wanted of an exception -/
def tCall (sp : Sp) (dvs : List V) (E : XK) (t : TA) : TE := fun σ H Q => t σ H fun vs H1 => sp (vs ++ dvs) H1 Q E
/-- C(..): a new instance and its dict, then __init__ -/
def tMake (C : Addr) (sp : Sp) (dvs : List V) (E : XK) (t : TA) : TE := fun σ H Q => t σ H fun vs H1 => ∀ x dx, H1 x = none → H1 dx = none → dx ≠ x →
  sp (.ref x :: (vs ++ dvs)) (upd (upd H1 dx (.own x)) x (.ins C dx [])) (fun v H2 => v = .non ∧ Q (.ref x) H2) E

/-- how the parameters are bound: us the positional arguments, kw the keywords' values by name, ds the defaults that fill up -/
def Binds (K : PySem.W.Frag) (fd : FuncData) (ps : List Str) (ds : List Value) : Prop :=
  ∀ (s : Shared) (us : List Value), K.In s.heap → (us ++ ds).length = ps.length → BindsTo s fd ⟨us, []⟩ (ps.zip (us ++ ds))
/-- every parameter is given -/
theorem Binds.all {K : PySem.W.Frag} {fd : FuncData} {ps : List Str} (h : ∀ us : List Value, us.length = ps.length → bindArgs fd ⟨us, []⟩ = pure (ps.zip us)) : Binds K fd ps [] := fun s us _ hl => by
  rw [List.append_nil] at hl ⊢
  exact .of_eq (h us hl)

/-- an exception of a callee reaches what this body wants of exceptions -/
def Passes (CX : CXT) (X : Cx) (E : XK) : Prop := ∀ (pins : List (Addr × Obj)) (σ : St) (H : Hp) (s : Shared) (e : Value) (s' : Shared), Inv X pins σ H s → CX X.stack H s E e s' → X.xe e s'

section
variable {X : Cx} {CX : CXT} {k : Nat} {f C : Addr} {fd : FuncData} {ps : List Str} {sp : Sp} {dvs : List V} {ds : List Value} {E : XK} {x m : Str} {p pos apos : Pos} {e o : Expr} {es : List Expr} {ta : TE} {t : TA}

/-- the callee runs -/
theorem run_fn {pins : List (Addr × Obj)} {σ : St} {H : Hp} {s : Shared} {Q : VK} {us : List Value} {vs : List V} (F : FnOk X.prog X.w X.K X.mg X.base CX k f fd ps sp) (hr : Room k X.A) (hb : Binds X.K fd ps ds) (hd : Vals dvs ds) (hx : Passes CX X E)
    (I : Inv X pins σ H s) (r : Vals vs us) (h : sp (vs ++ dvs) H Q E) : wpAny (model X.prog X.w) X.A (call (.ref f) us) (EP X pins σ Q) X.xe s := by
  have r2 : Vals (vs ++ dvs) (us ++ ds) := r.append hd
  have hl : (us ++ ds).length = ps.length := by rw [← r2.length]; exact F.len _ _ _ _ h
  refine wpAny_call (codeAny_mono (F.run X.A X.stack s H ⟨us, []⟩ (us ++ ds) (vs ++ dvs) Q E hr I.env0 (hb s us I.kIn hl) r2 h) fun r s' hq => ?_)
  cases r with
  | error e => exact hx pins σ H s e s' I hq
  | ok fl =>
    cases fl with
    | ret u => exact I.after hq
    | next => exact False.elim hq
    | brk => exact False.elim hq
    | cont => exact False.elim hq

theorem pe_call (F : FnOk X.prog X.w X.K X.mg X.base CX k f fd ps sp) (hr : Room k X.A) (hg : Gl X x) (hm : X.mg x = some (.ref f)) (hk : PySem.W.keepIn X.K (.ref f) = true) (hb : Binds X.K fd ps ds) (hd : Vals dvs ds) (hx : Passes CX X E)
    (ha : PA X (e :: es) t) (hdb : (x == ("__debug__" : Str)) = false := by decide) (he : starEach (e :: es) X.env = (false, eval e X.env) :: starEach es X.env := by rfl) (hpl : (backTo pos (starEach es X.env)).any (·.1) = false := by rfl) :
    PE X (.Call (.Name x p) (e :: es) [] pos) (tCall sp dvs E t) := by
  intro pins s σ H Q I h
  refine wpAny_Call_Name_kw (ld_glob I hg hm ?_ hdb)
  refine PySem.W.callWith_K (h₀ := X.base) I.ok.mod.kin hk (thn (ha pos pins s σ H _ I h) ?_) he hpl
  rintro us s1 ⟨vs, H1, I1, r, q⟩
  refine ⟨I1.kIn, ?_⟩
  exact run_fn F hr hb hd hx I1 r q


/-- what a class must have to be made -/
structure Mk (K : PySem.W.Frag) (C f : Addr) : Prop where
  makes : PySem.W.makesIn K C = true
  init : PySem.W.findIn K (.ref C) "__init__" = some (some (.ref f))
  fn : PySem.W.isFn K (.ref f) = true
  kp : PySem.W.keepIn K (.ref C) = true

theorem run_make {pins : List (Addr × Obj)} {σ : St} {H : Hp} {s : Shared} {Q : VK} {us : List Value} {vs : List V} (M : Mk X.K C f) (F : FnOk X.prog X.w X.K X.mg X.base CX k f fd ps sp) (hr : Room (k + 1) X.A) (hb : Binds X.K fd ps ds) (hd : Vals dvs ds)
    (hx : Passes CX X E) (I : Inv X pins σ H s) (r : Vals vs us)
    (h : ∀ x dx, H x = none → H dx = none → dx ≠ x → sp (.ref x :: (vs ++ dvs)) (upd (upd H dx (.own x)) x (.ins C dx [])) (fun v H2 => v = .non ∧ Q (.ref x) H2) E) :
    wpAny (model X.prog X.w) X.A (call (.ref C) us) (EP X pins σ Q) X.xe s := by
  have hq := h (s.heap.objs.size + 1) s.heap.objs.size (I.hok.fresh (Nat.le_succ _)) (I.hok.fresh (Nat.le_refl _)) (Nat.ne_of_lt (Nat.lt_succ_self _))
  have I2 := Inv.made (C := C) I
  have r2 : Vals (V.ref (s.heap.objs.size + 1) :: (vs ++ dvs)) (Value.ref (s.heap.objs.size + 1) :: (us ++ ds)) := .cons rfl (r.append hd)
  have hl : (Value.ref (s.heap.objs.size + 1) :: us ++ ds).length = ps.length := by
    have e := r2.length
    rw [F.len _ _ _ _ hq] at e
    exact e.symm
  refine wpAny_call (make_map (f := f) I.kIn M.makes M.init (beq_iff_eq.mp M.fn) (codeAny_mono (F.run _ X.stack _ _ ⟨Value.ref (s.heap.objs.size + 1) :: us, []⟩ (Value.ref (s.heap.objs.size + 1) :: (us ++ ds)) _ _ E (hr.make C us [])
    (I2.env0.make C us []) (hb _ (Value.ref (s.heap.objs.size + 1) :: us) I2.kIn hl) r2 hq) fun r s' hq' => ?_))
  cases r with
  | error e => exact hx pins σ _ _ e s' I2 hq'
  | ok fl =>
    cases fl with
    | ret u =>
      obtain ⟨v, H', I3, rv, ev, q3⟩ := I2.after hq'
      subst ev
      exact ⟨rv, ⟨V.ref (s.heap.objs.size + 1), H', I3, rfl, q3⟩⟩
    | next => exact False.elim hq'
    | brk => exact False.elim hq'
    | cont => exact False.elim hq'
theorem pe_make (M : Mk X.K C f) (F : FnOk X.prog X.w X.K X.mg X.base CX k f fd ps sp) (hr : Room (k + 1) X.A) (hg : Gl X x) (hm : X.mg x = some (.ref C)) (hb : Binds X.K fd ps ds) (hd : Vals dvs ds) (hx : Passes CX X E)
    (ha : PA X (e :: es) t) (hdb : (x == ("__debug__" : Str)) = false := by decide) (he : starEach (e :: es) X.env = (false, eval e X.env) :: starEach es X.env := by rfl) (hpl : (backTo pos (starEach es X.env)).any (·.1) = false := by rfl) :
    PE X (.Call (.Name x p) (e :: es) [] pos) (tMake C sp dvs E t) := by
  intro pins s σ H Q I h
  refine wpAny_Call_Name_kw (ld_glob I hg hm ?_ hdb)
  refine PySem.W.callWith_K (h₀ := X.base) I.ok.mod.kin M.kp (thn (ha pos pins s σ H _ I h) ?_) he hpl
  rintro us s1 ⟨vs, H1, I1, r, q⟩
  refine ⟨I1.kIn, ?_⟩
  exact run_make M F hr hb hd hx I1 r q
end

/-! ### keywords -/
/-- the values of the keywords, from the left -/
def PK (X : Cx) (kws : List Keyword) (t : TA) : Prop :=
  ∀ (pos : Pos) (pins : List (Addr × Obj)) (s : Shared) (σ : St) (H : Hp) (Q : List V → Hp → Prop), Inv X pins σ H s → t σ H Q → wpAny (model X.prog X.w) X.A (evalAll ((backToKw pos (keywordEach kws X.env)).map (·.2))) (AP X pins σ Q) X.xe s
section
variable {X : Cx} {CX : CXT} {k : Nat} {f C : Addr} {fd : FuncData} {ps ks : List Str} {sp : Sp} {E : XK} {x m : Str} {p pos apos kpos : Pos} {e o : Expr} {es : List Expr} {kws : List Keyword} {te ta : TE} {t tk : TA} {nm : Option Str}
theorem pk_nil : PK X [] tNil := fun _ _ _ _ H Q I h => wpAny_evalAll_nil ⟨[], H, I, .nil, h⟩
theorem pk_cons (ha : PE X e te) (hr : PK X kws t) : PK X (⟨nm, e, kpos⟩ :: kws) (tCons te t) := by
  intro pos pins s σ H Q I h
  show wpAny _ _ (evalAll ((do let v ← eval e X.env; standAt pos; pure v) :: (backToKw pos (keywordEach kws X.env)).map (·.2))) _ _ s
  refine wpAny_evalAll_cons (wpAny_bind (thn (ha pins s σ H _ I h) ?_))
  rintro u s1 ⟨x, H1, I1, r1, q1⟩
  refine wpAny_bind (wpAny_standAt (wpAny_pure ?_))
  refine thn (hr pos pins s1 σ H1 _ I1 q1) ?_
  rintro us s2 ⟨xs, H2, I2, r2, q2⟩
  exact ⟨x :: xs, H2, I2, .cons r1 r2, q2⟩

variable {g : List Value → List Value → List Value} {gV : List V → List V → List V}
end

/-! ### a def's body keeps its promise -/
/-- names: the parameters first -/
structure FnScope (N P : List Str) (sc : Scope) : Prop where
  kind : sc.kind = .function
  co : sc.isCoroutine = false
  gen : sc.isGenerator = false
  nd : N.Nodup
  pre : N.take P.length = P
  par : ∀ x ∈ P, sc.names.lookup x = some .local ∨ sc.names.lookup x = some .cell
  nofree : ∀ y ∈ sc.names, y.2 ≠ .free

theorem bindL_out {kindOf : Str → Option NameKind} {x : Str} : ∀ {binds : List (Str × Value)} {m : Str → Option Value}, (∀ v, (x, v) ∉ binds) → bindL kindOf binds m x = m x
  | [], _, _ => rfl
  | (n, v) :: r, m, h => by
    unfold bindL
    rw [bindL_out fun w hw => h w (List.mem_cons_of_mem _ hw)]
    split
    · have : x ≠ n := by rintro rfl; exact h v List.mem_cons_self
      simp [this]
    · rfl
theorem bindC_out {kindOf : Str → Option NameKind} {x : Str} : ∀ {binds : List (Str × Value)} {m : Str → Option Value}, (∀ v, (x, v) ∉ binds) → bindC kindOf binds m x = m x
  | [], _, _ => rfl
  | (n, v) :: r, m, h => by
    unfold bindC
    rw [bindC_out fun w hw => h w (List.mem_cons_of_mem _ hw)]
    split
    · rfl
    · have : x ≠ n := by rintro rfl; exact h v List.mem_cons_self
      simp [this]
theorem bindL_get {kindOf : Str → Option NameKind} {x : Str} {v : Value} : ∀ {P : List Str} {vs : List Value} {i : Nat} {m : Str → Option Value}, P.Nodup → P[i]? = some x → vs[i]? = some v → kindOf x = some .local →
    bindL kindOf (P.zip vs) m x = some v
  | [], _, _, _, _, h, _, _ => by simp at h
  | _ :: _, [], _, _, _, _, h, _ => by simp at h
  | p :: P, w :: vs, 0, m, nd, h1, h2, hk => by
    simp at h1 h2; subst h1; subst h2
    show bindL kindOf ((p, w) :: P.zip vs) m p = _
    unfold bindL
    rw [bindL_out fun v hv => (List.nodup_cons.mp nd).1 (List.of_mem_zip hv).1, if_pos hk]
    simp
  | p :: P, w :: vs, i + 1, m, nd, h1, h2, hk => by
    show bindL kindOf ((p, w) :: P.zip vs) m x = _
    unfold bindL
    exact bindL_get (i := i) (List.nodup_cons.mp nd).2 (by simpa using h1) (by simpa using h2) hk
theorem bindC_get {kindOf : Str → Option NameKind} {x : Str} {v : Value} : ∀ {P : List Str} {vs : List Value} {i : Nat} {m : Str → Option Value}, P.Nodup → P[i]? = some x → vs[i]? = some v → kindOf x ≠ some .local →
    bindC kindOf (P.zip vs) m x = some v
  | [], _, _, _, _, h, _, _ => by simp at h
  | _ :: _, [], _, _, _, _, h, _ => by simp at h
  | p :: P, w :: vs, 0, m, nd, h1, h2, hk => by
    simp at h1 h2; subst h1; subst h2
    show bindC kindOf ((p, w) :: P.zip vs) m p = _
    unfold bindC
    rw [bindC_out fun v hv => (List.nodup_cons.mp nd).1 (List.of_mem_zip hv).1, if_neg hk]
    simp
  | p :: P, w :: vs, i + 1, m, nd, h1, h2, hk => by
    show bindC kindOf ((p, w) :: P.zip vs) m x = _
    unfold bindC
    exact bindC_get (i := i) (List.nodup_cons.mp nd).2 (by simpa using h1) (by simpa using h2) hk

/-- the names' values at the entry -/
def start (N : List Str) (vs : List V) : St := vs.map some ++ List.replicate (N.length - vs.length) none

/-- the context of a def's body, at its entry; an exception leaves the frame, then lies as CX says -/
def cxOf (CX : CXT) (P : Program) (w : World) (K : PySem.W.Frag) (mg : Str → Option Value) (base : Heap) (N : List Str) (qual : Str) (scope : Scope) (f : Addr) (cd : Value) (A : Around) (outer : List Env) (s : Shared) (H : Hp) (E : XK) : Cx where
  prog := P
  w := w
  K := K
  mg := mg
  base := base
  A := A.deeper (envOfC qual scope s.heap.objs.size f cd)
  N := N
  s₀ := s
  H₀ := H
  env := envOfC qual scope s.heap.objs.size f cd
  outer := outer
  stack := envOfC qual scope s.heap.objs.size f cd :: outer
  ex := []
  calm := true
  fn := fun _ => true
  pn := []
  xe := fun e s' => wpAny (model P w) (A.deeper (envOfC qual scope s.heap.objs.size f cd)) (leaving (envOfC qual scope s.heap.objs.size f cd) e) (fun _ s'' => CX outer H s E e s'') (fun e' s'' => CX outer H s E e' s'') s'

theorem cell_has {sc : Scope} {n : Nat} {x : Str} (h : sc.names.lookup x = some .cell) : ∃ c, (cellsFrom n sc.names []).lookup x = some c := by
  have q := PySem.W.cellsFrom_some sc.names n [] (.inl h)
  exact Option.isSome_iff_exists.mp q

theorem inv_start {CX : CXT} {P : Program} {w : World} {K : PySem.W.Frag} {mg : Str → Option Value} {base : Heap} {N ps : List Str} {qual : Str} {scope : Scope} {f : Addr} {cd : Value} {A : Around} {outer : List Env} {s s1 : Shared} {H : Hp} {E : XK} {us : List Value} {vs : List V}
    (S : FnScope N ps scope) (hd : A.handled = none) (e0 : Env0 P w K mg base A outer s H) (hl : vs.length = ps.length) (r : Vals vs us)
    (x : InCallC s s.heap.objs.size (bindL (envOfC qual scope s.heap.objs.size f cd).kindOf (ps.zip us) fun _ => none) (cellsFrom (s.heap.objs.size + 1) scope.names []) (bindC (envOfC qual scope s.heap.objs.size f cd).kindOf (ps.zip us) fun _ => none) s1) :
    Inv (cxOf CX P w K mg base N qual scope f cd A outer s H E) [] (start N vs) H s1 := by
  have hpl : ps.length ≤ N.length := by have := congrArg List.length S.pre; rw [List.length_take] at this; lia
  obtain ⟨h1, tk, rfl, hk⟩ := x.done
  have noA : ∀ b : Addr, b ∉ (cxOf CX P w K mg base N qual scope f cd A outer s H E).ex := fun b z => absurd (show b ∈ ([] : List Addr) from z) (by simp)
  refine ⟨⟨e0.mod, S.kind, rfl, rfl, Nat.le_refl _, fun y z c h1 h2 => ?_, fun y hy => ?_, fun y c _ h => ?_, fun _ => hd, Around.frames_deeper e0.frames, .inr ⟨rfl, rfl⟩, fun b z => absurd z (noA b), e0.bs, e0.bsz, fun b _ _ => noA b, fun b z => absurd z (noA b), e0.funs, e0.frf⟩,
    rfl, e0.bare, Un.kept hk, ⟨_, x.toInCall.ns, fun i y v h1 h2 h3 => ?_⟩, fun y c h => ⟨_, x.cell y c h⟩, e0.hok.fresh (Nat.le_refl _), fun y c h => ?_, fun p hp => absurd (show p ∈ ([] : List (Addr × Obj)) from hp) (by simp), e0.hok.kept hk, ?_⟩
  · exact name_of_addr x.apart (PySem.mem_of_lookup h1) (PySem.mem_of_lookup h2)
  · have hy : scope.names.lookup y = some .cell ∨ scope.names.lookup y = some .free := hy
    rcases hy with hy | hy
    · exact cell_has hy
    · exact absurd rfl (S.nofree _ (PySem.mem_of_lookup hy))
  · exact Nat.le_of_lt (x.above y c (PySem.mem_of_lookup h))
  · have hi : i < vs.length := by
      unfold start at h2
      by_cases hi : i < vs.length
      · exact hi
      · rw [List.getElem?_append_right (by simpa using hi)] at h2
        rw [List.getElem?_replicate] at h2
        split at h2 <;> cases h2
    have ha : vs[i]? = some v := by
      unfold start at h2
      rw [List.getElem?_append_left (by simpa using hi), List.getElem?_map] at h2
      cases e : vs[i]? with
      | none => rw [e] at h2; cases h2
      | some a => rw [e] at h2; cases h2; rfl
    obtain ⟨u, hu, rv⟩ := r.get ha
    have hp : ps[i]? = some y := by
      rw [← S.pre, List.getElem?_take_of_lt (by lia)]; exact h1
    have ndP : ps.Nodup := by rw [← S.pre]; exact S.nd.sublist (List.take_sublist _ _)
    refine ⟨u, rv, ?_⟩
    rcases S.par y (List.mem_of_getElem? hp) with k | k
    · exact .inl ⟨k, bindL_get ndP hp hu k⟩
    · obtain ⟨c, e⟩ := cell_has (n := s.heap.objs.size + 1) k
      refine .inr ⟨.inl k, c, e, ?_⟩
      have q := x.cell y c e
      rw [bindC_get ndP hp hu (by show scope.names.lookup y ≠ _; rw [k]; decide)] at q
      exact q
  · exact e0.hok.fresh (Nat.le_of_lt (x.above y c (PySem.mem_of_lookup h)))
  · unfold start
    show _ = N.length
    rw [List.length_append, List.length_map, List.length_replicate]
    lia

/-- THE RULE: a def (or a method) of the text, by its body. The body's reading t is chosen for each entry; it is run at the parameters' values -/
theorem fn_of {CX : CXT} {P : Program} {w : World} {K : PySem.W.Frag} {mg : Str → Option Value} {base : Heap} {k : Nat} {f : Addr} {name qual : Str} {params : Arguments} {body : List Stmt} {scope : Scope} {dV kV doc pm cdv ct oc : Value} {an od : Option Addr}
    {osl : Array (Option Value)} {N ps : List Str} {sp : Sp} (lk : K.lookup f = some ⟨oc, od, .func (PySem.W.fnOf name qual params body scope dV kV doc pm an cdv ct), osl⟩) (hcd : PySem.W.codeIn K cdv qual = true) (S : FnScope N ps scope)
    (len : ∀ vs H Q E, sp vs H Q E → vs.length = ps.length)
    (hbody : ∀ (A : Around) (outer : List Env) (s : Shared) (H : Hp) (vs : List V) (Q : VK) (E : XK), Room k (A.deeper (envOfC qual scope s.heap.objs.size f cdv)) → sp vs H Q E →
      ∃ t, PSs (cxOf CX P w K mg base N qual scope f cdv A outer s H E) body t ∧ t { nx := fun _ H' => Q .non H', rt := Q } (start N vs) H) :
    FnOk P w K mg base CX (k + 1) f (PySem.W.fnOf name qual params body scope dV kV doc pm an cdv ct) ps sp := by
  refine ⟨len, fun A outer s H args us vs Q E hr e0 hb r hsp => ?_⟩
  have hl := len _ _ _ _ hsp
  have KX : K.In s.heap := e0.mod.kin.keeps fun b o e => (e0.bs b o e).1
  have lim : s.heap.NoLimit := e0.mod.nolimit.keeps fun b o e => (e0.bs b o e).1
  have hkind : ∀ y ∈ ps.zip us, scope.names.lookup y.1 = some .local ∨ (scope.names.lookup y.1 = some .cell ∧ ((cellsFrom (s.heap.objs.size + 1) scope.names []).lookup y.1).isSome = true) := fun ⟨n, v⟩ hy => by
    rcases S.par n (List.of_mem_zip hy).1 with q | q
    · exact .inl q
    · exact .inr ⟨q, PySem.W.cellsFrom_some _ _ _ (.inl q)⟩
  refine codeAny_call_function hr.depth (KX _ _ lk) rfl S.co S.gen rfl (PySem.W.codeRec_of KX hcd) (hb _ _ _ _ ?_)
  refine wpAny_newFunctionEnv_cells S.kind hkind fun env he s1 x => ?_
  subst he
  refine ⟨lim.keeps x.toInCall.keep, codeAny_func ?_⟩
  obtain ⟨t, ht, hq⟩ := hbody A outer s H vs Q E (hr.deeper _) hsp
  have I : Inv (cxOf CX P w K mg base N qual scope f cdv A outer s H E) [] (start N vs) H s1 := inv_start S hr.hd e0 hl r x
  refine wpAny_mono (ht [] s1 (start N vs) H _ I hq) (fun fl s' hs => ?_) fun e s' hs => hs
  have fin : ∀ {σ' : St} {H' : Hp} {v : V} {u : Value}, Inv (cxOf CX P w K mg base N qual scope f cdv A outer s H E) [] σ' H' s' → RelV v u → Q v H' → CE outer P w H s Q u s' :=
    fun {σ' H' v u} J rv q => ⟨v, H', J.os, J.bare, J.base, J.hok, rv, q⟩
  cases fl with
  | ret u =>
    obtain ⟨v, σ', H', J, rv, q⟩ := hs
    exact fin J rv q
  | next =>
    obtain ⟨σ', H', J, q⟩ := hs
    exact fin (v := V.non) (u := Value.none) J rfl q
  | brk =>
    obtain ⟨_, _, _, q⟩ := hs
    exact False.elim q
  | cont =>
    obtain ⟨_, _, _, q⟩ := hs
    exact False.elim q
end L2

namespace L2
open PySem PySem.Spec PyProof.Rows
section
variable {X : Cx} {x : Str} {p pos : Pos} {e : Expr} {es : List Expr} {t : TA} {id T : String} {r : List V → Hp → VK → Prop}

def tCB (r : List V → Hp → VK → Prop) (t : TA) : TE := fun σ H Q => t σ H fun vs H1 => r vs H1 Q
/-- f(e, ..), f a built-in function -/
theorem pe_callB (hc : CallR X (.builtin id) r) (hg : Gl X x) (hm : X.mg x = none) (hv : bootBuiltins x = some (.builtin id)) (ha : PA X (e :: es) t) (hn : x ≠ "__name__" := by decide) (hdb : (x == ("__debug__" : Str)) = false := by decide)
    (he : starEach (e :: es) X.env = (false, eval e X.env) :: starEach es X.env := by rfl) (hpl : (backTo pos (starEach es X.env)).any (·.1) = false := by rfl) : PE X (.Call (.Name x p) (e :: es) [] pos) (tCB r t) := by
  intro pins s σ H Q I h
  refine wpAny_Call_Name_kw (ld_blt I hg hm hv ?_ hn hdb)
  refine PyProof.Rows.callWith_builtin1 (thn (ha pos pins s σ H _ I h) ?_) he hpl
  rintro us s1 ⟨vs, H1, I1, r1, q1⟩
  exact hc pins s1 σ H1 vs us Q I1 r1 q1
/-- T(e, ..), T a built-in type -/
theorem pe_callTy (hc : CallR X (.type T) r) (hg : Gl X x) (hm : X.mg x = none) (hv : bootBuiltins x = some (.type T)) (ha : PA X (e :: es) t) (hn : x ≠ "__name__" := by decide) (hdb : (x == ("__debug__" : Str)) = false := by decide)
    (he : starEach (e :: es) X.env = (false, eval e X.env) :: starEach es X.env := by rfl) (hpl : (backTo pos (starEach es X.env)).any (·.1) = false := by rfl) : PE X (.Call (.Name x p) (e :: es) [] pos) (tCB r t) := by
  intro pins s σ H Q I h
  refine wpAny_Call_Name_kw (ld_blt I hg hm hv ?_ hn hdb)
  refine PyProof.Rows.callWith_type1 (thn (ha pos pins s σ H _ I h) ?_) he hpl
  rintro us s1 ⟨vs, H1, I1, r1, q1⟩
  exact hc pins s1 σ H1 vs us Q I1 r1 q1
end
end L2

namespace HT
open PySem PyProof.Rows



section
open PySem.SeqAt
open PySem.AutoSeq1 (wpAny_loadPart')
open PySem.MeetsSeq PySem.MeetsSeq2 PySem.MeetsSeq3

end

section
variable {prog : Program} {w : World} {A : Around} {E : Value → Shared → Prop} {s : Shared}


/-- t + u, t not empty -/
theorem cat_tup {t b : Addr} {vs ws : List Value} {Q : Value → Shared → Prop} (ht : IsTup s.heap t vs.toArray) (hb : IsTup s.heap b ws.toArray) (hv : vs ≠ [])
    (h1 : ws = [] → Q (.ref t) s) (h2 : ws ≠ [] → Q (.ref s.heap.objs.size) { s with heap := s.heap.push { cls := .type "tuple", data := .seq (vs ++ ws).toArray } })
    (hsz : vs.length + ws.length ≤ sizeLine) : wpAny (model prog w) A (binaryOp .Add (.ref t) (.ref b)) Q E s := by
  obtain ⟨⟨cls, dd, data, sl⟩, ho, hc, n, hd⟩ := id ht
  obtain ⟨⟨cls2, dd2, data2, sl2⟩, ho2, hc2, n2, hd2⟩ := id hb
  simp only at hc hd hc2 hd2
  subst hc hd hc2 hd2
  have e : vs.toArray ++ ws.toArray = (vs ++ ws).toArray := by simp
  by_cases hw : ws = []
  · exact concat_meets ⟨_, ho, rfl⟩ ⟨_, ho2, rfl⟩ noFill_tuple_add seq_tuple_add PySem.F.slot_tuple_add PySem.F.entry_tuple_add (PySem.F.args_tuple_add_2 _ _)
      (tuple_addW1 t b vs.toArray ws.toArray n n2 dd dd2 sl sl2 (by simpa using hv) (by simp [hw])) ⟨ho, ho2, h1 hw⟩
  · refine concat_meets ⟨_, ho, rfl⟩ ⟨_, ho2, rfl⟩ noFill_tuple_add seq_tuple_add PySem.F.slot_tuple_add PySem.F.entry_tuple_add (PySem.F.args_tuple_add_2 _ _)
      (tuple_addW2 t b vs.toArray ws.toArray n n2 dd dd2 sl sl2 (by simpa using hv) (by simpa using hw) (by rw [List.size_toArray, List.size_toArray]; exact hsz)) ⟨ho, ho2, ?_⟩
    rw [e]
    exact h2 hw

/-! ### t[a:b], not the whole -/
/-- a slice's bound as a place among n (d where it is left out) -/
def sIx (n d : Nat) : Option Int → Nat
  | none => d
  | some v => if v < 0 then (v + (n : Int)).toNat else min v.toNat n
theorem sIx_none (n d : Nat) : sIx n d none = d := rfl
theorem sIx_nat (n d k : Nat) : sIx n d (some (k : Int)) = min k n := by
  show (if (k : Int) < 0 then ((k : Int) + (n : Int)).toNat else min (k : Int).toNat n) = min k n
  rw [if_neg (by lia), Int.toNat_natCast]
theorem sIx_le (n d : Nat) (hd : d ≤ n) (o : Option Int) : sIx n d o ≤ n := by
  cases o with
  | none => exact hd
  | some v =>
    show (if v < 0 then (v + (n : Int)).toNat else min v.toNat n) ≤ n
    by_cases hv : v < 0
    · rw [if_pos hv]; lia
    · rw [if_neg hv]; exact Nat.min_le_right _ _
theorem clip_eq (v : Int) (n d : Nat) : (if v < 0 then max (v + (n : Int)) 0 else min v (n : Int)) = ((sIx n d (some v) : Nat) : Int) := by
  show (if v < 0 then max (v + (n : Int)) 0 else min v (n : Int)) = (((if v < 0 then (v + (n : Int)).toNat else min v.toNat n) : Nat) : Int)
  by_cases hv : v < 0
  · simp only [if_pos hv]; lia
  · simp only [if_neg hv]; lia
theorem adjust_gen (lo hi : Option Int) (n : Nat) : Builtin.Slice.sliceAdjust lo hi 1 (n : Int) = (((sIx n 0 lo : Nat) : Int), ((sIx n n hi : Nat) : Int)) := by
  have h1 : ¬ ((1 : Int) < 0) := by lia
  unfold Builtin.Slice.sliceAdjust
  simp only [h1, if_false]
  refine Prod.ext ?_ ?_
  · cases lo with
    | none => rfl
    | some v => exact clip_eq v n 0
  · cases hi with
    | none => rfl
    | some v => exact clip_eq v n n
theorem places_gen (i j : Nat) : Builtin.Slice.slicePlaces (i : Int) (j : Int) 1 = j - i := by
  unfold Builtin.Slice.slicePlaces
  have h1 : (1 : Int) > 0 := by lia
  simp only [h1, if_true, Int.ediv_one]
  split <;> lia
theorem slicePart_ {v : Value} {o : Option Int} {Q : Option Int → Shared → Prop} (p : IsPart v o) (h : Q o s) : wpAny (model prog w) A (Builtin.Slice.slicePartIndex v) Q E s := by
  cases p with
  | none => exact slicePart_none h
  | int i t => exact slicePart_int h
theorem sliceApplied_gen {sl : Addr} {vl vu : Value} {lo hi : Option Int} {n : Nat} {Q : Int × Int × Nat → Shared → Prop} (hs : s.heap.IsSliceOf sl vl vu .none) (pl : IsPart vl lo) (pu : IsPart vu hi)
    (h : Q (((sIx n 0 lo : Nat) : Int), 1, sIx n n hi - sIx n 0 lo) s) : wpAny (model prog w) A (Builtin.Slice.sliceApplied (.ref sl) (pure (n : Int))) Q E s := by
  obtain ⟨os, hos, hcs, hds⟩ := id hs
  unfold Builtin.Slice.sliceApplied Builtin.Slice.sliceFields
  refine wpAny_bind (wpAny_bind (wpAny_field hos hds (x := vl) rfl (wpAny_bind (wpAny_field hos hds (x := vu) rfl (wpAny_bind (wpAny_field hos hds (x := .none) rfl (wpAny_pure ?_)))))))
  refine wpAny_bind (slicePart_none ?_)
  show wpAny _ _ (if ((1 : Int) == 0) = true then _ else _) _ _ s
  rw [if_neg (by decide)]
  refine wpAny_bind (slicePart_ pl (wpAny_bind (slicePart_ pu (wpAny_bind (wpAny_pure ?_)))))
  show wpAny _ _ (match Builtin.Slice.sliceAdjust lo hi 1 (n : Int) with | (lo, hi) => pure (lo, (1 : Int), Builtin.Slice.slicePlaces lo hi 1)) _ _ s
  rw [adjust_gen lo hi n]
  show wpAny _ _ (pure (((sIx n 0 lo : Nat) : Int), (1 : Int), Builtin.Slice.slicePlaces ((sIx n 0 lo : Nat) : Int) ((sIx n n hi : Nat) : Int) 1)) _ _ s
  rw [places_gen]
  exact wpAny_pure h
theorem pick_gen (xs : Array Value) (i k : Nat) : ((List.range k).filterMap fun (m : Nat) => xs[((i : Int) + (m : Int) * 1).toNat]?).toArray = ((xs.toList.drop i).take k).toArray := by
  have e : (fun (m : Nat) => xs[((i : Int) + (m : Int) * 1).toNat]?) = fun m => xs[i + m]? := by
    funext m
    have : ((i : Int) + (m : Int) * 1).toNat = i + m := by lia
    rw [this]
  rw [e]
  have := pick_run xs i k
  rw [List.filterMap_map] at this
  have e2 : ((fun x => xs[x]?) ∘ fun x => i + x) = fun m => xs[i + m]? := rfl
  rw [e2] at this
  rw [this]

theorem getItem_tuple_cut {t sl : Addr} {items : Array Value} {vl vu : Value} {lo hi : Option Int} {Q : Value → Shared → Prop} (ht : IsTup s.heap t items) (hs : s.heap.IsSliceOf sl vl vu .none) (pl : IsPart vl lo) (pu : IsPart vu hi)
    (hw : ¬ (sIx items.size 0 lo = 0 ∧ sIx items.size items.size hi = items.size))
    (h : Q (.ref s.heap.objs.size) { s with heap := s.heap.push { cls := .type "tuple", data := .seq ((items.toList.drop (sIx items.size 0 lo)).take (sIx items.size items.size hi - sIx items.size 0 lo)).toArray } })
    (hsz : items.size ≤ sizeLine) : wpAny (model prog w) A (getItem (.ref t) (.ref sl)) Q E s := by
  have htake : sizeOk (.seq ((items.toList.drop (sIx items.size 0 lo)).take (sIx items.size items.size hi - sIx items.size 0 lo)).toArray) := by
    show ((items.toList.drop (sIx items.size 0 lo)).take (sIx items.size items.size hi - sIx items.size 0 lo)).toArray.size ≤ sizeLine
    rw [List.size_toArray, List.length_take, List.length_drop, Array.length_toList]
    omega
  have hj : sIx items.size items.size hi ≤ items.size := sIx_le _ _ (Nat.le_refl _) hi
  obtain ⟨os, hos, hcs, hds⟩ := id hs
  have hTs : s.TypeIs (.ref sl) "slice" := ⟨os, hos, hcs⟩
  unfold getItem
  try with_reducible refine wpAny_holding ?_
  first | refine wpAny_bind (wpAny_pure ?_) | skip
  refine wpAny_bind (wpAny_sequenceKey ht.typeIs (by decide) ?_)
  refine wpAny_bind (wpAny_callSpecial?_slot (name := Str.ofString "__getitem__") ht.typeIs PyProof.Rows.slot_tuple_getitem
    (wpAny_call_entry PyProof.Rows.slot_tuple_getitem ht.typeIs entry_tuple_getitem ?_ (args_tuple_getitem _ _)))
  show wpAny _ _ (Builtin.Tuple.tupleItemsOf (.ref t) >>= _) _ _ s
  refine wpAny_bind (tupleItemsOf_ ht ?_)
  refine wpAny_bind (wpAny_typeOf hTs ?_)
  rw [if_pos (by decide)]
  refine wpAny_bind (sliceApplied_gen hs pl pu ?_)
  have hno : ¬ ((((sIx items.size 0 lo : Nat) : Int) == 0 && (1 : Int) == 1 && (sIx items.size items.size hi - sIx items.size 0 lo) == items.size) = true) := by
    intro q
    rw [Bool.and_eq_true, Bool.and_eq_true] at q
    have q1 : ((sIx items.size 0 lo : Nat) : Int) = 0 := eq_of_beq q.1.1
    have q2 : sIx items.size items.size hi - sIx items.size 0 lo = items.size := eq_of_beq q.2
    exact hw ⟨by omega, by omega⟩
  show wpAny _ _ (if (((sIx items.size 0 lo : Nat) : Int) == 0 && (1 : Int) == 1 && (sIx items.size items.size hi - sIx items.size 0 lo) == items.size) = true then _ else _) _ _ s
  rw [if_neg hno, pick_gen]
  first
    | exact wpAny_bind (m := Builtin.Tuple.tupleExact _) (wpAny_newObj_type (wpAny_pure ⟨_, rfl, wpAny_pure h⟩) htake)
    | exact wpAny_bind (m := Builtin.Tuple.tupleExact _) (wpAny_newObj_type (wpAny_bind (wpAny_pure (wpAny_pure ⟨_, rfl, wpAny_pure h⟩))) htake)
    | exact wpAny_bind (wpAny_bind (m := Builtin.Tuple.tupleExact _) (wpAny_newObj_type (wpAny_pure (wpAny_pure ⟨_, rfl, wpAny_pure h⟩)) htake))
    | exact wpAny_bind (wpAny_bind (m := Builtin.Tuple.tupleExact _) (wpAny_newObj_type (wpAny_pure ⟨_, rfl, wpAny_pure h⟩) htake))
end
end HT

namespace L2
open PySem PySem.Spec PyProof.Rows

/-! ### the parts of a slice -/
abbrev TO := St → Hp → (Option Int → Hp → Prop) → Prop
/-- a slice's part (left out, or an int) -/
def PO (X : Cx) (e : Option Expr) (t : TO) : Prop :=
  ∀ (pins : List (Addr × Obj)) (s : Shared) (σ : St) (H : Hp) (Q : Option Int → Hp → Prop), Inv X pins σ H s → t σ H Q →
    wpAny (model X.prog X.w) X.A (evalPart e X.env) (fun u s' => ∃ o H', Inv X pins σ H' s' ∧ IsPart u o ∧ Q o H') X.xe s
def tNoPart : TO := fun _ H Q => Q none H
def tPart (t : TE) : TO := fun σ H Q => t σ H fun x H1 => ∃ i, x = .int i ∧ Q (some i) H1

theorem intsAre_of {ns : List Int} : ∀ {us : List Value}, Vals (ns.map V.int) us → IntsAre us ns := by
  induction ns with
  | nil => intro us r; rw [List.map_nil] at r; cases r; exact .nil
  | cons n ns ih =>
    intro us r
    rw [List.map_cons] at r
    cases r with
    | cons r1 r2 =>
      obtain ⟨t, e⟩ := r1
      subst e
      exact .cons n t (ih r2)

section
variable {X : Cx} {e : Expr} {te : TE} {lo hi : Option Expr} {tl th : TO} {pos p2 : Pos}

theorem po_none : PO X none tNoPart := by
  intro pins s σ H Q I h
  rw [evalPart_none]
  exact wpAny_pure ⟨none, H, I, .none, h⟩
theorem po_some (h : PE X e te) : PO X (some e) (tPart te) := by
  intro pins s σ H Q I hw
  rw [evalPart_some]
  refine thn (h pins s σ H _ I hw) ?_
  rintro u s1 ⟨x, H1, I1, r1, q1⟩
  obtain ⟨i, rfl, q⟩ := q1
  obtain ⟨t, rfl⟩ := r1
  exact ⟨some i, H1, I1, .int i t, q⟩

/-- what a slice of a value is, by values: the slice object stands at sl -/
def SlR (X : Cx) (r : V → Option Int → Option Int → Hp → VK → Prop) : Prop :=
  ∀ (pins : List (Addr × Obj)) (s : Shared) (σ : St) (H : Hp) (x : V) (v vl vu : Value) (lo hi : Option Int) (sl : Addr) (Q : VK), Inv X pins σ H s → RelV x v → s.heap.IsSliceOf sl vl vu .none → IsPart vl lo → IsPart vu hi → r x lo hi H Q →
    ∃ T id, typeLookup (.type T) "__getitem__" = pure (some (.builtin id)) ∧ s.TypeIs v T ∧ wpAny (model X.prog X.w) X.A (getItem v (.ref sl)) (EP X pins σ Q) X.xe s
def tSl (r : V → Option Int → Option Int → Hp → VK → Prop) (te : TE) (tl th : TO) : TE := fun σ H Q => te σ H fun x H1 => tl σ H1 fun l H2 => th σ H2 fun u H3 => r x l u H3 Q
/-- a[lo:hi], any a -/
theorem pe_slice {r : V → Option Int → Option Int → Hp → VK → Prop} (hr : SlR X r) (he : PE X e te) (hl : PO X lo tl) (hu : PO X hi th) : PE X (.Subscript e (.Slice lo hi none p2) pos) (tSl r te tl th) := by
  intro pins s σ H Q I h
  refine Subscript_ (thn (he pins s σ H _ I h) ?_)
  rintro v s1 ⟨x, H1, I1, r1, q1⟩
  refine wpAny_Slice (thn (hl pins s1 σ H1 _ I1 q1) ?_)
  rintro vl s2 ⟨l, H2, I2, pl, q2⟩
  refine thn (hu pins s2 σ H2 _ I2 q2) ?_
  rintro vu s3 ⟨u, H3, I3, pu, q3⟩
  rw [evalPart_none]
  refine wpAny_pure ?_
  have I4 : Inv X pins σ H3 { s3 with heap := s3.heap.push { cls := .type "slice", data := .fields #[vl, vu, .none] } } := I3.kept (t' := s3.toks) fun b ob q => Heap.get?_push_of_some _ q
  obtain ⟨T, id, hT, ht, hg⟩ := hr pins { s3 with heap := s3.heap.push { cls := .type "slice", data := .fields #[vl, vu, .none] } } σ H3 x v vl vu l u s3.heap.objs.size Q I4 r1 (Heap.IsSliceOf.new ..) pl pu q3
  show wpAny (model X.prog X.w) X.A (subscriptTail e (.Slice lo hi none p2) v (.ref s3.heap.objs.size)) (EP X pins σ Q) X.xe { s3 with heap := s3.heap.push { cls := .type "slice", data := .fields #[vl, vu, .none] } }
  exact tail_any (ops := [.ref s3.heap.objs.size, v]) ht hT hg (by with_unfolding_all rfl)

/-- the items of xs[lo:hi] -/
def cutV (xs : List V) (lo hi : Option Int) : List V := (xs.drop (HT.sIx xs.length 0 lo)).take (HT.sIx xs.length xs.length hi - HT.sIx xs.length 0 lo)
theorem cutV_length (xs : List V) (lo hi : Option Int) : (cutV xs lo hi).length ≤ xs.length := by
  unfold cutV
  rw [List.length_take, List.length_drop]
  lia
/-- t[lo:hi], not the whole of it (the whole would be t itself) -/
def rSlT (K : PySem.W.Frag) : V → Option Int → Option Int → Hp → VK → Prop := fun x lo hi H Q => ∃ a xs, x = .ref a ∧ SqT K H a xs ∧
  ¬ (HT.sIx xs.length 0 lo = 0 ∧ HT.sIx xs.length xs.length hi = xs.length) ∧ ∀ p, H p = none → Q (.ref p) (upd H p (.tup (cutV xs lo hi)))
theorem sl_tup : SlR X (rSlT X.K) := by
  intro pins s σ H x v vl vu lo hi sl Q I rx hs pl pu h
  obtain ⟨a, xs, rfl, hx, hw, q⟩ := h
  cases rx
  obtain ⟨its, r, ht, hz⟩ := I.tuple hx
  have hlen : its.toArray.size = xs.length := by rw [List.size_toArray]; exact r.length.symm
  refine ⟨"tuple", _, PyProof.Rows.slot_tuple_getitem.lookup, ht.typeIs, ?_⟩
  refine HT.getItem_tuple_cut ht hs pl pu (by rw [hlen]; exact hw) ?_ (by rw [hlen]; exact hz)
  rw [hlen]
  refine ⟨.ref s.heap.objs.size, _, I.laid (t' := s.toks) (o := .tup (cutV xs lo hi)) (fun b ob q => Heap.get?_push_of_some _ q) (Nat.le_refl _) ?_, rfl, q _ (I.hok.fresh (Nat.le_refl _))⟩
  exact ⟨Nat.le_trans (cutV_length xs lo hi) hz, _, (r.drop (HT.sIx xs.length 0 lo)).take (HT.sIx xs.length xs.length hi - HT.sIx xs.length 0 lo), TupN.new _ _⟩

/-! ### t < u, t + u -/
/-- t + u, t not empty: u empty gives t itself -/
def rCatT (K : PySem.W.Frag) : R2 := fun x y H Q => ∃ a b xs ys, x = .ref a ∧ y = .ref b ∧ SqT K H a xs ∧ SqT K H b ys ∧ xs ≠ [] ∧ xs.length + ys.length ≤ sizeLine ∧
  (ys = [] → Q (.ref a) H) ∧ (ys ≠ [] → ∀ p, H p = none → Q (.ref p) (upd H p (.tup (xs ++ ys))))
theorem Vals.nil_iff {xs : List V} {us : List Value} (r : Vals xs us) : us = [] ↔ xs = [] := by
  cases r with
  | nil => simp
  | cons _ _ => simp
theorem op_catT : OpR X (binaryOp .Add) (rCatT X.K) := by
  intro pins s σ H x y v u Q I rx ry h
  obtain ⟨a, b, xs, ys, rfl, rfl, ha, hb, hx, hz, q1, q2⟩ := h
  cases rx
  cases ry
  obtain ⟨its, r1, p1, _⟩ := I.tuple ha
  obtain ⟨its2, r2, p2, _⟩ := I.tuple hb
  refine HT.cat_tup p1 p2 (fun z => hx (r1.nil_iff.mp z)) (fun z => ⟨.ref a, H, I, rfl, q1 (r2.nil_iff.mp z)⟩) (fun z => ?_) (by rw [← r1.length, ← r2.length]; exact hz)
  refine ⟨.ref s.heap.objs.size, _, I.laid (t' := s.toks) (o := .tup (xs ++ ys)) (fun b ob q => Heap.get?_push_of_some _ q) (Nat.le_refl _) ?_, rfl, q2 (fun w => z (r2.nil_iff.mpr w)) _ (I.hok.fresh (Nat.le_refl _))⟩
  exact ⟨by rw [List.length_append]; exact hz, _, r1.append r2, TupN.new _ _⟩
end
end L2

namespace L2
open PySem PySem.Spec PyProof.Rows

/-! ### places -/
/-- the place that an index of any sign means -/
def ixN (n : Nat) (i : Int) : Option Nat := if 0 ≤ i then (if i < n then some i.toNat else none) else if -(n : Int) ≤ i then some (i + n).toNat else none
def atI {α : Type} (xs : List α) (i : Int) : Option α := (ixN xs.length i).bind fun j => xs[j]?
theorem ixN_seq {n : Nat} {i : Int} {j : Nat} (h : ixN n i = some j) : seqIndex? i n = some j ∧ j < n ∧ -(n : Int) ≤ i ∧ i < n := by
  unfold ixN at h
  by_cases h0 : 0 ≤ i
  · rw [if_pos h0] at h
    by_cases h1 : i < n
    · rw [if_pos h1] at h
      have e : i.toNat = j := Option.some.inj h
      exact ⟨by rw [seqIndex_of h0 h1, e], by lia, by lia, h1⟩
    · rw [if_neg h1] at h; cases h
  · rw [if_neg h0] at h
    by_cases h1 : -(n : Int) ≤ i
    · rw [if_pos h1] at h
      have e : (i + n).toNat = j := Option.some.inj h
      exact ⟨by rw [seqIndex_neg (by lia) h1, e], by lia, h1, by lia⟩
    · rw [if_neg h1] at h; cases h
theorem atI_get {α : Type} {xs : List α} {i : Int} {v : α} (h : atI xs i = some v) : ∃ j, seqIndex? i xs.length = some j ∧ xs[j]? = some v ∧ j < xs.length ∧ -(xs.length : Int) ≤ i ∧ i < xs.length := by
  unfold atI at h
  cases e : ixN xs.length i with
  | none => rw [e] at h; cases h
  | some j =>
    rw [e] at h
    obtain ⟨h1, h2, h3, h4⟩ := ixN_seq e
    exact ⟨j, h1, h, h2, h3, h4⟩
theorem atI_nat {α : Type} {xs : List α} {j : Nat} {v : α} (h : xs[j]? = some v) : atI xs (j : Int) = some v := by
  have hj : j < xs.length := (List.getElem?_eq_some_iff.mp h).1
  have e : ixN xs.length (j : Int) = some j := by
    unfold ixN
    rw [if_pos (by lia), if_pos (by lia)]; simp
  unfold atI; rw [e]; exact h

/-! ### what may be subscripted -/
/-- what stands as an index of a plain subscript -/
def PlainIx (b : Expr) : Prop := ∀ o i, subscripted b false o i = operate [o, i] (getItem o i)
/-- a subscript by values -/
def IxR (X : Cx) (r : R2) : Prop :=
  ∀ (value slice : Expr) (pins : List (Addr × Obj)) (s : Shared) (σ : St) (H : Hp) (x y : V) (v u : Value) (Q : VK), Inv X pins σ H s → RelV x v → RelV y u → r x y H Q →
    subscripted slice false v u = operate [v, u] (getItem v u) → wpAny (model X.prog X.w) X.A (subscriptTail value slice v u) (EP X pins σ Q) X.xe s
/-- a call of a builtin's method by values: the receiver, the arguments -/
def MtR (X : Cx) (id : String) (r : V → List V → Hp → VK → Prop) : Prop :=
  ∀ (pins : List (Addr × Obj)) (s : Shared) (σ : St) (H : Hp) (x : V) (xs : List V) (v : Value) (us : List Value) (Q : VK), Inv X pins σ H s → RelV x v → Vals xs us → r x xs H Q →
    wpAny (model X.prog X.w) X.A (call (.builtin id) (v :: us)) (EP X pins σ Q) X.xe s
section
variable {X : Cx} {a b : Expr} {ta tb : TE} {pos : Pos}
/-- a[b] -/
theorem pe_ix {r : R2} (hr : IxR X r) (ha : PE X a ta) (hb : PE X b tb) (hs : PlainIx b) : PE X (.Subscript a b pos) (tOp r ta tb) := by
  intro pins s σ H Q I h
  exact Subscript_ (binT ha hb I h fun v u s2 x y H2 I2 rx ry q => hr a b pins s2 σ H2 x y v u Q I2 rx ry q (hs _ _))

def rIxL (K : PySem.W.Frag) : R2 := fun x y H Q => ∃ p xs i v, x = .ref p ∧ y = .int i ∧ SqL K H p xs ∧ atI xs i = some v ∧ Q v H
def rIxT (K : PySem.W.Frag) : R2 := fun x y H Q => ∃ p xs i v, x = .ref p ∧ y = .int i ∧ SqT K H p xs ∧ atI xs i = some v ∧ Q v H
def rIxS : R2 := fun x y H Q => ∃ z i c, x = .str z ∧ y = .int i ∧ z.length ≤ sizeLine ∧ atI z.cps.toList i = some c ∧ Q (.str ⟨#[c]⟩) H
theorem ix_list : IxR X (rIxL X.K) := by
  intro value slice pins s σ H x y v u Q I rx ry h hs
  obtain ⟨p, xs, i, z, rfl, rfl, hq, he, q⟩ := h
  cases rx
  obtain ⟨t, rfl⟩ := ry
  obtain ⟨its, r, pl, hz⟩ := I.list hq
  obtain ⟨j, h1, h2, h3, h4, h5⟩ := atI_get he
  obtain ⟨w, ew, rw'⟩ := r.get h2
  have hl := r.length
  have hn := line63
  have fin : EP X pins σ Q w s := ⟨z, H, I, rw', q⟩
  by_cases h0 : 0 ≤ i
  · have hj : i.toNat = j := by
      rw [seqIndex_of h0 h5] at h1
      exact Option.some.inj h1
    exact item_listR pl.isList h0 (by lia) (by rw [hj]; simpa using ew) fin hs
  · have hj : (i + (its.toArray.size : Int)).toNat = j := by
      rw [seqIndex_neg (by lia) h4] at h1
      rw [List.size_toArray, ← hl]
      exact Option.some.inj h1
    exact subscriptTail_builtinR (x := w) pl.isList.typeIs slot_list_getitem.lookup
      (wpAny_getItem_list_neg (Q := fun r s' => r = w ∧ EP X pins σ Q r s') pl.isList (by lia) (by rw [List.size_toArray] <;> lia) (by lia) (by rw [hj]; simpa using ew) ⟨rfl, fin⟩) hs
theorem ix_tup : IxR X (rIxT X.K) := by
  intro value slice pins s σ H x y v u Q I rx ry h hs
  obtain ⟨p, xs, i, z, rfl, rfl, hq, he, q⟩ := h
  cases rx
  obtain ⟨t, rfl⟩ := ry
  obtain ⟨its, r, pl, hz⟩ := I.tuple hq
  obtain ⟨j, h1, h2, h3, h4, h5⟩ := atI_get he
  obtain ⟨w, ew, rw'⟩ := r.get h2
  have hl := r.length
  have hn := line63
  have fin : EP X pins σ Q w s := ⟨z, H, I, rw', q⟩
  exact subscriptTail_builtinR (x := w) pl.typeIs slot_tuple_getitem.lookup
    (getItem_tuple (j := j) (Q := fun r s' => r = w ∧ EP X pins σ Q r s') pl (by lia) (by lia) (by rw [List.size_toArray, ← hl]; exact h1) (by simpa using ew) ⟨rfl, fin⟩) hs
theorem ix_str : IxR X rIxS := by
  intro value slice pins s σ H x y v u Q I rx ry h hs
  obtain ⟨z, i, c, rfl, rfl, hz, he, q⟩ := h
  obtain ⟨t, rfl⟩ := rx
  obtain ⟨t', rfl⟩ := ry
  obtain ⟨j, h1, h2, h3, h4, h5⟩ := atI_get he
  have hl : z.cps.toList.length = z.length := by simp [Str.length]
  rw [hl] at h1 h4 h5
  have hn := line63
  exact tail_any (typeIs_str s z t) slot_str_getitem.lookup (getItem_str (c := c) (by
    have e1 : decide (i < -(2 ^ 63 : Int)) = false := decide_eq_false (by lia)
    have e2 : decide (i ≥ 2 ^ 63) = false := decide_eq_false (by lia)
    rw [e1, e2, Bool.or_false]) (by rw [h1]; simpa using h2) ⟨.str ⟨#[c]⟩, H, I.tok _, ⟨_, rfl⟩, q⟩) hs

/-! ### xs[i] = v, any sign -/
/-- the list's object behind a store -/
theorem mapSeq_set (its : List Value) (n j : Nat) (u : Value) : Obj.mapSeq (·.setIfInBounds j u) { cls := .type "list", data := .seq its.toArray n } = { cls := .type "list", data := .seq (its.set j u).toArray n } := by
  simp [Obj.mapSeq]
theorem Inv.lst {pins : List (Addr × Obj)} {σ : St} {H : Hp} {s : Shared} {p : Addr} {xs : List V} (I : Inv X pins σ H s) (h : H p = some (.lst xs)) :
    ∃ (its : List Value) (n : Nat), Vals xs its ∧ s.heap.get? p = some { cls := .type "list", data := .seq its.toArray n } ∧ xs.length ≤ sizeLine := by
  obtain ⟨z, its, n, r, e⟩ := I.hok p _ h
  exact ⟨its, n, r, e, z⟩
/-- the list at p is written by an update of its object -/
theorem Inv.lstUpd {pins : List (Addr × Obj)} {σ : St} {H : Hp} {s : Shared} {p : Addr} {xs ys : List V} {its its' : List Value} {n n' : Nat} {f : Obj → Obj} (I : Inv X pins σ H s) (h : H p = some (.lst xs))
    (ho : s.heap.get? p = some { cls := .type "list", data := .seq its.toArray n }) (hf : f { cls := .type "list", data := .seq its.toArray n } = { cls := .type "list", data := .seq its'.toArray n' }) (r : Vals ys its') (hz : ys.length ≤ sizeLine) (t : Nat) :
    Inv X pins σ (upd H p (.lst ys)) { s with heap := s.heap.update p f, toks := t } := by
  have e : (s.heap.update p f).get? p = some { cls := .type "list", data := .seq its'.toArray n' } := by
    rw [Heap.get?_update_self f ho (by rw [hf] <;> rfl), hf]
  refine I.write (x := p) (e := p) (by rw [h]; trivial) (.inl rfl) (fun b u hb q => (Heap.get?_update_other _ _ (Ne.symm hb)).trans q) ⟨_, e⟩ ?_
  exact ⟨hz, its', n', r, e⟩
def rSetL : V → V → V → Hp → (Hp → Prop) → Prop := fun o i v H Q => ∃ p xs k j, o = .ref p ∧ i = .int k ∧ H p = some (.lst xs) ∧ ixN xs.length k = some j ∧ Q (upd H p (.lst (xs.set j v)))
theorem set_list : PSet X rSetL := by
  intro pins s σ H o i v ov iv u Q I ro ri rv h
  obtain ⟨p, xs, k, j, rfl, rfl, hp, hj, q⟩ := h
  cases ro
  obtain ⟨t, rfl⟩ := ri
  obtain ⟨its, n, r, ho, hz⟩ := I.lst hp
  obtain ⟨h1, h2, h3, h4⟩ := ixN_seq hj
  have hl := r.length
  have hn := line63
  have I' : Inv X pins σ (upd H p (.lst (xs.set j v))) { s with heap := s.heap.update p (Obj.mapSeq (·.setIfInBounds j u)) } :=
    I.lstUpd hp ho (mapSeq_set its n j u) (r.set rv j) (by rw [List.length_set]; exact hz) s.toks
  by_cases h0 : 0 ≤ k
  · have hk : k.toNat = j := by
      rw [seqIndex_of h0 h4] at h1
      exact Option.some.inj h1
    exact PySem.W.ki_setAt ho h0 (by lia) (by rw [List.size_toArray, ← hl]; exact h4) (by rw [hk]; exact ⟨_, I', q⟩)
  · have hk : (k + (its.toArray.size : Int)).toNat = j := by
      rw [seqIndex_neg (by lia) h3] at h1
      rw [List.size_toArray, ← hl]
      exact Option.some.inj h1
    exact PySem.W.ki_setBack ho (by lia) (by rw [List.size_toArray, ← hl]; exact h3) (by lia) (by rw [hk]; exact ⟨_, I', q⟩)

/-! ### slices -/
theorem slice_bounds (lo hi : Option Int) (n : Nat) : (sliceBounds lo hi none n).1 = ((HT.sIx n 0 lo : Nat) : Int) ∧ (sliceBounds lo hi none n).2.1 = ((HT.sIx n n hi : Nat) : Int) ∧ (sliceBounds lo hi none n).2.2 = 1 := by
  refine ⟨?_, ?_, rfl⟩
  · cases lo with
    | none => simp [sliceBounds, HT.sIx]
    | some i =>
      simp only [sliceBounds, HT.sIx, Option.getD_none, show (1 : Int) > 0 by decide, if_true]
      by_cases h : i < 0
      · simp only [h, if_true] <;> lia
      · simp only [h, if_false] <;> lia
  · cases hi with
    | none => simp [sliceBounds, HT.sIx]
    | some i =>
      simp only [sliceBounds, HT.sIx, Option.getD_none, show (1 : Int) > 0 by decide, if_true]
      by_cases h : i < 0
      · simp only [h, if_true] <;> lia
      · simp only [h, if_false] <;> lia
theorem slicePick_cut (its : List Value) (lo hi : Option Int) : slicePick its.toArray lo hi none = ((its.drop (HT.sIx its.length 0 lo)).take (HT.sIx its.length its.length hi - HT.sIx its.length 0 lo)).toArray := by
  obtain ⟨h1, h2, h3⟩ := slice_bounds lo hi its.toArray.size
  unfold slicePick
  rw [h1, h2, h3]
  simp only [sliceRange_one, pick_run, List.size_toArray] <;> rfl
/-- xs[lo:hi] of a list: a new list -/
def rSlL (K : PySem.W.Frag) : V → Option Int → Option Int → Hp → VK → Prop := fun x lo hi H Q => ∃ a xs, x = .ref a ∧ SqL K H a xs ∧ ∀ p, H p = none → Q (.ref p) (upd H p (.lst (cutV xs lo hi)))
theorem sl_list : SlR X (rSlL X.K) := by
  intro pins s σ H x v vl vu lo hi sl Q I rx hs pl pu h
  obtain ⟨a, xs, rfl, hx, q⟩ := h
  cases rx
  obtain ⟨its, r, ht, hz⟩ := I.list hx
  have hlen := r.length
  refine ⟨"list", _, slot_list_getitem.lookup, ht.isList.typeIs, ?_⟩
  refine wpAny_getItem_list_slice ht.isList hs pl pu .none (by simp) ?_ (by rw [List.size_toArray] <;> lia)
  rw [slicePick_cut, ← hlen]
  refine ⟨.ref s.heap.objs.size, _, I.laid (t' := s.toks) (o := .lst (cutV xs lo hi)) (fun b ob q => Heap.get?_push_of_some _ q) (Nat.le_refl _) ?_, rfl, q _ (I.hok.fresh (Nat.le_refl _))⟩
  exact ⟨Nat.le_trans (cutV_length xs lo hi) hz, _, 0, (r.drop (HT.sIx xs.length 0 lo)).take (HT.sIx xs.length xs.length hi - HT.sIx xs.length 0 lo), Heap.get?_push_size _ rfl⟩

/-! ### in, not in: flat items -/
def flatV : V → Bool
  | .non => true
  | .bl _ => true
  | .int _ => true
  | .str _ => true
  | _ => false
/-- == of flat values -/
def eqV : V → V → Bool
  | .non, .non => true
  | .bl a, .bl b => a == b
  | .bl a, .int b => (if a then 1 else 0) == b
  | .int a, .bl b => a == (if b then 1 else 0)
  | .int a, .int b => a == b
  | .str a, .str b => a == b
  | _, _ => false
theorem eqAt_V {A : Around} {s : Shared} {y x : V} {u v : Value} (ry : RelV y u) (rx : RelV x v) (fy : flatV y = true) (fx : flatV x = true) : SeqAt.EqAt A s u v (eqV y x) := by
  cases y with
  | non =>
    cases ry
    cases x with
    | non => cases rx; exact SeqAt.EqAt.same _
    | bl b => cases rx; exact SeqAt.EqAt.none_bool b
    | int b => obtain ⟨t, rfl⟩ := rx; exact SeqAt.EqAt.none_int b t
    | str b => obtain ⟨t, rfl⟩ := rx; exact SeqAt.EqAt.none_str b t
    | _ => exact absurd (show false = true from fx) Bool.false_ne_true
  | bl a =>
    cases ry
    cases x with
    | non => cases rx; exact SeqAt.EqAt.bool_none a
    | bl b => cases rx; exact SeqAt.EqAt.bool_bool a b
    | int b => obtain ⟨t, rfl⟩ := rx; exact SeqAt.EqAt.bool_int a b t
    | str b => obtain ⟨t, rfl⟩ := rx; exact SeqAt.EqAt.bool_str a b t
    | _ => exact absurd (show false = true from fx) Bool.false_ne_true
  | int a =>
    obtain ⟨t', rfl⟩ := ry
    cases x with
    | non => cases rx; exact SeqAt.EqAt.int_none a t'
    | bl b => cases rx; exact SeqAt.EqAt.int_bool a t' b
    | int b => obtain ⟨t, rfl⟩ := rx; exact SeqAt.EqAt.int_int a t' b t
    | str b => obtain ⟨t, rfl⟩ := rx; exact SeqAt.EqAt.int_str a t' b t
    | _ => exact absurd (show false = true from fx) Bool.false_ne_true
  | str a =>
    obtain ⟨t', rfl⟩ := ry
    cases x with
    | non => cases rx; exact SeqAt.EqAt.str_none a t'
    | bl b => cases rx; exact SeqAt.EqAt.str_bool a t' b
    | int b => obtain ⟨t, rfl⟩ := rx; exact SeqAt.EqAt.str_int a t' b t
    | str b => obtain ⟨t, rfl⟩ := rx; exact SeqAt.EqAt.str_str a t' b t
    | _ => exact absurd (show false = true from fx) Bool.false_ne_true
  | _ => exact absurd (show false = true from fy) Bool.false_ne_true
/-- the items' answers, read off the values (a value's own answer does not lean on its token) -/
def eqU (x : V) (u : Value) : Bool := match u with
  | .none => eqV .non x
  | .bool b => eqV (.bl b) x
  | .int i _ => eqV (.int i) x
  | .str z _ => eqV (.str z) x
  | _ => false
theorem eqU_of {x y : V} {u : Value} (r : RelV y u) (f : flatV y = true) : eqU x u = eqV y x := by
  cases y with
  | non => cases r; rfl
  | bl b => cases r; rfl
  | int i => obtain ⟨t, rfl⟩ := r; rfl
  | str z => obtain ⟨t, rfl⟩ := r; rfl
  | _ => exact absurd (show false = true from f) Bool.false_ne_true
theorem any_eqU {x : V} : ∀ {xs : List V} {us : List Value}, Vals xs us → xs.all flatV = true → us.any (eqU x) = xs.any fun y => eqV y x
  | _, _, .nil, _ => rfl
  | y :: xs, u :: us, .cons r t, f => by
    rw [List.all_cons, Bool.and_eq_true] at f
    rw [List.any_cons, List.any_cons, eqU_of r f.1, any_eqU t f.2]
theorem mem_eqAt {A : Around} {s : Shared} {x : V} {v : Value} (rx : RelV x v) (fx : flatV x = true) : ∀ {xs : List V} {us : List Value}, Vals xs us → xs.all flatV = true → ∀ u ∈ us, SeqAt.EqAt A s u v (eqU x u)
  | _, _, .nil, _ => fun u hu => by cases hu
  | y :: xs, u :: us, .cons r t, f => fun u' hu => by
    rw [List.all_cons, Bool.and_eq_true] at f
    rcases List.mem_cons.mp hu with rfl | hu
    · rw [eqU_of r f.1]; exact eqAt_V r rx f.1 fx
    · exact mem_eqAt rx fx t f.2 u' hu
def inV (x : V) (xs : List V) : Bool := xs.any fun y => eqV y x
/-- x in a list or tuple of flat items -/
def rIn (K : PySem.W.Frag) (neg : Bool) : R2 := fun x y H Q => ∃ p xs, y = .ref p ∧ (SqL K H p xs ∨ SqT K H p xs) ∧ flatV x = true ∧ xs.all flatV = true ∧ Q (.bl (if neg then !inV x xs else inV x xs)) H
theorem op_in_seq : OpR X (compareOp .In) (rIn X.K false) := by
  intro pins s σ H x y v u Q I rx ry h
  obtain ⟨p, xs, rfl, hq, fx, fs, q⟩ := h
  cases ry
  rcases hq with hq | hq
  · obtain ⟨its, r, pl, hz⟩ := I.list hq
    refine SeqAt.in_listAt (eqU x) pl.isList (fun w hw => mem_eqAt rx fx r fs w (by simpa using hw)) ⟨.bl _, H, I, rfl, ?_⟩
    rw [show its.toArray.any (eqU x) = its.any (eqU x) by simp, any_eqU r fs]
    exact q
  · obtain ⟨its, r, pl, hz⟩ := I.tuple hq
    refine SeqAt.in_tupleAt (eqU x) pl (fun w hw => mem_eqAt rx fx r fs w (by simpa using hw)) ⟨.bl _, H, I, rfl, ?_⟩
    rw [show its.toArray.any (eqU x) = its.any (eqU x) by simp, any_eqU r fs]
    exact q

/-! ### len, list(x), tuple(x) of any list or tuple that is read -/
theorem call_len_seq : CallR X (.builtin "len") (fun xs H Q => ∃ p ys, xs = [.ref p] ∧ (SqL X.K H p ys ∨ SqT X.K H p ys) ∧ Q (.int ys.length) H) := by
  intro pins s σ H xs us Q I r h
  obtain ⟨p, ys, rfl, hq, q⟩ := h
  obtain ⟨u, rfl, rx⟩ := vals1 r
  cases rx
  have hn := line63
  rcases hq with hq | hq
  · obtain ⟨its, r', pl, hz⟩ := I.list hq
    have hlen := r'.length
    exact Calls.call_len_list pl.isList (by simp only [List.size_toArray] <;> lia) ⟨.int ys.length, H, I.tok _, ⟨s.toks + 1, by rw [List.size_toArray, hlen]⟩, q⟩
  · obtain ⟨its, r', pl, hz⟩ := I.tuple hq
    have hlen := r'.length
    exact len_tuple pl (by simp only [List.size_toArray] <;> lia) ⟨.int ys.length, H, I.tok _, ⟨s.toks + 1, by rw [List.size_toArray, hlen]⟩, q⟩
theorem call_list_of : CallR X (.type "list") (fun xs H Q => ∃ p ys, xs = [.ref p] ∧ (SqL X.K H p ys ∨ SqT X.K H p ys) ∧ ∀ l, H l = none → Q (.ref l) (upd H l (.lst ys))) := by
  intro pins s σ H xs us Q I r h
  obtain ⟨p, ys, rfl, hq, q⟩ := h
  obtain ⟨u, rfl, rx⟩ := vals1 r
  cases rx
  have fin : ∀ (its : List Value), Vals ys its → ys.length ≤ sizeLine → ∀ (h' : Heap) (c' : Nat), (∀ b o', s.heap.get? b = some o' → h'.get? b = some o') →
      h'.get? s.heap.objs.size = some { cls := .type "list", dict := none, data := .seq its.toArray c', slots := #[] } → EP X pins σ Q (.ref s.heap.objs.size) { s with heap := h' } := fun its r' hz h' c' kp e =>
    ⟨.ref s.heap.objs.size, _, I.laid (t' := s.toks) kp (Nat.le_refl _) (show ObjOk X.prog X.w _ h' _ (.lst ys) from ⟨hz, its, c', r', e⟩), rfl, q _ (I.hok.fresh (Nat.le_refl _))⟩
  rcases hq with hq | hq
  · obtain ⟨its, r', pl, hz⟩ := I.list hq
    have hlen := r'.length
    obtain ⟨o, ho, hc, n, hd⟩ := pl.isList
    exact call_list_seq p (.inl rfl) ho hc hd (fun h' c' kp e => fin its r' hz h' c' kp e) (by simp only [List.size_toArray] <;> lia)
  · obtain ⟨its, r', pl, hz⟩ := I.tuple hq
    have hlen := r'.length
    obtain ⟨o, ho, hc, n, hd⟩ := pl
    exact call_list_seq p (.inr rfl) ho hc hd (fun h' c' kp e => fin its r' hz h' c' kp e) (by simp only [List.size_toArray] <;> lia)
theorem call_tuple_of : CallR X (.type "tuple") (fun xs H Q => ∃ p ys, xs = [.ref p] ∧ ((SqL X.K H p ys ∧ ∀ l, H l = none → Q (.ref l) (upd H l (.tup ys))) ∨ (SqT X.K H p ys ∧ Q (.ref p) H))) := by
  intro pins s σ H xs us Q I r h
  obtain ⟨p, ys, rfl, h⟩ := h
  obtain ⟨u, rfl, rx⟩ := vals1 r
  cases rx
  rcases h with ⟨hq, q⟩ | ⟨hq, q⟩
  · obtain ⟨its, r', pl, hz⟩ := I.list hq
    have hlen := r'.length
    refine call_tuple_list pl.isList (fun h' kp => ?_) (by simp only [List.size_toArray] <;> lia)
    have I1 : Inv X pins σ H { s with heap := h' } := I.kept (t' := s.toks) kp
    have I2 : Inv X pins σ (upd H h'.objs.size (.tup ys)) { s with heap := h'.push { cls := .type "tuple", data := .seq its.toArray } } :=
      I1.laid (t' := s.toks) (fun b o e => Heap.get?_push_of_some _ e) (Nat.le_refl _) (show ObjOk X.prog X.w _ _ _ (.tup ys) from ⟨hz, its, r', TupN.new _ _⟩)
    exact ⟨.ref h'.objs.size, _, I2, rfl, q _ (I1.hok.fresh (Nat.le_refl _))⟩
  · obtain ⟨its, r', pl, hz⟩ := I.tuple hq
    exact call_tuple_same pl ⟨.ref p, H, I, rfl, q⟩

/-! ### the call of a builtin's method: o.m(..) -/
/-- the value is of that builtin type -/
def tyV (K : PySem.W.Frag) (T : String) (x : V) (H : Hp) : Prop := match x with
  | .str _ => T = "str"
  | .int _ => T = "int"
  | .ref p => (T = "list" ∧ ∃ xs, SqL K H p xs) ∨ (T = "tuple" ∧ ∃ o, K.lookup p = some o ∧ o.cls = .type "tuple" ∧ o.dict = none) ∨
      (T = "dict" ∧ ((∃ kvs, H p = some (.dK kvs)) ∨ ∃ kvs, H p = some (.dT kvs))) ∨ (T = "set" ∧ ∃ S n, H p = some (.set S n))
  | _ => False
theorem tyV_is {pins : List (Addr × Obj)} {σ : St} {H : Hp} {s : Shared} {T : String} {x : V} {v : Value} (I : Inv X pins σ H s) (r : RelV x v) (ty : tyV X.K T x H) :
    s.TypeIs v T ∧ ∀ a, v = .ref a → ∃ ob, s.heap.get? a = some ob ∧ ob.dict = none := by
  cases x with
  | str z =>
    obtain ⟨t, rfl⟩ := r
    cases (show T = "str" from ty)
    exact ⟨typeIs_str s z t, fun _ e => nomatch e⟩
  | int i =>
    obtain ⟨t, rfl⟩ := r
    cases (show T = "int" from ty)
    exact ⟨typeIs_int s i t, fun _ e => nomatch e⟩
  | ref p =>
    cases r
    rcases ty with ⟨rfl, xs, hq⟩ | ⟨rfl, o, hk, hc, hd⟩ | ⟨rfl, hk⟩ | ⟨rfl, S, n, hk⟩
    · obtain ⟨its, _, pl, _⟩ := I.list hq
      refine ⟨pl.isList.typeIs, fun a e => ?_⟩
      cases e
      obtain ⟨o, n, e, c, hd, _⟩ := pl
      exact ⟨o, e, hd⟩
    · refine ⟨⟨o, I.kIn p o hk, hc⟩, fun a e => ?_⟩
      cases e
      exact ⟨o, I.kIn _ o hk, hd⟩
    · have z : ∃ o, s.heap.get? p = some o ∧ o.ExactDict := by
        rcases hk with ⟨kvs, hk⟩ | ⟨kvs, hk⟩
        · obtain ⟨_, _, _, _, o, _, _, e, ex, _⟩ := I.hok p _ hk
          exact ⟨o, e, ex⟩
        · obtain ⟨_, _, _, _, o, _, _, e, ex, _⟩ := I.hok p _ hk
          exact ⟨o, e, ex⟩
      obtain ⟨o, e, ex⟩ := z
      refine ⟨⟨o, e, ex.1⟩, fun a e2 => ?_⟩
      cases e2
      exact ⟨o, e, ex.2.1⟩
    · obtain ⟨o, _, _, _, e, ex, _⟩ := I.hok p _ hk
      refine ⟨⟨o, e, ex.1⟩, fun a e2 => ?_⟩
      cases e2
      exact ⟨o, e, ex.2.1⟩
  | _ => exact False.elim ty
def tBM0 (K : PySem.W.Frag) (T : String) (r : V → List V → Hp → VK → Prop) (to : TE) : TE := fun σ H Q => to σ H fun x H1 => tyV K T x H1 ∧ r x [] H1 Q
def tBM (K : PySem.W.Frag) (T : String) (r : V → List V → Hp → VK → Prop) (to : TE) (t : TA) : TE := fun σ H Q => to σ H fun x H1 => tyV K T x H1 ∧ t σ H1 fun xs H2 => r x xs H2 Q
variable {o e : Expr} {es : List Expr} {to : TE} {t : TA} {name : Str} {apos cpos : Pos} {T id : String} {r : V → List V → Hp → VK → Prop}
theorem pe_bm0 (pa : PlainAttrs T) (slot : Slot T name id) (hty : typeOf (.builtin id) = pure (.type "method_descriptor")) (hm : MtR X id r) (ho : PE X o to)
    (hbase : attributeBase o name X.env (eval o X.env) = eval o X.env := by rfl) (hline : (apos.endLine == cpos.line) = true := by rfl) : PE X (.Call (.Attribute o name apos) [] [] cpos) (tBM0 X.K T r to) := by
  intro pins s σ H Q I h
  refine wpAny_Call_method0_late hbase hline (thn (ho pins s σ H _ I h) ?_)
  rintro v s1 ⟨x, H1, I1, r1, ty, q1⟩
  obtain ⟨h1, h2⟩ := tyV_is I1 r1 ty
  exact ⟨T, id, pa, slot, hty, h1, h2, Calls.callWith_builtin rfl (PySem.evalArgs_none (hm pins s1 σ H1 x [] v [] Q I1 r1 .nil q1))⟩
theorem pe_bm (pa : PlainAttrs T) (slot : Slot T name id) (hty : typeOf (.builtin id) = pure (.type "method_descriptor")) (hm : MtR X id r) (ho : PE X o to) (ha : PA X (e :: es) t)
    (hbase : attributeBase o name X.env (eval o X.env) = eval o X.env := by rfl)
    (hfew : ((backTo cpos (starEach (e :: es) X.env)).all (fun x => !x.1) && (backToKw cpos (keywordEach [] X.env)).all (fun x => x.1.isSome)
      && decide ((e :: es).length + ([] : List Keyword).length + (if ([] : List Keyword).isEmpty then 0 else 1) < 30)) = true := by rfl)
    (hline : (apos.endLine == cpos.line) = true := by rfl) (hs : starEach (e :: es) X.env = (false, eval e X.env) :: starEach es X.env := by rfl) (hplain : (backTo cpos (starEach es X.env)).any (·.1) = false := by rfl) :
    PE X (.Call (.Attribute o name apos) (e :: es) [] cpos) (tBM X.K T r to t) := by
  intro pins s σ H Q I h
  refine wpAny_Call_method_late hbase hfew hline rfl (thn (ho pins s σ H _ I h) ?_)
  rintro v s1 ⟨x, H1, I1, r1, ty, q1⟩
  obtain ⟨h1, h2⟩ := tyV_is I1 r1 ty
  refine ⟨T, id, pa, slot, hty, h1, h2, ?_⟩
  have hA := ha cpos pins s1 σ H1 _ I1 q1
  rw [hs] at hA ⊢
  refine Calls.callWith_builtin (by show (false || (backTo cpos (starEach es X.env)).any (·.1)) = false; rw [hplain] <;> rfl) (Calls.evalArgs_plain ?_)
  refine thn hA ?_
  rintro us s2 ⟨vs, H2, I2, r2, q2⟩
  exact hm pins s2 σ H2 x vs v us Q I2 r1 r2 q2
/- xs.append(e), list.index on a module's tuple .. are MtR facts of 06m -/
end
end L2

namespace L2
open PySem PySem.Spec PyProof.Rows

def MtM (X : Cx) (id : String) (r : V → List V → Hp → VK → Prop) : Prop :=
  ∀ (pins : List (Addr × Obj)) (s : Shared) (σ : St) (H : Hp) (x : V) (xs : List V) (v : Value) (us : List Value) (Q : VK), Inv X pins σ H s → RelV x v → Vals xs us → r x xs H Q →
    wpAny (model X.prog X.w) X.A (call (.builtin id) (v :: us)) (EP X pins σ Q) X.xe s

/-! ### lists of values -/
theorem Vals.one : ∀ {x : V} {us : List Value}, Vals [x] us → ∃ u, us = [u] ∧ RelV x u
  | _, _, .cons r .nil => ⟨_, rfl, r⟩
theorem Vals.zero : ∀ {us : List Value}, Vals [] us → us = []
  | _, .nil => rfl
theorem Vals.dropLast {xs : List V} {us : List Value} (h : Vals xs us) : Vals xs.dropLast us.dropLast := by
  induction h with
  | nil => exact .nil
  | cons r t ih =>
    cases t with
    | nil => exact .nil
    | cons q t' => exact .cons r ih
theorem erase_last {α : Type} (l : List α) : l.eraseIdx (l.length - 1) = l.dropLast := by
  induction l with
  | nil => rfl
  | cons a r ih =>
    cases r with
    | nil => rfl
    | cons b r =>
      have e : (a :: b :: r).length - 1 = ((b :: r).length - 1) + 1 := by
        have h1 : (a :: b :: r).length = r.length + 2 := rfl
        have h2 : (b :: r).length = r.length + 1 := rfl
        lia
      rw [e, List.eraseIdx_cons_succ, ih]
      all_goals rfl

section
variable {X : Cx} {pins : List (Addr × Obj)} {σ : St} {H : Hp} {s : Shared} {l b : Addr} {xs ys zs : List V}

/-! ### the two steps: a tracked list is rewritten, a new list is laid -/
theorem Inv.lset {its its' : List Value} {n : Nat} {f : Array Value → Array Value} {t' : Nat} (I : Inv X pins σ H s) (hH : H l = some (.lst xs))
    (e : s.heap.get? l = some { cls := .type "list", data := .seq its.toArray n }) (hf : f its.toArray = its'.toArray) (hv : Vals ys its') (hz : ys.length ≤ sizeLine) :
    Inv X pins σ (upd H l (.lst ys)) { s with heap := s.heap.update l (Obj.mapSeq f), toks := t' } := by
  have q := PySem.IsL.update e f
  rw [hf] at q
  refine I.write (x := l) (e := l) (by rw [hH]; exact trivial) (.inl rfl) (fun b' u hb hu => (Heap.get?_update_other s.heap (Obj.mapSeq f) (Ne.symm hb)).trans hu) ⟨_, q⟩ ?_
  exact ⟨hz, its', _, hv, q⟩
theorem Inv.lnew {its : List Value} {t' : Nat} (I : Inv X pins σ H s) (hv : Vals ys its) (hz : ys.length ≤ sizeLine) :
    Inv X pins σ (upd H s.heap.objs.size (.lst ys)) { s with heap := s.heap.push { cls := .type "list", data := .seq its.toArray }, toks := t' } :=
  I.laid (fun _ _ q => Heap.get?_push_of_some _ q) (Nat.le_refl _) ⟨hz, its, 0, hv, Heap.get?_push_size _ rfl⟩
theorem Inv.fresh (I : Inv X pins σ H s) : H s.heap.objs.size = none := I.hok.fresh (Nat.le_refl _)
theorem Inv.lstM (I : Inv X pins σ H s) (hH : H l = some (.lst xs)) : xs.length ≤ sizeLine ∧ ∃ (its : List Value) (n : Nat), Vals xs its ∧ xs.length = its.length ∧ s.heap.get? l = some { cls := .type "list", data := .seq its.toArray n } := by
  obtain ⟨z, its, n, r, e⟩ := I.hok l _ hH
  exact ⟨z, its, n, r, r.length, e⟩

theorem notLongL {n : Nat} (h : n ≤ sizeLine) : Builtin.List.listTooLong n = false := by
  unfold Builtin.List.listTooLong
  exact decide_eq_false (by lia)
end

section
variable {X : Cx}

/-! ### methods -/
def rAppend : V → List V → Hp → VK → Prop := fun x vs H Q => ∃ l xs y, x = .ref l ∧ vs = [y] ∧ H l = some (.lst xs) ∧ xs.length < sizeLine ∧ Q .non (upd H l (.lst (xs ++ [y])))
theorem mt_append : MtM X "list.append" rAppend := by
  intro pins s σ H x vs v us Q I rx rv h
  obtain ⟨l, xs, y, rfl, rfl, hH, hz, q⟩ := h
  cases rx
  obtain ⟨u, rfl, ru⟩ := rv.one
  obtain ⟨z, its, n, r, hl, e⟩ := I.lstM hH
  refine call_meets F.slot_list_append ⟨_, e, rfl⟩ F.entry_list_append (F.args_list_append_2 _ _) (PySem.list_append l its.toArray n u (by rw [List.size_toArray]; lia)) ⟨e, ?_⟩
  refine ⟨.non, _, I.lset (its' := its ++ [u]) hH e (by simp) (r.append (.cons ru .nil)) ?_, rfl, q⟩
  rw [List.length_append, List.length_singleton]
  lia

def rExtend : V → List V → Hp → VK → Prop := fun x vs H Q => ∃ l b xs zs, x = .ref l ∧ vs = [.ref b] ∧ H l = some (.lst xs) ∧ H b = some (.lst zs) ∧ xs.length + zs.length ≤ sizeLine ∧ Q .non (upd H l (.lst (xs ++ zs)))
theorem mt_extend : MtM X "list.extend" rExtend := by
  intro pins s σ H x vs v us Q I rx rv h
  obtain ⟨l, b, xs, zs, rfl, rfl, hH, hB, hz, q⟩ := h
  cases rx
  obtain ⟨u, rfl, ru⟩ := rv.one
  cases ru
  obtain ⟨z, its, n, r, hl, e⟩ := I.lstM hH
  obtain ⟨z2, its2, n2, r2, hl2, e2⟩ := I.lstM hB
  have hsz : its.toArray.size + its2.toArray.size ≤ sizeLine := by rw [List.size_toArray, List.size_toArray]; lia
  have hlong : ¬ (!its.toArray.isEmpty && Builtin.List.listTooLong (its.toArray.size + its2.toArray.size)) = true := by
    rw [notLongL hsz, Bool.and_false]
    exact Bool.false_ne_true
  refine call_meets F.slot_list_extend ⟨_, e, rfl⟩ F.entry_list_extend (F.args_list_extend_2 _ _)
    (AutoSeq1.list_extend_list_list_0 l its.toArray n b its2.toArray n2 hlong (by rw [List.size_toArray]; lia) (by lia)) ⟨e, e2, ?_⟩
  refine ⟨.non, _, I.lset (its' := its ++ its2) hH e (by simp) (r.append r2) ?_, rfl, q⟩
  rw [List.length_append]
  lia

def rPop : V → List V → Hp → VK → Prop := fun x vs H Q => ∃ l xs y, x = .ref l ∧ vs = [] ∧ H l = some (.lst xs) ∧ xs[xs.length - 1]? = some y ∧ Q y (upd H l (.lst xs.dropLast))
theorem mt_pop : MtM X "list.pop" rPop := by
  intro pins s σ H x vs v us Q I rx rv h
  obtain ⟨l, xs, y, rfl, rfl, hH, hy, q⟩ := h
  cases rx
  have hus := rv.zero
  subst hus
  obtain ⟨z, its, n, r, hl, e⟩ := I.lstM hH
  obtain ⟨u, hu, ru⟩ := r.get hy
  have hy' : its.toArray[its.toArray.size - 1]? = some u := by
    show its.toArray[its.length - 1]? = some u
    rw [← Array.getElem?_toList, ← hl]
    exact hu
  refine call_meets F.slot_list_pop ⟨_, e, rfl⟩ F.entry_list_pop (F.args_list_pop_1 _) (MeetsSeq.list_pop_last l its.toArray n u hy' (by rw [List.size_toArray]; lia)) ⟨e, ?_⟩
  refine ⟨y, _, I.lset (its' := its.dropLast) hH e ?_ r.dropLast ?_, ru, q⟩
  · show its.toArray.eraseIdxIfInBounds (its.toArray.size - 1) = its.dropLast.toArray
    rw [List.size_toArray, List.eraseIdxIfInBounds_toArray, erase_last]
  · rw [List.length_dropLast]
    lia




/-! ### list + list, list += list, list * int -/
def rCat : R2 := fun x y H Q => ∃ l b xs zs, x = .ref l ∧ y = .ref b ∧ H l = some (.lst xs) ∧ H b = some (.lst zs) ∧ xs.length + zs.length ≤ sizeLine ∧ ∀ p, H p = none → Q (.ref p) (upd H p (.lst (xs ++ zs)))
theorem op_cat : OpR X (binaryOp .Add) rCat := by
  intro pins s σ H x y v u Q I rx ry h
  obtain ⟨l, b, xs, zs, rfl, rfl, hH, hB, hz, q⟩ := h
  cases rx
  cases ry
  obtain ⟨z, its, n, r, hl, e⟩ := I.lstM hH
  obtain ⟨z2, its2, n2, r2, hl2, e2⟩ := I.lstM hB
  refine PySem.P.add_list e e2 ?_ (by rw [List.size_toArray, List.size_toArray]; lia)
  have ea : its.toArray ++ its2.toArray = (its ++ its2).toArray := by simp
  rw [ea]
  exact ⟨.ref _, _, I.lnew (t' := s.toks) (r.append r2) (by rw [List.length_append]; lia), rfl, q _ I.fresh⟩

/-! ### del xs[i] -/
end

/-! ### xs[a:b] = ys -/
section
variable {prog : Program} {w : World} {A : Around} {E : Value → Shared → Prop} {s : Shared}
end

section
variable {X : Cx}
end
end L2

namespace Att
open PySem PySem.W PySem.Calls PyProof.Rows

/-! ### the script -/
theorem ints_of_wellAll {P : Params} {h : Heap} : ∀ (ns : List Int) (vs : List Value), WellAll P h vs (ns.map WData.int) → IntsAre vs ns := by
  intro ns
  induction ns with
  | nil =>
    intro vs w
    rw [List.map_nil] at w
    cases w
    exact .nil
  | cons n ns ih =>
    intro vs w
    rw [List.map_cons] at w
    cases w with
    | cons a b =>
      cases a
      exact .cons _ _ (ih _ b)

theorem script_of {l : OpenLaw} {n : Nat} (hn : l.most = some n) {P : Params} {h : Heap} {args : List WData} {vals : List Value}
    (hpre : l.row.toRowW.claim.pre args = true) (hwl : WellAll P h vals args) :
    ∃ a vs ns, vals = [Value.ref a] ∧ args = [WData.list (ns.map WData.int)] ∧ h.get? a = some { cls := .type "list", data := .seq vs.toArray } ∧ IntsAre vs ns ∧ ns.length ≤ n := by
  have hsh : WShape.hasAll [] args [.list .int] = true := (pre_splitW hpre).1
  have hc : l.pre.holds [] { args := args } = true := (pre_splitW hpre).2
  obtain ⟨d, r, rfl, h1, h2⟩ := hasAllW_cons hsh
  obtain rfl := hasAllW_nil h2
  obtain ⟨xs, rfl, h3⟩ := hasW_list h1
  obtain ⟨ns, rfl⟩ := items_int h3
  have hlen : ns.length ≤ n := by
    unfold OpenLaw.pre at hc
    have h4 : (WTm.not (.lt (.lit (.int (n : Int))) (.len (.arg 0)))).holds [] { args := [.list (ns.map .int)] } = true := by
      have h4 := (holds_andW hc).1
      rw [hn] at h4
      exact h4
    have h5 := condW_of h4 (w_not (w_lt w_lit (w_len_list (w_arg rfl))))
    rw [List.length_map] at h5
    refine Nat.le_of_not_lt fun q => ?_
    have q' : (n : Int) < ((ns.length : Nat) : Int) := by lia
    first
      | (rw [decide_eq_true q'] at h5; exact absurd h5 (by decide))
      | (simp at h5; lia)
  cases hwl with
  | cons w1 w2 =>
    cases w2
    cases w1 with
    | list ho hall => exact ⟨_, _, ns, rfl, rfl, ho, ints_of_wellAll ns _ hall, hlen⟩

theorem post_true (l : OpenLaw) (args : List WData) : l.row.toRowW.claim.post args (.bool true) args = true :=
  postW_of (r := l.row.toRowW) (X := (true == true))
    (show WShape.has [] (.bool true) .bool = true by first | rfl | decide | simp [WShape.has, WShape.arms, WShape.armsAll])
    (show (WTm.eq .res (.lit (.bool true))).value [] { args := args, res := some (.bool true), after := args } = some (.bool (true == true)) from w_eq_bool (w_res rfl) w_lit) rfl

/-! ### the attachment: holds_open's last premise (the goal 'hc' behind k_head) from a wpAny of the law's body -/

/-- the same from a codeAny of the CALL (for a layer whose function contracts speak of calls) -/
theorem attach_call {l : OpenLaw} {n : Nat} {q : Program} {loose : List Str} {XP : (Str → Option Value) → Heap → Prop} {YP : World → Heap → Prop} {d : DefRec}
    (hn : l.most = some n) (hdf : d.params.defaults = [])
    (call : ∀ (w : World) (s₀ s₁ : Shared) (mg mb : Str → Option Value) (fa : Addr) (o : Obj) (pm cd doc : Value) (a : Addr) (vs : List Value) (ns : List Int),
      Ground q loose [] XP w s₀ mg mb s₁.heap → YP w s₁.heap →
      s₁.heap.get? fa = some o → o.data = .func (docDef d.name d.params d.body d.scope pm cd doc) → s₁.heap.CodeRec cd d.name → mg d.name = some (.ref fa) →
      s₁.heap.get? a = some { cls := .type "list", data := .seq vs.toArray } → IntsAre vs ns → ns.length ≤ n → s₁.gens = #[] →
      codeAny (model l.prog w) callerA (.call (.ref fa) ⟨[.ref a], []⟩) (fun r s' => r = .ok (.ret (.bool true)) ∧ OldK s₁.heap s'.heap ∧ s'.os = s₁.os ∧ AllBare s'.gens) s₁) :
    WalkO q loose XP YP l.row.toRowW d [] (fun f vs => PySem.call f vs) := by
  intro w s₀ s₁ mg mb G Y fa o pm cd doc dV kV ho hd hcd hD hmg hg args vals as hpre hlay hrd hwl hlo
  obtain rfl : dV = .none := Dflts.none hD hdf
  obtain rfl : kV = .none := Dflts.noKw hD
  obtain ⟨a, vs, ns, rfl, rfl, hobj, hints, hlen⟩ := script_of hn hpre hwl
  refine enter_call (codeAny_mono (call w s₀ s₁ mg mb fa o pm cd doc a vs ns G Y ho (fd_plain hd) hcd hmg hobj hints hlen hg) fun r s' hq => ?_)
  obtain ⟨rfl, h2, h3, h4⟩ := hq
  exact ⟨.inl ⟨.bool true, .bool true, [], rfl, fun _ => rfl, .bool true, post_true l _, fun _ => ⟨List.Pairwise.nil, fun _ hm => (nomatch hm)⟩⟩, h2, h3, h4⟩


/-! ### rules over ANY heap (no ledger) from facts about the written part K: the library's own take a ledger (News) for what they write -/
section
variable {prog : Program} {w : World} {A : Around} {E : Value → Shared → Prop} {s : Shared} {K : Frag}





/-! the whole heap as the ledger: makes every rule that writes through a ledger a rule over any heap -/
def ledger (h : Heap) (L d : Addr) : List (Addr × Obj) := (List.range h.objs.size).filterMap fun a => if a = L ∨ a = d then none else (h.get? a).map fun o => (a, o)

end
end Att

namespace L2
open PySem PySem.Spec PyProof.Rows

theorem vals_ints : ∀ {vs : List Value} {ns : List Int}, IntsAre vs ns → Vals (ns.map V.int) vs
  | _, _, .nil => .nil
  | _, _, .cons n t h => .cons ⟨t, rfl⟩ (vals_ints h)

/-- nothing is tracked but the script, known to the object (or it is an object of the module) -/
def Only (H : Hp) : Prop := ∀ b, H b = none ∨ ∃ o xs, H b = some (.frz o (.lst xs))

/-- THE HEAD: the law's promise, at the heap behind the top. F, the promise of the law's def, may use that base is part of the heap (so K.In base, base.Ns mainGlobals mg stand in Mod) -/
theorem law_call {P : Program} {w : World} {K : PySem.W.Frag} {mg mb : Str → Option Value} {CX : CXT} {k : Nat} {fa a : Addr} {fd : FuncData} {x : Str} {sp : Sp} {s₁ : Shared} {vs : List Value} {ns : List Int}
    (KX : K.In s₁.heap) (hns : s₁.heap.Ns mainGlobals mg) (hb : s₁.heap.Ns builtinsNs mb) (hbb : ∀ x : Str, x ≠ "__name__" → mb x = bootBuiltins x) (hlim : s₁.heap.NoLimit) (hg : s₁.gens = #[])
    (ha : s₁.heap.get? a = some { cls := .type "list", data := .seq vs.toArray }) (hi : IntsAre vs ns) (hl : ns.length ≤ sizeLine) (hr : Room k callerA)
    (F : ∀ base : Heap, K.In base → base.Ns mainGlobals mg → FnOk P w K mg base CX k fa fd [x] sp) (hbind : ∀ (s : Shared) (u : Value), BindsTo s fd ⟨[u], []⟩ [(x, u)])
    (hsp : ∀ H : Hp, Only H → SqL K H a (ns.map V.int) → sp [.ref a] H (fun v _ => v = .bl true) fun _ _ _ => False)
    (hCX : ∀ H e s', CX [] H s₁ (fun _ _ _ => False) e s' → False) :
    codeAny (model P w) callerA (.call (.ref fa) ⟨[.ref a], []⟩) (fun r s' => r = .ok (.ret (.bool true)) ∧ OldK s₁.heap s'.heap ∧ s'.os = s₁.os ∧ AllBare s'.gens) s₁ := by
  have rv := vals_ints hi
  have lenV := hi.length
  -- from an abstract heap in which nothing but the script may be tracked
  have core : ∀ H : Hp, Only H → SqL K H a (ns.map V.int) → HOk P w H s₁.heap → (∀ b, H b ≠ none → b = a) → (H a ≠ none → K.lookup a = none) →
      codeAny (model P w) callerA (.call (.ref fa) ⟨[.ref a], []⟩) (fun r s' => r = .ok (.ret (.bool true)) ∧ OldK s₁.heap s'.heap ∧ s'.os = s₁.os ∧ AllBare s'.gens) s₁ := by
    intro H hO hS hok hA hK
    have base_of : ∀ {b : Addr} {o : Obj}, s₁.heap.get? b = some o → H b = none → (hidT s₁.heap H).get? b = some o := fun e n => hidT_get e n
    have noA : ∀ {b : Addr} {o : Obj} {es : Array DictEntry} {ep : Nat}, s₁.heap.get? b = some o → o.data = .dict es ep → H b = none := fun {b o es ep} e d => by
      cases q : H b with
      | none => rfl
      | some u =>
        have e' : b = a := hA b (by rw [q]; simp)
        subst e'
        rw [ha] at e; cases e
        have d' : Data.seq vs.toArray _ = Data.dict es ep := d
        cases d'
    have nsK : ∀ {b : Addr} {m : Str → Option Value}, s₁.heap.Ns b m → (hidT s₁.heap H).Ns b m := fun {b m} ⟨o, es, ep, e, d, r⟩ => ⟨o, es, ep, base_of e (noA e d), d, r⟩
    have hKb : K.In (hidT s₁.heap H) := fun b o e => base_of (KX b o e) (by
      cases q : H b with
      | none => rfl
      | some u =>
        have e' : b = a := hA b (by rw [q]; simp)
        subst e'
        rw [hK (by rw [q]; simp)] at e; cases e)
    have hM : Mod K mg (hidT s₁.heap H) := ⟨hKb, nsK hns, ⟨mb, nsK hb, hbb⟩, let ⟨mc, h1, h2⟩ := hlim; ⟨mc, nsK h1, h2⟩⟩
    have e0 : Env0 P w K mg (hidT s₁.heap H) callerA [] s₁ H := ⟨rfl, hM, fun b o e => of_hidT e, Nat.le_of_eq (hidT_size _ _), trivial, fun b hb => absurd (show b ∈ ([] : List Addr) from hb) (by simp), hok, .of_eq hg⟩
    refine codeAny_mono ((F _ hKb (nsK hns)).run callerA [] s₁ H ⟨[.ref a], []⟩ [.ref a] [.ref a] _ _ hr e0 (hbind s₁ (.ref a)) (.cons rfl .nil) (hsp H hO hS)) fun r s' h => ?_
    cases r with
    | error e => exact (hCX H e s' h).elim
    | ok fl =>
      cases fl with
      | next => exact False.elim h
      | brk => exact False.elim h
      | cont => exact False.elim h
      | ret u =>
        obtain ⟨v, H', os, bare, un, hok', r', q⟩ := h
        have q' : v = .bl true := q
        subst q'
        obtain rfl : u = Value.bool true := r'
        refine ⟨rfl, OldK.of_keep fun b o e => ?_, os, bare⟩
        cases q : H b with
        | none => exact un.keep b o e q (by intro z; exact absurd (show b ∈ ([] : List Addr) from z) (by simp)) (by simp)
        | some u =>
          rcases hO b with z | ⟨ob, xs, z⟩
          · rw [q] at z; cases z
          · have z2 := un.frzs b ob _ z
            obtain ⟨e1, _⟩ := hok b _ z
            obtain ⟨e2, _⟩ := hok' b _ z2
            rw [e] at e1; cases e1
            exact e2
  cases hk : K.lookup a with
  | some o =>
    -- the script is one of the module's own objects
    have e := KX a o hk
    rw [ha] at e
    cases e
    refine core (fun _ => none) (fun _ => .inl rfl) (.inr ⟨_, vs.toArray, _, hk, rfl, rfl, rfl, by rw [List.size_toArray, lenV]; exact hl, by simpa using rv⟩) (fun b u z => by have z' : (none : Option HO) = some u := z; cases z') (fun b z => absurd rfl z) fun z => absurd rfl z
  | none =>
    refine core (fun b => if b = a then some (.frz { cls := .type "list", data := .seq vs.toArray } (.lst (ns.map V.int))) else none) (fun b => ?_) (.inl (.inr ⟨{ cls := .type "list", data := .seq vs.toArray }, if_pos rfl⟩)) (fun b u z => ?_) (fun b z => ?_) fun _ => hk
    · by_cases hb : b = a
      · exact .inr ⟨_, _, if_pos hb⟩
      · exact .inl (if_neg hb)
    · by_cases hb : b = a
      · have z' := (if_pos hb).symm.trans z
        cases z'
        subst hb
        exact ⟨ha, by rw [List.length_map]; exact hl, vs, _, rv, ha⟩
      · have z' := (if_neg hb).symm.trans z
        cases z'
    · by_cases hb : b = a
      · exact hb
      · exact absurd (if_neg hb) z
end L2

namespace L2
open PySem PySem.Spec PyProof.Rows


/-- the goal that k_head leaves (case hc), from the law's promise. F gives the function object fd (K's own) once, then the promise over every base -/
theorem walk_of {l : PySem.W.OpenLaw} {n k : Nat} {q : Program} {loose : List Str} {XP : (Str → Option Value) → Heap → Prop} {YP : World → Heap → Prop} {d : DefRec} {K : Params → PySem.W.Frag} {CX : World → CXT} {sp : World → Sp} {x : Str}
    (hn : l.most = some n) (hn2 : n ≤ sizeLine) (hdf : d.params.defaults = []) (hr : Room k callerA)
    (hY : ∀ (w : World) (h : Heap), YP w h → (K w.params).In h)
    (F : ∀ (w : World) (mg : Str → Option Value) (fa : Addr) (h : Heap), (K w.params).In h → h.Ns mainGlobals mg → mg d.name = some (.ref fa) →
      ∃ fd : FuncData, (∀ (s : Shared) (u : Value), BindsTo s fd ⟨[u], []⟩ [(x, u)]) ∧
        ∀ base : Heap, (K w.params).In base → base.Ns mainGlobals mg → FnOk l.prog w (K w.params) mg base (CX w) k fa fd [x] (sp w))
    (hsp : ∀ (w : World) (H : Hp) (a : Addr) (ns : List Int), ns.length ≤ n → Only H → SqL (K w.params) H a (ns.map V.int) → sp w [.ref a] H (fun v _ => v = .bl true) fun _ _ _ => False)
    (hCX : ∀ (w : World) (H : Hp) (s : Shared) (e : Value) (s' : Shared), CX w [] H s (fun _ _ _ => False) e s' → False) :
    PySem.W.WalkO q loose XP YP l.row.toRowW d [] (fun f vs => PySem.call f vs) := by
  refine Att.attach_call hn hdf fun w s₀ s₁ mg mb fa o pm cd doc a vs ns G Y ho hd hcd hmg hobj hints hlen hg => ?_
  have KX := hY w _ Y
  obtain ⟨fd, hb, hF⟩ := F w mg fa _ KX G.T.g hmg
  exact law_call KX G.T.g G.T.b G.T.builtins G.T.nolimit hg hobj hints (Nat.le_trans hlen hn2) hr hF hb (fun H hO hS => hsp w H a ns hlen hO hS) fun H e s' => hCX w H s₁ e s'
end L2



/-! SHORT WORDS over the layer: a def of the text, its body, what a loop and a test want. -/
namespace L2
open PySem PySem.Spec PyProof.Rows

/-! ### the text by places -/
/-- the j-th statement of a class's body -/
def inClass (s : Stmt) (j : Nat) : Stmt := match s with
  | .ClassDef _ _ _ body _ _ _ _ _ _ _ => body.getD j (.Pass ⟨0, 0, 0, 0⟩)
  | _ => .Pass ⟨0, 0, 0, 0⟩
def defArgs (s : Stmt) : Arguments := match s with
  | .FunctionDef _ a _ _ _ _ _ _ _ _ => a
  | _ => { posonlyargs := [], args := [], vararg := none, kwonlyargs := [], kw_defaults := [], kwarg := none, defaults := [] }
def defBody (s : Stmt) : List Stmt := match s with
  | .FunctionDef _ _ b _ _ _ _ _ _ _ => b
  | _ => []
def defScope (s : Stmt) : Scope := match s with
  | .FunctionDef _ _ _ _ _ _ sc _ _ _ => sc
  | _ => { kind := .function, names := [], isGenerator := false, isCoroutine := false }

/-! ### no exception leaves a def -/
abbrev CX0 : CXT := fun _ _ _ _ _ _ => False
abbrev E0 : XK := fun _ _ _ => False
theorem pass0 {X : Cx} : Passes CX0 X E0 := fun _ _ _ _ _ _ _ h => h.elim

/-! ### a def (or method) of the text as it stands behind the top -/
structure Fun (K : PySem.W.Frag) (x qual : Str) (st : Stmt) (f : Addr) (fd : FuncData) : Prop where
  ex : ∃ (oc : Value) (od : Option Addr) (kV doc pm : Value) (an : Option Addr) (cdv ct : Value) (osl : Array (Option Value)),
    fd = PySem.W.fnOf x qual (defArgs st) (defBody st) (defScope st) .none kV doc pm an cdv ct ∧ K.lookup f = some ⟨oc, od, .func fd, osl⟩ ∧ PySem.W.codeIn K cdv qual = true
  kp : PySem.W.keepIn K (.ref f) = true
section
variable {P : Program} {w : World} {K : PySem.W.Frag} {mg : Str → Option Value} {base : Heap}
/-- THE RULE for a def: its body as a term of rules, and the reading of that term -/
theorem Fun.ok {x qual : Str} {st : Stmt} {f : Addr} {fd : FuncData} {N ps : List Str} {k : Nat} {sp : Sp} (F : Fun K x qual st f fd) (S : FnScope N ps (defScope st)) (len : ∀ vs H Q E, sp vs H Q E → vs.length = ps.length)
    (hbody : ∀ (cdv : Value) (A : Around) (outer : List Env) (s : Shared) (H : Hp) (vs : List V) (Q : VK) (E : XK), Room k (A.deeper (envOfC qual (defScope st) s.heap.objs.size f cdv)) → sp vs H Q E →
      ∃ t, PSs (cxOf CX0 P w K mg base N qual (defScope st) f cdv A outer s H E).nox (defBody st) t ∧ t { nx := fun _ H' => Q .non H', rt := Q } (start N vs) H) : FnOk P w K mg base CX0 (k + 1) f fd ps sp := by
  obtain ⟨oc, od, kV, doc, pm, an, cdv, ct, osl, rfl, lk, hcd⟩ := F.ex
  refine fn_of lk hcd S len fun A outer s H vs Q E hr hsp => ?_
  obtain ⟨t, h, q⟩ := hbody cdv A outer s H vs Q E hr hsp
  exact ⟨t, h.nox, q⟩
/-- how its arguments bind (no defaults): h is «fun _ _ _ _ _ _ us hl => match us, hl with | [_, _], _ => rfl», one _ a parameter -/
theorem Fun.binds {x qual : Str} {st : Stmt} {f : Addr} {fd : FuncData} {ps : List Str} (F : Fun K x qual st f fd)
    (h : ∀ (kV doc pm : Value) (an : Option Addr) (cdv ct : Value) (us : List Value), us.length = ps.length → bindArgs (PySem.W.fnOf x qual (defArgs st) (defBody st) (defScope st) .none kV doc pm an cdv ct) ⟨us, []⟩ = pure (ps.zip us)) : Binds K fd ps [] := by
  obtain ⟨oc, od, kV, doc, pm, an, cdv, ct, osl, rfl, lk, hcd⟩ := F.ex
  exact .all (h kV doc pm an cdv ct)
theorem fun_mk {x qual : Str} {st : Stmt} {f : Addr} {oc : Value} {od an : Option Addr} {osl : Array (Option Value)} {kV doc pm cdv ct : Value} (l : K.lookup f = some ⟨oc, od, .func (PySem.W.fnOf x qual (defArgs st) (defBody st) (defScope st) .none kV doc pm an cdv ct), osl⟩)
    (c : PySem.W.codeIn K cdv qual = true) (k : PySem.W.keepIn K (.ref f) = true) : Fun K x qual st f (PySem.W.fnOf x qual (defArgs st) (defBody st) (defScope st) .none kV doc pm an cdv ct) := ⟨⟨oc, od, kV, doc, pm, an, cdv, ct, osl, rfl, l, c⟩, k⟩
end
theorem hu_of {A : Around} {k : Nat} (hr : Room k A) : A.units + 1 < cLine := Nat.lt_of_le_of_lt (Nat.add_le_add_left (by decide : 1 ≤ 64) _) hr.units

/-! ### expressions in short: the name that stands in the i-th slot -/
section
variable {X : Cx}
theorem pv (i : Nat) {x : Str} {pos : Pos} (hN : X.N[i]? = some x := by rfl) (hv : Vis X.env.scope x := by first | exact Or.inl rfl | exact Or.inr (Or.inl rfl) | exact Or.inr (Or.inr rfl)) (hd : (x == ("__debug__" : Str)) = false := by decide)
    (hcd : (x == ("__classdict__" : Str)) = false := by decide) : PE X (.Name x pos) (tVar i) := pe_var hN hv hd hcd
end

/-! ### tests -/
theorem iteF {A B : Prop} (h : B) : if false = true then A else B := by
  rw [if_neg Bool.false_ne_true]
  exact h
theorem iteT {A B : Prop} (h : A) : if true = true then A else B := by
  rw [if_pos rfl]
  exact h
theorem ite2 {c A B : Prop} [Decidable c] (h1 : c → A) (h2 : ¬ c → B) : if c then A else B := by
  by_cases h : c
  · rw [if_pos h]
    exact h1 h
  · rw [if_neg h]
    exact h2 h

/-! ### heaps -/
/-- all that was tracked is as it was -/
def Same (H H' : Hp) : Prop := ∀ b o, H b = some o → H' b = some o
theorem Same.refl (H : Hp) : Same H H := fun _ _ h => h
theorem Same.trans {H H1 H2 : Hp} (a : Same H H1) (b : Same H1 H2) : Same H H2 := fun c o h => b c o (a c o h)
theorem Same.free {H H' : Hp} (e : Same H H') {l : Addr} (h : H' l = Option.none) : H l = Option.none := by
  cases q : H l with
  | none => rfl
  | some o =>
    rw [e l o q] at h
    cases h
theorem Same.seq {K : PySem.W.Frag} {H H' : Hp} {a : Addr} {xs : List V} (e : Same H H') (h : SqL K H a xs) : SqL K H' a xs := by
  rcases h with (h | ⟨o, h⟩) | h
  · exact .inl (.inl (e _ _ h))
  · exact .inl (.inr ⟨o, e _ _ h⟩)
  · exact .inr h

end L2

set_option Elab.async false
set_option linter.all false
set_option maxRecDepth 100000
set_option maxHeartbeats 4000000
/-! A list comprehension of one clause over the hand layer: own work. -/
namespace L2
open PySem PySem.Spec PyProof.Rows

section
variable {prog : Program} {w : World} {A : Around} {R : Result → Shared → Prop} {s : Shared}
/-- the loop of a comprehension, its owned tuple let go, no exception within -/
theorem compLoop_own {elt target iter : Expr} {ifs : List Expr} {scope : Scope} {pos : Pos} {it acc : Value} {env : Env} (I : Nat → Shared → Prop)
    (turn : ∀ n s, I n s → wpAny (model prog w) A (pyNext it) (fun r s₁ => match r with
      | none => R (.ok .next) s₁
      | some v => wpAny (model prog w) A (letOwnedTupleGo target it v) (fun _ s₁' => wpAny (model prog w) A (assign target env v) (fun _ s₂ =>
          wpAny (model prog w) A (forIn ifs true fun c r => if r = true then do let ok ← isTrue c env (eval c env); pure (ForInStep.yield ok) else pure (ForInStep.yield r)) (fun ok s₃ =>
            if ok = true then wpAny (model prog w) A (eval elt env) (fun x s₄ =>
              wpAny (model prog w) A (call (.builtin "list.append") [acc, x]) (fun _ s₅ => ∃ m, m < n ∧ I m s₅) (fun _ _ => False) s₄) (fun _ _ => False) s₃
            else ∃ m, m < n ∧ I m s₃) (fun _ _ => False) s₂) (fun _ _ => False) s₁') (fun _ _ => False) s₁) (fun _ _ => False) s)
    (n : Nat) (h : I n s) : codeAny (model prog w) A (.compLoop (.ListComp elt [⟨target, iter, ifs, 0⟩] scope pos) 0 it acc env) R s := by
  refine codeAny_loop rfl I (fun n s hI => ?_) n h
  show wpAny _ A ((compTurn (.ListComp elt [⟨target, iter, ifs, 0⟩] scope pos) 0 it acc env).onRaise (fun x => do noteFrame x env; theTreesLotGoes x)) _ _ s
  refine wpAny_noted ?_
  rw [compTurn_list]
  refine wpAny_bind (wpAny_standAt (wpAny_bind (wpAny_mono (turn n s hI) (fun r s₁ h₁ => ?_) fun _ _ h' => h'.elim)))
  cases r with
  | none => exact wpAny_pure h₁
  | some v =>
    refine wpAny_bind (wpAny_mono h₁ (fun _ s₁' h₁' => wpAny_bind (wpAny_mono h₁' (fun _ s₂ h₂ => wpAny_bind (wpAny_mono h₂ (fun ok s₃ h₃ => ?_) fun _ _ h' => h'.elim)) fun _ _ h' => h'.elim)) fun _ _ h' => h'.elim)
    cases ok with
    | false => exact wpAny_pure ⟨rfl, h₃⟩
    | true =>
      exact wpAny_bind (wpAny_bind (wpAny_mono h₃ (fun x s₄ h₄ => wpAny_bind (wpAny_mono h₄ (fun _ s₅ h₅ => wpAny_pure (wpAny_pure ⟨rfl, h₅⟩)) fun _ _ h' => h'.elim)) fun _ _ h' => h'.elim))
end

/-- the cells that a comprehension's block takes from around it -/
theorem closure_of {scope : Scope} {env : Env} (h : ∀ y ∈ scope.names, y.2 = .free → ∃ c, env.cells.lookup y.1 = some c) :
    ∃ cl, closureFor scope env = pure cl ∧ (∀ x c, cl.lookup x = some c → env.cells.lookup x = some c) ∧ (∀ x, (x, NameKind.free) ∈ scope.names → ∃ c, cl.lookup x = some c) := by
  have key : ∀ (l : List (Str × NameKind)) (cs : List (Str × Addr)), (∀ y ∈ l, y.2 = .free → ∃ c, env.cells.lookup y.1 = some c) → (∀ x c, cs.lookup x = some c → env.cells.lookup x = some c) →
      ∃ cl, (forIn l cs (fun (p : Str × NameKind) (r : List (Str × Addr)) => (do
          if p.2 == NameKind.free then do
            let a ← cellOf env p.1
            pure (ForInStep.yield ((p.1, a) :: r))
          else pure (ForInStep.yield r) : Sem (ForInStep (List (Str × Addr)))))) = pure cl ∧ (∀ x c, cl.lookup x = some c → env.cells.lookup x = some c) ∧ (∀ x, ((x, NameKind.free) ∈ l ∨ ∃ c, cs.lookup x = some c) → ∃ c, cl.lookup x = some c) := by
    intro l
    induction l with
    | nil => intro cs _ hc; exact ⟨cs, rfl, hc, fun x hx => hx.elim (fun z => by cases z) id⟩
    | cons p r ih =>
      intro cs hl hc
      obtain ⟨n, k⟩ := p
      by_cases hk : k = .free
      · subst hk
        obtain ⟨c, e⟩ := hl (n, .free) List.mem_cons_self rfl
        obtain ⟨cl, e1, e2, e3⟩ := ih ((n, c) :: cs) (fun y hy => hl y (List.mem_cons_of_mem _ hy)) (fun x c' q => by
          rw [List.lookup_cons] at q
          by_cases hx : x == n
          · rw [hx] at q; cases q; rw [eq_of_beq hx]; exact e
          · have hx' : (x == n) = false := by simpa using hx
            rw [hx'] at q; exact hc x c' q)
        refine ⟨cl, ?_, e2, fun x hx => e3 x ?_⟩
        · rw [List.forIn_cons]
          have : (cellOf env n) = pure c := by unfold cellOf; rw [e]
          simp only [beq_self_eq_true, if_true, this, pure_bind]
          exact e1
        · rcases hx with hx | ⟨c', hx⟩
          · rcases List.mem_cons.mp hx with z | z
            · cases z; exact .inr ⟨c, by simp⟩
            · exact .inl z
          · by_cases q : x == n
            · exact .inr ⟨c, by rw [List.lookup_cons, q]⟩
            · have q' : (x == n) = false := by simpa using q
              exact .inr ⟨c', by rw [List.lookup_cons, q']; exact hx⟩
      · obtain ⟨cl, e1, e2, e3⟩ := ih cs (fun y hy => hl y (List.mem_cons_of_mem _ hy)) hc
        refine ⟨cl, ?_, e2, fun x hx => e3 x ?_⟩
        · rw [List.forIn_cons]
          have hb : (k == NameKind.free) = false := by simpa using hk
          simp only [hb, Bool.false_eq_true, if_false, pure_bind]
          exact e1
        · rcases hx with hx | hx
          · rcases List.mem_cons.mp hx with z | z
            · cases z; exact absurd rfl hk
            · exact .inl z
          · exact .inr hx
  obtain ⟨cl, e1, e2, e3⟩ := key scope.names [] h (fun x c q => by cases q)
  refine ⟨cl, ?_, e2, fun x hx => e3 x (.inl hx)⟩
  unfold closureFor
  have e1' := e1
  simp only [bind_pure] at e1' ⊢
  first
    | exact e1'
    | (rw [← e1']; rfl)
    | (show (forIn scope.names [] _ >>= fun r => pure r) = _; rw [bind_pure]; exact e1')
end L2

namespace L2
open PySem PySem.Spec PyProof.Rows

/-- what a comprehension's scope must be, over the def's own scope (outer), the def's names N; ks: which of N the block sees -/
structure LcS (outer names : List (Str × NameKind)) (N : List Str) (ks : List Bool) : Prop where
  fv : ∀ y ∈ names, y.2 = .free → outer.lookup y.1 = some .cell ∨ outer.lookup y.1 = some .free
  nocell : ∀ y ∈ names, y.2 ≠ .cell
  loc : ∀ y ∈ names, y.2 = .local → names.lookup y.1 = some .local
  free : ∀ y ∈ names, y.2 = .free → names.lookup y.1 = some .free
  vis : ∀ p ∈ N.zip ks, p.2 = true → names.lookup p.1 = some .free
  len : ks.length = N.length

/-- the values that the block sees -/
def mask (ks : List Bool) (σ : St) : St := List.zipWith (fun k v => if k then v else none) ks σ
theorem mask_get {ks : List Bool} {σ : St} {i : Nat} {v : V} (h : (mask ks σ)[i]? = some (some v)) : ks[i]? = some true ∧ σ[i]? = some (some v) := by
  unfold mask at h
  rw [List.getElem?_zipWith] at h
  cases e1 : ks[i]? with
  | none => rw [e1] at h; cases h
  | some k =>
    cases e2 : σ[i]? with
    | none => rw [e1, e2] at h; cases h
    | some u =>
      rw [e1, e2] at h
      cases k with
      | true => simp at h; subst h; exact ⟨rfl, rfl⟩
      | false => simp at h
theorem mask_len {ks : List Bool} {σ : St} (h : ks.length = σ.length) : (mask ks σ).length = σ.length := by
  unfold mask; rw [List.length_zipWith, h, Nat.min_self]

/-- the block's context -/
def cxLC (X : Cx) (scope : Scope) (cl : List (Str × Addr)) (ext : List Str) (C : Addr) (fp : List Addr) (s₀ : Shared) (H₀ : Hp) : Cx :=
  { X with N := X.N ++ ext, env := compEnvC scope cl C X.env, s₀ := s₀, H₀ := H₀, outer := X.stack, ex := fp, fn := fun _ => false, pn := [], xe := fun _ _ => False }

theorem relabel_kind {env : Env} : ∀ {names : List (Str × NameKind)} {x : Str} {k' : NameKind},
    (names.map fun (n, k) => if (k == NameKind.free && env.scope.kind == .function && env.kindOf n == some .cell) then (n, NameKind.cell) else (n, k)).lookup x = some k' →
    names.lookup x = some k' ∨ (k' = .cell ∧ names.lookup x = some .free)
  | [], _, _, h => by simp at h
  | (n, k) :: r, x, k', h => by
    have h : List.lookup x ((if (k == NameKind.free && env.scope.kind == .function && env.kindOf n == some .cell) = true then (n, NameKind.cell) else (n, k)) :: (r.map fun (n, k) => if (k == NameKind.free && env.scope.kind == .function && env.kindOf n == some .cell) then (n, NameKind.cell) else (n, k))) = some k' := h
    cases hx : x == n with
    | true =>
      by_cases hc : (k == NameKind.free && env.scope.kind == .function && env.kindOf n == some .cell) = true
      · rw [if_pos hc] at h
        simp only [List.lookup_cons, hx] at h
        cases h
        simp only [Bool.and_eq_true, beq_iff_eq] at hc
        exact .inr ⟨rfl, by simp only [List.lookup_cons, hx]; rw [hc.1.1]⟩
      · rw [if_neg hc] at h
        simp only [List.lookup_cons, hx] at h
        cases h
        exact .inl (by simp only [List.lookup_cons, hx])
    | false =>
      have h' : (r.map fun (n, k) => if (k == NameKind.free && env.scope.kind == .function && env.kindOf n == some .cell) then (n, NameKind.cell) else (n, k)).lookup x = some k' := by
        split at h <;> simpa only [List.lookup_cons, hx] using h
      simp only [List.lookup_cons, hx]
      exact relabel_kind h'
theorem relabel_free {env : Env} : ∀ {names : List (Str × NameKind)} {x : Str}, names.lookup x = some .free →
    (names.map fun (n, k) => if (k == NameKind.free && env.scope.kind == .function && env.kindOf n == some .cell) then (n, NameKind.cell) else (n, k)).lookup x = some .cell ∨
    (names.map fun (n, k) => if (k == NameKind.free && env.scope.kind == .function && env.kindOf n == some .cell) then (n, NameKind.cell) else (n, k)).lookup x = some .free
  | [], _, h => by simp at h
  | (n, k) :: r, x, h => by
    show List.lookup x ((if (k == NameKind.free && env.scope.kind == .function && env.kindOf n == some .cell) = true then (n, NameKind.cell) else (n, k)) :: _) = _ ∨ List.lookup x ((if (k == NameKind.free && env.scope.kind == .function && env.kindOf n == some .cell) = true then (n, NameKind.cell) else (n, k)) :: _) = _
    cases hx : x == n with
    | true =>
      simp only [List.lookup_cons, hx] at h
      cases h
      split
      · exact .inl (by simp only [List.lookup_cons, hx])
      · exact .inr (by simp only [List.lookup_cons, hx])
    | false =>
      simp only [List.lookup_cons, hx] at h
      have ih := @relabel_free env r x h
      split <;> simp only [List.lookup_cons, hx] <;> exact ih

/-- the block's entry -/
theorem inv_lc {X : Cx} {pins : List (Addr × Obj)} {σ : St} {H : Hp} {s : Shared} {scope : Scope} {cl : List (Str × Addr)} {ks : List Bool} {ext : List Str} {fp : List Addr} {C : Addr} {h1 : Heap} {tk : Nat}
    (I : Inv X pins σ H s) (S : LcS X.env.scope.names scope.names X.N ks) (hkind : scope.kind = .function) (c1 : ∀ x c, cl.lookup x = some c → X.env.cells.lookup x = some c) (c2 : ∀ x, (x, NameKind.free) ∈ scope.names → ∃ c, cl.lookup x = some c)
    (hfp : ∀ b ∈ fp, FpOk X pins H b) (hlt : ∀ b ∈ fp, b < s.heap.objs.size) (hC : C = s.heap.objs.size) (hn : h1.Ns C (fun _ => none)) (hk : ∀ b o, s.heap.get? b = some o → h1.get? b = some o) :
    Inv (cxLC X scope cl ext C fp s H) [] (mask ks σ ++ List.replicate ext.length none) H { s with heap := h1, toks := tk } := by
  have hlen : ks.length = σ.length := by rw [S.len, I.len]
  refine ⟨⟨I.ok.mod, hkind, I.ok.glob, I.ok.blt, Nat.le_of_eq hC.symm, fun x y c e1 e2 => I.ok.inj x y c (c1 x c e1) (c1 y c e2), fun x hx => ?_, (fun x c hf => by cases hf), I.ok.hd, I.ok.frames, .inl rfl, fun b hb => ⟨?_, fun x c e => (hfp b hb).2.2.2.2.1 x c (c1 x c e)⟩, I.bs, Nat.le_trans I.ok.bsz I.sz, fun b o e hb => ?_, fun b hb hz => ?_, I.stack, I.stkFree⟩,
    rfl, I.bare, Un.kept hk, ⟨_, hn, fun i x v e1 e2 e3 => ?_⟩, fun x c e => ?_, ?_, fun x c e => I.freeC x c (c1 x c e), fun p hp => absurd (show p ∈ ([] : List (Addr × Obj)) from hp) (by simp), I.hok.kept hk, ?_⟩
  · -- a cell for each cell or free name
    have hx' : (relabel scope X.env).names.lookup x = some .cell ∨ (relabel scope X.env).names.lookup x = some .free := hx
    have hfree : scope.names.lookup x = some .free := by
      rcases hx' with q | q
      · rcases relabel_kind q with z | ⟨_, z⟩
        · exact absurd rfl (S.nocell _ (PySem.mem_of_lookup z))
        · exact z
      · rcases relabel_kind q with z | ⟨z, _⟩
        · exact z
        · cases z
    exact c2 x (PySem.mem_of_lookup hfree)
  · intro z
    have h0 := hlt b hb
    have z' : b = C := z
    rw [z', hC] at h0
    exact Nat.lt_irrefl _ h0
  · obtain ⟨_, _, _, h4, _, _⟩ := hfp b hb
    rcases h4 with z | z
    · exact I.ok.noex b o e z
    · exact absurd (Heap.lt_size (I.ok.bs b o e).1) (Nat.not_lt.mpr z)
  · have hz' : b ∈ frs X.stack := hz
    rcases List.mem_cons.mp (I.stkSub b hz') with q | q
    · exact (hfp b hb).2.1 q
    · exact (hfp b hb).2.2.1 q
  · have hi : i < (mask ks σ).length := by
      by_cases hi : i < (mask ks σ).length
      · exact hi
      · rw [List.getElem?_append_right (by lia), List.getElem?_replicate] at e2
        split at e2 <;> cases e2
    rw [List.getElem?_append_left hi] at e2
    obtain ⟨k1, k2⟩ := mask_get e2
    have hiN : i < X.N.length := by rw [← I.len]; rw [mask_len hlen] at hi; exact hi
    have e1' : X.N[i]? = some x := by
      have : (X.N ++ ext)[i]? = some x := e1
      rwa [List.getElem?_append_left hiN] at this
    have hz : (x, true) ∈ X.N.zip ks := by
      rw [List.mem_iff_getElem?]
      exact ⟨i, by rw [List.getElem?_zip_eq_some]; exact ⟨e1', k1⟩⟩
    have hfree := S.vis (x, true) hz rfl
    have hvis : X.env.kindOf x = some .cell ∨ X.env.kindOf x = some .free := S.fv (x, .free) (PySem.mem_of_lookup hfree) rfl
    obtain ⟨m, hm, hl⟩ := I.loc
    obtain ⟨u, r, l⟩ := hl i x v e1' k2 (hvis.elim (fun z => .inr (.inl z)) fun z => .inr (.inr z))
    refine ⟨u, r, .inr ⟨relabel_free hfree, ?_⟩⟩
    rcases l with ⟨z, _⟩ | ⟨_, c, ec, hc⟩
    · rcases hvis with q | q <;> · rw [q] at z; cases z
    · obtain ⟨c', ec'⟩ := c2 x (PySem.mem_of_lookup hfree)
      have := c1 x c' ec'
      rw [ec] at this; cases this
      obtain ⟨o, ho, hd⟩ := hc
      exact ⟨c, ec', o, hk c o ho, hd⟩
  · obtain ⟨v, o, ho, hd⟩ := I.cell x c (c1 x c e)
    exact ⟨v, o, hk c o ho, hd⟩
  · show H C = none
    rw [hC]; exact I.hok.fresh (Nat.le_refl _)
  · rw [List.length_append, List.length_replicate, mask_len hlen, I.len]
    show _ = (X.N ++ ext).length
    rw [List.length_append]
end L2

namespace L2
open PySem PySem.Spec PyProof.Rows

/-- the tests of a clause -/
def PTs (X : Cx) (ifs : List Expr) (t : TT) : Prop :=
  ∀ (pins : List (Addr × Obj)) (s : Shared) (σ : St) (H : Hp) (Q : Bool → Hp → Prop), Inv X pins σ H s → t σ H Q →
    wpAny (model X.prog X.w) X.A (forIn ifs true fun c r => if r = true then do let ok ← isTrue c X.env (eval c X.env); pure (ForInStep.yield ok) else pure (ForInStep.yield r)) (TP X pins σ Q) X.xe s
def tYes : TT := fun _ H Q => Q true H
theorem pts_nil {X : Cx} : PTs X [] tYes := fun _ _ σ H Q I h => wpAny_tests_nil ⟨H, I, h⟩
theorem pts_one {X : Cx} {c : Expr} {t : TT} (h : PT X c t) : PTs X [c] t := fun pins s σ H Q I q => wpAny_tests_one (h pins s σ H Q I q)

/-- the turns, by a word W of turn, measure, what was gathered, values, heap -/
def lcTurn (J : It) (D : Addr) (g : TG) (tt : TT) (te : TE) (Q : Hp → Prop) (W : Nat → Nat → List V → St → Hp → Prop) : Prop :=
  ∀ i m ys σ H, W i m ys σ H → (J.stop i H ∧ Q H) ∨ (J.go i H ∧ ∀ x H', J.yld i H x H' → g x σ H' fun σ2 H2 => tt σ2 H2 fun b H3 =>
    if b = true then te σ2 H3 fun y H4 => H4 D = some (.lst ys) ∧ ys.length < sizeLine ∧ ∃ m', m' < m ∧ W (i + 1) m' (ys ++ [y]) σ2 (upd H4 D (.lst (ys ++ [y])))
    else ∃ m', m' < m ∧ W (i + 1) m' ys σ2 H3)
def tLC (ks : List Bool) (e : Nat) (wi : TI) (g : TG) (tt : TT) (te : TE) : TE := fun σ H Q => wi σ H fun J H1 => ∀ D, H1 D = none →
  ∃ W : Nat → Nat → List V → St → Hp → Prop, (∃ m, W 0 m [] (mask ks σ ++ List.replicate e none) (upd H1 D (.lst []))) ∧ lcTurn J D g tt te (fun H2 => Q (.ref D) H2) W

structure Blk (X : Cx) (scope : Scope) (ext : List Str) (tg : Expr) (ifs : List Expr) (elt : Expr) (g : TG) (tt : TT) (te : TE) : Prop where
  pg : ∀ cl C fp s₀ H₀, PG (cxLC X scope cl ext C fp s₀ H₀) tg g
  pt : ∀ cl C fp s₀ H₀, PTs (cxLC X scope cl ext C fp s₀ H₀) ifs tt
  pe : ∀ cl C fp s₀ H₀, PE (cxLC X scope cl ext C fp s₀ H₀) elt te

theorem lc_core {X : Cx} {elt tg iter : Expr} {ifs : List Expr} {scope : Scope} {pos : Pos} {ks : List Bool} {ext : List Str} {g : TG} {tt : TT} {te : TE} {pins : List (Addr × Obj)} {σ : St} {H2 : Hp} {s2 : Shared} {cl : List (Str × Addr)}
    {it : Addr} {fp : List Addr} {tn : Nat → Heap → Prop} {J : It} {RR : Value → Addr → Result → Shared → Prop} {QD : Addr → Hp → Prop} {E : Value → Shared → Prop}
    (S : LcS X.env.scope.names scope.names X.N ks) (hkind : scope.kind = .function) (hc : X.calm = true) (B : Blk X scope ext tg ifs elt g tt te)
    (c1 : ∀ x c, cl.lookup x = some c → X.env.cells.lookup x = some c) (c2 : ∀ x, (x, NameKind.free) ∈ scope.names → ∃ c, cl.lookup x = some c)
    (I2 : Inv X pins σ H2 s2) (T : Turn X.prog X.w X.K tg J fp it tn) (st2 : tn 0 s2.heap) (f2 : ∀ b ∈ fp, FpOk X pins H2 b)
    (hW : ∀ D, H2 D = none → ∃ W : Nat → Nat → List V → St → Hp → Prop, (∃ m, W 0 m [] (mask ks σ ++ List.replicate ext.length none) (upd H2 D (.lst []))) ∧ lcTurn J D g tt te (QD D) W)
    (hRR : ∀ D C s4 H' m, Inv X pins σ H' s4 → FpOk X pins H' C → s4.heap.Ns C m → QD D H' → RR (.ref D) C (.ok .next) s4) :
    wpAny (model X.prog X.w) X.A (newList []) (fun acc s₃ => wpAny (model X.prog X.w) X.A (newFunctionEnv scope X.env.globals cl [] X.env.qual none .none (some X.env)) (fun cenv s₄ =>
      codeAny (model X.prog X.w) X.A (.compStart (.ListComp elt [⟨tg, iter, ifs, 0⟩] scope pos) 0 (.ref it) acc { cenv with scope := relabel scope X.env }) (RR acc cenv.locals) s₄) E s₃) E s2 := by
  have hcell : ∀ y ∈ scope.names, y.2 ≠ .cell := S.nocell
  refine wpAny_newObj_type (wpAny_newFunctionEnv hcell (by intro y hy; simp at hy) (fun h₁ hns₁ hsb₁ => ?_) hkind)
  dsimp only at hns₁ hsb₁ ⊢
  have fD : H2 s2.heap.objs.size = none := I2.hok.fresh (Nat.le_refl _)
  have I3 : Inv X pins σ (upd H2 s2.heap.objs.size (.lst [])) { s2 with heap := s2.heap.push { cls := .type "list", dict := none, data := .seq ([] : List Value).toArray } } :=
    I2.laid (t' := s2.toks) (fun b u e => Heap.get?_push_of_some _ e) (Nat.le_refl _) ⟨Nat.zero_le _, [], 0, .nil, Heap.get?_push_size _ rfl⟩
  obtain ⟨W, ⟨m0, w0⟩, turn⟩ := hW s2.heap.objs.size fD
  generalize hH3 : s2.heap.push { cls := .type "list", dict := none, data := .seq ([] : List Value).toArray } = h3 at hns₁ hsb₁ I3 ⊢
  have hsz : h3.objs.size = s2.heap.objs.size + 1 := by rw [← hH3, Heap.size_push]
  have hlt2 : ∀ b ∈ fp, b < s2.heap.objs.size := fun b hb => let ⟨o, e, _⟩ := T.obj 0 _ st2 b hb; Heap.lt_size e
  have hlt : ∀ b ∈ fp, b < h3.objs.size := fun b hb => Nat.lt_of_lt_of_eq (Nat.lt_succ_of_lt (hlt2 b hb)) hsz.symm
  have f3 : ∀ b ∈ fp, FpOk X pins (upd H2 s2.heap.objs.size (.lst [])) b := fun b hb => ⟨by rw [upd_ne (Nat.ne_of_lt (hlt2 b hb))]; exact (f2 b hb).1, (f2 b hb).2⟩
  have hk : ∀ b o, h3.get? b = some o → h₁.get? b = some o := fun b o e => hsb₁.extBut b o (Nat.ne_of_lt (Heap.lt_size e)) (Heap.get?_push_of_some _ e)
  have I4 : Inv (cxLC X scope cl ext h3.objs.size fp { s2 with heap := h3 } (upd H2 s2.heap.objs.size (.lst []))) [] (mask ks σ ++ List.replicate ext.length none) (upd H2 s2.heap.objs.size (.lst [])) { s2 with heap := h₁, toks := s2.toks + ([] : List (Str × Value)).length } :=
    inv_lc (C := h3.objs.size) I3 S hkind c1 c2 f3 hlt rfl (by simpa using hns₁) hk
  have st4 : tn 0 h₁ := T.keep _ _ _ st2 fun b hb o e => hk b o (by rw [← hH3]; exact Heap.get?_push_of_some _ e)
  have stat : ∀ {H' : Hp} {p' : List (Addr × Obj)}, p' = [] → (∀ b ∈ fp, H' b = none) → ∀ b ∈ fp, FpOk (cxLC X scope cl ext h3.objs.size fp { s2 with heap := h3 } (upd H2 s2.heap.objs.size (.lst []))) p' H' b := fun {H' p'} hp hn b hb => by
    subst hp
    exact ⟨hn b hb, (I4.ok.exf b hb).1, I4.ok.exfs b hb, .inl hb, fun x c e => (I4.ok.exf b hb).2 x c e, fun p hp => absurd (show p ∈ ([] : List (Addr × Obj)) from hp) (by simp)⟩
  have loop : ∀ s₃ : Shared, s₃ = { s2 with heap := h₁, toks := s2.toks + ([] : List (Str × Value)).length } →
      codeAny (model X.prog X.w) X.A (.compLoop (.ListComp elt [⟨tg, iter, ifs, 0⟩] scope pos) 0 (.ref it) (.ref s2.heap.objs.size) (compEnvC scope cl h3.objs.size X.env)) (RR (.ref s2.heap.objs.size) h3.objs.size) s₃ := by
    rintro s₃ rfl
    refine compLoop_own (fun n s' => ∃ i ys σ' H', Inv (cxLC X scope cl ext h3.objs.size fp { s2 with heap := h3 } (upd H2 s2.heap.objs.size (.lst []))) [] σ' H' s' ∧ tn i s'.heap ∧ (∀ b ∈ fp, H' b = none) ∧ W i n ys σ' H') ?_ m0
      ⟨0, [], _, _, I4, st4, fun b hb => (f3 b hb).1, w0⟩
    rintro n s' ⟨i, ys, σ', H', I', st', fr', w'⟩
    rcases turn i n ys σ' H' w' with ⟨stop, q⟩ | ⟨go, step⟩
    · refine thn (T.done (cxLC X scope cl ext h3.objs.size fp { s2 with heap := h3 } (upd H2 s2.heap.objs.size (.lst []))) rfl rfl rfl hc i [] s' σ' H' _ I' (stat rfl fr') st' stop) ?_
      rintro r s4 ⟨hr, J4⟩
      subst hr
      show RR (.ref s2.heap.objs.size) h3.objs.size (.ok .next) s4
      obtain ⟨m, hn, _⟩ := J4.loc
      have fC : H' h3.objs.size = none := J4.free
      have IX : Inv X pins σ H' s4 := I3.call' (ch := fp) J4.os J4.base J4.hok J4.bare fun b hb => ⟨(f3 b hb).2.2.2.1, (f3 b hb).2.1, (f3 b hb).2.2.2.2.1, (f3 b hb).2.2.2.2.2⟩
      exact hRR _ _ s4 H' m IX (I3.fpOk (Nat.le_refl _) fC) hn q
    · refine thn (T.item (cxLC X scope cl ext h3.objs.size fp { s2 with heap := h3 } (upd H2 s2.heap.objs.size (.lst []))) rfl rfl rfl hc i [] s' σ' H' _ I' (stat rfl fr') st' go) ?_
      rintro r s4 ⟨u, hr, h4⟩
      subst hr
      refine thn h4 ?_
      rintro _ s5 ⟨x, H5, I5, r5, y5, st5, fr5⟩
      have I5' := I5.pinned (stat rfl fr5) (T.obj _ _ st5)
      refine thn (B.pg _ _ _ _ _ _ s5 σ' H5 x u _ I5' r5 (step x H5 y5)) ?_
      rintro _ s6 ⟨σ6, H6, I6, q6⟩
      refine thn (B.pt _ _ _ _ _ _ s6 σ6 H6 _ I6 q6) ?_
      rintro ok s7 ⟨H7, I7, q7⟩
      have again : ∀ {σ7 : St} {H8 : Hp} {s8 : Shared} {ys' : List V} {m' : Nat}, Inv (cxLC X scope cl ext h3.objs.size fp { s2 with heap := h3 } (upd H2 s2.heap.objs.size (.lst []))) ([] ++ pinsAt fp s5.heap) σ7 H8 s8 → m' < n → W (i + 1) m' ys' σ7 H8 →
          ∃ m, m < n ∧ ∃ i ys σ' H', Inv (cxLC X scope cl ext h3.objs.size fp { s2 with heap := h3 } (upd H2 s2.heap.objs.size (.lst []))) [] σ' H' s8 ∧ tn i s8.heap ∧ (∀ b ∈ fp, H' b = none) ∧ W i m ys σ' H' := fun {σ7 H8 s8 ys' m'} I8 hm w8 => by
        refine ⟨m', hm, i + 1, ys', σ7, H8, I8.unpinned, T.keep _ _ _ st5 fun b hb o e => (I8.pin (b, o) (List.mem_append_right _ (List.mem_append_right _ (mem_pinsAt hb e)))).1, fun b hb => ?_, w8⟩
        obtain ⟨o, e, d⟩ := T.obj _ _ st5 b hb
        exact (I8.pin (b, o) (List.mem_append_right _ (List.mem_append_right _ (mem_pinsAt hb e)))).2.1
      cases ok with
      | false =>
        obtain ⟨m', hm, w7⟩ := (show ∃ m', m' < n ∧ W (i + 1) m' ys σ6 H7 from q7)
        exact again I7 hm w7
      | true =>
        rw [if_pos rfl] at q7 ⊢
        refine thn (B.pe _ _ _ _ _ _ s7 σ6 H7 _ I7 q7) ?_
        rintro yv s8 ⟨y, H8, I8, r8, e8, z8, m', hm, w8⟩
        refine thn (mt_append _ s8 σ6 H8 (.ref s2.heap.objs.size) [y] (.ref s2.heap.objs.size) [yv] (fun _ H9 => H9 = upd H8 s2.heap.objs.size (.lst (ys ++ [y]))) I8 rfl (.cons r8 .nil) ⟨_, ys, y, rfl, rfl, e8, z8, rfl⟩) ?_
        rintro _ s9 ⟨_, H9, I9, _, e9⟩
        subst e9
        exact again I9 hm w8
  exact codeAny_compStart_list (loop _ rfl) (T.self _ 0 _ _ _ st4 (loop _ rfl))

section
variable {X : Cx} {elt tg iter : Expr} {ifs : List Expr} {scope : Scope} {pos : Pos} {ks : List Bool} {ext : List Str} {wi : TI} {g : TG} {tt : TT} {te : TE}

theorem lc_clos {pins : List (Addr × Obj)} {σ : St} {H : Hp} {s : Shared} (I : Inv X pins σ H s) (S : LcS X.env.scope.names scope.names X.N ks) :
    ∃ cl, closureFor scope X.env = pure cl ∧ (∀ x c, cl.lookup x = some c → X.env.cells.lookup x = some c) ∧ (∀ x, (x, NameKind.free) ∈ scope.names → ∃ c, cl.lookup x = some c) :=
  closure_of fun y hy hf => I.ok.has y.1 (S.fv y hy hf)

/-- [e for x in iter if ..] -/
theorem pe_lc (S : LcS X.env.scope.names scope.names X.N ks) (hc : X.calm = true) (hi : PI X tg iter wi) (B : Blk X scope ext tg ifs elt g tt te) (hkind : scope.kind = .function := by rfl)
    (hs : ∀ x, foldedSetIterable iter X.env x = pure x := by intro _; rfl) : PE X (.ListComp elt [⟨tg, iter, ifs, 0⟩] scope pos) (tLC ks ext.length wi g tt te) := by
  intro pins s σ H Q I h
  obtain ⟨cl, hcl, c1, c2⟩ := lc_clos I S
  rw [eval_ListComp]
  refine wpAny_comprehension_free (use := none) rfl hs hcl hkind S.loc (thn (hi pins s σ H _ I h) fun v s1 h1 => thn h1 fun itv s2 h2 => ?_)
  obtain ⟨it, fp, tn, J, H2, e, I2, T, st2, f2, hW⟩ := h2
  subst e
  refine lc_core (RR := fun acc C => compPost (model X.prog X.w) X.A X.xe none (EP X pins σ Q) acc C) (QD := fun D H' => Q (.ref D) H') S hkind hc B c1 c2 I2 T st2 f2 hW fun D C s4 H' m I4 fC hn q => ?_
  refine ⟨m, hn, fun h' sb => ⟨.ref D, H', ?_, rfl, q⟩⟩
  exact I4.turned (t' := s4.toks) (fun b o hb e => (sb.2 b hb).trans e) fC.1 fC.2.1 fC.2.2.2.1 fC.2.2.2.2.1 fC.2.2.2.2.2

/-- y = [e for x in iter if ..], y a plain local -/
theorem ps_lc {i : Nat} {y : Str} {py spos : Pos} (hN : X.N.Nodup) (hiN : X.N[i]? = some y) (hy : X.env.scope.names.lookup y = some .local) (S : LcS X.env.scope.names scope.names X.N ks) (hc : X.calm = true) (hi : PI X tg iter wi) (B : Blk X scope ext tg ifs elt g tt te) (hkind : scope.kind = .function := by rfl)
    (hsw : swapsWith (.ListComp elt [⟨tg, iter, ifs, 0⟩] scope pos) (some (.Name y py)) spos.line X.env = pure true := by rfl)
    (hs : ∀ x, foldedSetIterable iter X.env x = pure x := by intro _; rfl) : PS X (.Assign [.Name y py] (.ListComp elt [⟨tg, iter, ifs, 0⟩] scope pos) spos) (tAsg (tLC ks ext.length wi g tt te) (gName i)) := by
  intro pins s σ H D I h
  obtain ⟨cl, hcl, c1, c2⟩ := lc_clos I S
  rw [exec_Assign_Name_used _ _ _ _ hsw]
  refine wpAny_bind (wpAny_standAt (wpAny_bind ?_))
  show wpAny _ X.A (do let _ ← comprehension (.ListComp elt [⟨tg, iter, ifs, 0⟩] scope pos) scope X.env _ (newList []) false (eval iter X.env) (some (assign (.Name y py) X.env))) _ _ s
  refine wpAny_bind (wpAny_mono (wpAny_comprehension_free (use := some (assign (.Name y py) X.env)) (Q := fun _ s' => SP X pins D .next s') rfl hs hcl hkind S.loc
    (thn (hi pins s σ H _ I h) fun v s1 h1 => thn h1 fun itv s2 h2 => ?_)) (fun _ s' hq => wpAny_pure (wpAny_pure hq)) fun _ _ e => e)
  obtain ⟨it, fp, tn, J, H2, e, I2, T, st2, f2, hW⟩ := h2
  subst e
  refine lc_core (RR := fun acc C => compPost (model X.prog X.w) X.A X.xe (some (assign (.Name y py) X.env)) (fun _ s' => SP X pins D .next s') acc C) (QD := fun Dl H' => D.nx (σ.set i (some (.ref Dl))) H') S hkind hc B c1 c2 I2 T st2 f2 hW fun Dl C s4 H' m I4 fC hn q => ?_
  show wpAny _ X.A (assign (.Name y py) X.env (.ref Dl)) _ _ _
  refine wpAny_assign_Name (store_ok2 I4 hN hiN (.inl hy) (v := .ref Dl) rfl (?_) (.inr hy))
  rintro s5 I5 ⟨a, sb, ha⟩
  have hCa : C ≠ a := by
    rcases ha with rfl | ha
    · exact fC.2.1
    · exact fun z => fC.2.2.2.2.1 y a ha z.symm
  refine ⟨m, hn.sameBut sb hCa, fun h' sb' => ⟨_, H', ?_, q⟩⟩
  exact I5.turned (t' := s5.toks) (fun b o hb e => (sb'.2 b hb).trans e) fC.1 fC.2.1 fC.2.2.2.1 fC.2.2.2.2.1 fC.2.2.2.2.2
end

/-! ### forms -/
end L2

namespace L2
open PySem PySem.Spec PyProof.Rows
end L2

set_option linter.all false
/-! The table of a set of ints: its places rise, so a walk meets each member once. Own work. -/
namespace SetPure
open PySem











end SetPure

set_option linter.all false
set_option maxRecDepth 100000
set_option maxHeartbeats 4000000
/-! A set of ints that is filled: which members, and that its table is good. Own work. -/
namespace SI
open PySem SetPure




section
variable {prog : Program} {w : World} {A : Around} {E : Value → Shared → Prop} {s : Shared}



end
end SI

set_option linter.all false
set_option maxRecDepth 100000
set_option maxHeartbeats 4000000
namespace SI
open PySem SetPure
section
variable {prog : Program} {w : World} {A : Around} {E : Value → Shared → Prop} {s : Shared}

end
end SI

set_option linter.all false
set_option maxRecDepth 100000
set_option maxHeartbeats 4000000
namespace SI
open PySem SetPure
section
variable {prog : Program} {w : World} {A : Around} {E : Value → Shared → Prop} {s : Shared}








end
end SI

set_option linter.all false
set_option maxRecDepth 100000
set_option maxHeartbeats 4000000
namespace SI
open PySem SetPure
section
variable {prog : Program} {w : World} {A : Around} {E : Value → Shared → Prop} {s : Shared}



end
end SI

set_option linter.all false
set_option maxRecDepth 100000
set_option maxHeartbeats 4000000
namespace SI
open PySem SetPure PyProof.Rows
section
variable {prog : Program} {w : World} {A : Around} {R : Result → Shared → Prop} {I : Addr} {fp wr : List Addr} {G : Array GenState → Array GenState → Prop} {n : Nat} {P : Nat → Value → Prop} {St : Nat → Shared → Prop}
end
section
variable {prog : Program} {w : World} {A : Around} {E : Value → Shared → Prop} {s : Shared}
end
end SI

set_option linter.all false
set_option maxRecDepth 100000
set_option maxHeartbeats 4000000
namespace SI
open PySem SetPure PyProof.Rows
section
variable {prog : Program} {w : World} {A : Around} {E : Value → Shared → Prop} {s : Shared}
end
end SI

set_option Elab.async false
set_option linter.all false
set_option maxRecDepth 100000
set_option maxHeartbeats 4000000
/-! Rules over the hand layer: sets of ints, all, isinstance, == of lists. Own work. -/
namespace L2
open PySem PySem.Spec PyProof.Rows SI

section
variable {X : Cx}





/-- a class, as a value -/
def clsV : V → Option Value
  | .ty n => some (.type n)
  | .ref C => some (.ref C)
  | _ => none
theorem clsV_of {c : V} {cv u : Value} (h : clsV c = some cv) (r : RelV c u) : u = cv := by
  cases c with
  | ty n => cases h; exact r
  | ref C => cases h; exact r
  | _ => cases h
/-- isinstance(x, c) -/
theorem call_isI : CallR X (.builtin "isinstance") (fun xs H Q => ∃ (x c : V) (cv t : Value) (b : Bool), xs = [x, c] ∧ clsV c = some cv ∧ TyOf X.K H x t ∧ PySem.W.kitOne X.K t cv = some b ∧ Q (.bl b) H) := by
  intro pins s σ H xs us Q I r h
  obtain ⟨x, c, cv, t, b, rfl, hcv, ty, hk, q⟩ := h
  obtain ⟨u, w', rfl, r1, r2⟩ := vals2 r
  have e := clsV_of hcv r2
  subst e
  exact isinst_ok I r1 ty hk fun tk => ⟨.bl b, H, I.tok tk, rfl, q⟩

/-- == of two lists of flat things -/
def eqVs : List V → List V → Bool
  | [], [] => true
  | x :: xs, y :: ys => eqV x y && eqVs xs ys
  | _, _ => false
theorem eqVs_len : ∀ {xs ys : List V}, eqVs xs ys = true → xs.length = ys.length
  | [], [], _ => rfl
  | [], _ :: _, h => by cases h
  | _ :: _, [], h => by cases h
  | x :: xs, y :: ys, h => by
    unfold eqVs at h
    rw [Bool.and_eq_true] at h
    simp [eqVs_len h.2]
theorem eqVs_all : ∀ {xs ys : List V}, xs.length = ys.length → eqVs xs ys = (List.range xs.length).all fun i => eqV (xs.getD i .non) (ys.getD i .non)
  | [], [], _ => rfl
  | [], _ :: _, h => by cases h
  | _ :: _, [], h => by cases h
  | x :: xs, y :: ys, h => by
    have ih := eqVs_all (xs := xs) (ys := ys) (by simpa using h)
    unfold eqVs
    rw [ih, List.length_cons, List.range_succ_eq_map, List.all_cons, List.all_map]
    rfl
theorem eqVs_ne {xs ys : List V} (h : xs.length ≠ ys.length) : eqVs xs ys = false := by
  cases e : eqVs xs ys with
  | false => rfl
  | true => exact absurd (eqVs_len e) h
def rEqL (K : PySem.W.Frag) (neg : Bool) : R2 := fun x y H Q => ∃ a b xs ys, x = .ref a ∧ y = .ref b ∧ SqL K H a xs ∧ SqL K H b ys ∧ xs.all flatV = true ∧ ys.all flatV = true ∧ Q (.bl (if neg then !eqVs xs ys else eqVs xs ys)) H
theorem op_eqL (hu : X.A.units + 1 < cLine) : OpR X (compareOp .Eq) (rEqL X.K false) := by
  intro pins s σ H x y v u Q I rx ry h
  obtain ⟨a, b, xs, ys, rfl, rfl, ha, hb, fx, fy, q⟩ := h
  cases rx
  cases ry
  obtain ⟨i1, r1, p1, z1⟩ := I.list ha
  obtain ⟨i2, r2, p2, z2⟩ := I.list hb
  have l1 := r1.length
  have l2 := r2.length
  by_cases hl : xs.length = ys.length
  · refine SeqAt.eq_listAt (e := fun i => eqV (xs.getD i .non) (ys.getD i .non)) p1.isList p2.isList (by simp; lia) (by lia) (fun j h1 h2 => ?_) ⟨.bl (eqVs xs ys), H, I, ?_, q⟩
    · simp only [List.size_toArray] at h1 h2
      have j1 : j < xs.length := by lia
      have j2 : j < ys.length := by lia
      obtain ⟨u1, e1, s1⟩ := r1.get (List.getElem?_eq_getElem j1)
      obtain ⟨u2, e2, s2⟩ := r2.get (List.getElem?_eq_getElem j2)
      rw [List.getElem?_eq_getElem h1] at e1
      rw [List.getElem?_eq_getElem h2] at e2
      cases e1
      cases e2
      have := eqAt_V (A := X.A.in1) (s := s) s1 s2 (List.all_eq_true.mp fx _ (List.getElem_mem j1)) (List.all_eq_true.mp fy _ (List.getElem_mem j2))
      simpa [List.getD, j1, j2] using this
    · show Value.bool _ = Value.bool _
      rw [eqVs_all hl, List.size_toArray, ← l1]
  · refine SeqAt.eq_list_lengthsAt p1.isList p2.isList (by simp; lia) (by lia) ⟨.bl (eqVs xs ys), H, I, ?_, q⟩
    rw [eqVs_ne hl]; rfl
end

theorem bt_len : bootBuiltins "len" = some (.builtin "len") := by decide +kernel
theorem bt_list : bootBuiltins "list" = some (.type "list") := by decide +kernel
theorem bt_isinstance : bootBuiltins "isinstance" = some (.builtin "isinstance") := by decide +kernel
theorem bt_sum : bootBuiltins "sum" = some (.builtin "sum") := by decide +kernel
theorem same_upd {H : Hp} {l : Addr} {o : HO} (h : H l = none) : Same H (upd H l o) := fun b u e => by
  rw [upd_ne (ne_of_none e h)]; exact e
end L2

set_option Elab.async false
set_option linter.all false
set_option maxRecDepth 100000
set_option maxHeartbeats 4000000
/-! Rules over the hand layer: != of lists, sum, list(range(..)), bit_length. Own work. -/
namespace L2
open PySem PySem.Spec PyProof.Rows SI
section
variable {X : Cx}
theorem preSum_list : ∀ (ns : List Int) (n : Nat), n ≤ ns.length → preSum (fun i => ns.getD i 0) n = (ns.take n).sum
  | ns, 0, _ => by simp [preSum]
  | ns, n + 1, h => by
    have hn : n < ns.length := by lia
    have e : ns.take (n + 1) = ns.take n ++ [ns[n]] := by rw [List.take_succ, List.getElem?_eq_getElem hn]; rfl
    rw [preSum, preSum_list ns n (by lia), e, List.sum_append]
    simp [List.getD, List.getElem?_eq_getElem hn]
/-- sum(a list of ints) -/
theorem call_sumI (hc : X.calm = true) : CallR X (.builtin "sum") (fun xs H Q => ∃ (p : Addr) (ns : List Int), xs = [.ref p] ∧ SqL X.K H p (ns.map V.int) ∧ Q (.int ns.sum) H) := by
  intro pins s σ H xs us Q I r h
  obtain ⟨p, ns, rfl, hq, q⟩ := h
  obtain ⟨u, rfl, rx⟩ := vals1 r
  cases rx
  obtain ⟨its, rv, pl, hz⟩ := I.list hq
  have hI := intsAre_of rv
  have hlen : ns.length = its.length := by have := rv.length; rw [List.length_map] at this; exact this
  have hp : p < s.heap.objs.size := by obtain ⟨o, ho, _⟩ := pl.isList; exact Heap.lt_size ho
  refine call_sum_walkAnyS (wpAny_pyIter_list pl.isList ?_)
  refine ⟨s.heap.objs.size, _, _, _, _, _, _, fun i => ns.getD i 0, rfl, (Walks.list (by simpa using I.ok.hd hc) s.heap.objs.size p (Nat.ne_of_lt hp) its.toArray).toS, ⟨⟨_, Heap.get?_push_size _ rfl, rfl, rfl⟩, pl.isList.push _⟩, fun b hb => ?_, fun i v hv => ?_, fun s' t' hm => ?_⟩
  · simp only [List.mem_cons, List.not_mem_nil, or_false] at hb
    show b < (s.heap.push _).objs.size
    rw [Heap.size_push]
    rcases hb with rfl | rfl
    · exact Nat.lt_succ_self _
    · exact Nat.lt_succ_of_lt hp
  · exact IntsAre.int_at hI i v (by simpa using hv)
  · have hf := I.fpOk (H' := H) (Nat.le_refl s.heap.objs.size) (I.hok.fresh (Nat.le_refl _))
    have I1 : Inv X pins σ H { s with heap := s'.heap, toks := s'.toks } := I.turned (t' := s'.toks) (it := s.heap.objs.size) (fun b o hb e => hm.heap b o (by simpa using hb) (Heap.get?_push_of_some _ e)) hf.1 hf.2.1 (.inr I.sz) hf.2.2.2.2.1 hf.2.2.2.2.2
    have es0 := Moved.eq_with hm
    have es : s' = { s with heap := s'.heap, toks := s'.toks } := es0
    rw [es]
    refine ⟨.int ns.sum, H, I1, ⟨t', ?_⟩, q⟩
    rw [List.size_toArray, ← hlen, preSum_list ns ns.length (Nat.le_refl _), List.take_length]
end
end L2

set_option Elab.async false
set_option linter.all false
set_option maxRecDepth 100000
set_option maxHeartbeats 4000000
/-! Rules over the hand layer: classes' functions, methods by class, pairs walked (enumerate, zip), tuples compared, is. Own work. -/
namespace L2
open PySem PySem.Spec PyProof.Rows SI
/-! ### records of an iterator that is more than one object -/
section
variable {X : Cx} {pins : List (Addr × Obj)} {σ : St} {H : Hp} {s : Shared} {h' : Heap}
theorem Inv.turnedL {ch : List Addr} {t' : Nat} (I : Inv X pins σ H s) (hch : ∀ b ∈ ch, FpOk X pins H b) (k : ∀ b u, b ∉ ch → s.heap.get? b = some u → h'.get? b = some u) : Inv X pins σ H { s with heap := h', toks := t' } := by
  have nit : ∀ b u, H b = some u → b ∉ ch := fun b u e z => by rw [(hch b z).1] at e; cases e
  refine I.step (g' := s.gens) (d' := s.drawn) (ch := ch) (fun b hb => ?_) (fun b o _ _ hc e _ => k b o hc e) (fun b o _ _ hc e _ => ⟨o.slots, k b o hc e⟩) (fun _ _ _ _ n => n)
    (fun b o hc e => ⟨o, k b o hc e⟩) (fun _ _ e => e) (fun _ _ _ e => e) (fun b ps e => ⟨#[], by rw [e]; simp⟩) (fun m hm => ?_) (fun b u e => ?_) I.bare
  · obtain ⟨f0, f1, f2, f3, f4, f5⟩ := hch b hb
    exact ⟨f3, f1, f4, f5⟩
  · obtain ⟨o, es, ep, ho, r⟩ := hm
    exact ⟨o, es, ep, k _ o (fun z => (hch _ z).2.1 rfl) ho, r⟩
  · refine (I.hok b u e).stay (fun c v hc q => k c v ?_ q) (fun _ q => q) fun _ _ q => q
    rcases hc with z | z
    · rw [z]; exact nit b u e
    · exact nit c _ z
end

/-! ### enumerate(a list), walked by a target of two -/
theorem bt_max : bootBuiltins "max" = some (.builtin "max") := by decide +kernel
theorem bt_str : bootBuiltins "str" = some (.type "str") := by decide +kernel
section
variable {X : Cx}
end

/-! ### zip(a list, a list), walked by a target of two -/
section
variable {X : Cx}
end
end L2

set_option Elab.async false
set_option linter.all false
set_option maxRecDepth 100000
set_option maxHeartbeats 4000000
/-! Rules over the hand layer: a class's function by the class, a method by the instance's class, max with a default, tuples compared, is, defs with defaults, comprehensions that make things. Own work. -/
namespace L2
open PySem PySem.Spec PyProof.Rows SI
/-! ### C.m(..) -/
structure ClsFn (K : PySem.W.Frag) (C : Addr) (m : Str) (f : Addr) : Prop where
  gt : PySem.W.specialIn K (.ref C) "__getattribute__" = some (some (.builtin "type.__getattribute__"))
  rd : PySem.W.readsIn K C (.type "type") = true
  fc : PySem.W.findCls K (.ref C) (.type "type") m = some (.val (.ref f))
  kp : PySem.W.keepIn K (.ref f) = true
section
variable {X : Cx} {CX : CXT} {k : Nat} {f C : Addr} {fd : FuncData} {ps : List Str} {sp : Sp} {dvs : List V} {ds : List Value} {E : XK} {x m : Str} {p pos apos : Pos} {e o : Expr} {es : List Expr} {ta : TE} {t : TA}
theorem pe_clsfn {pl : Sem Bool} (hg : Gl X x) (hm : X.mg x = some (.ref C)) (cf : ClsFn X.K C m f) (F : FnOk X.prog X.w X.K X.mg X.base CX k f fd ps sp) (hr : Room k X.A) (hb : Binds X.K fd ps ds) (hd : Vals dvs ds) (hx : Passes CX X E) (ha : PA X (e :: es) t)
    (hdb : (x == ("__debug__" : Str)) = false := by decide) (hst : starEach (e :: es) X.env = (false, eval e X.env) :: starEach es X.env := by rfl) (hpl : (backTo pos (starEach es X.env)).any (·.1) = false := by rfl)
    (ht : eval (.Call (.Attribute (.Name x p) m apos) (e :: es) [] pos) X.env = (do
      let ov ← eval (.Name x p) X.env
      standAt apos.atName
      let (f, first) ← holding [ov] (getMethod ov m pl)
      callWith pos f first (backTo pos (starEach (e :: es) X.env)) (backToKw pos (keywordEach [] X.env))) := by rfl) :
    PE X (.Call (.Attribute (.Name x p) m apos) (e :: es) [] pos) (tCall sp dvs E t) := by
  intro pins s σ H Q I h
  refine PySem.W.methodCall_KW (pl := pl) (ld_glob I hg hm ?_ hdb) ht
  refine PySem.W.method_cls I.kIn cf.gt (PySem.W.cls_value I.kIn cf.rd cf.fc rfl ?_)
  have I2 := I.tok (s.toks + 1)
  refine PySem.W.callWith_K (first := []) (h₀ := X.base) I.ok.mod.kin cf.kp (thn (ha pos pins _ σ H _ I2 h) ?_) hst hpl
  rintro us s2 ⟨vs, H2, I3, r, q⟩
  refine ⟨I3.kIn, ?_⟩
  exact run_fn F hr hb hd hx I3 r q

/-! ### o.m(..), by the class of o -/
end

/-! ### a def with defaults -/
structure FunD (K : PySem.W.Frag) (x qual : Str) (st : Stmt) (f : Addr) (fd : FuncData) (T : Addr) : Prop where
  ex : ∃ (oc : Value) (od : Option Addr) (kV doc pm : Value) (an : Option Addr) (cdv ct : Value) (osl : Array (Option Value)),
    fd = PySem.W.fnOf x qual (defArgs st) (defBody st) (defScope st) (.ref T) kV doc pm an cdv ct ∧ K.lookup f = some ⟨oc, od, .func fd, osl⟩ ∧ PySem.W.codeIn K cdv qual = true
  kp : PySem.W.keepIn K (.ref f) = true
section
variable {P : Program} {w : World} {K : PySem.W.Frag} {mg : Str → Option Value} {base : Heap}
theorem FunD.ok {x qual : Str} {st : Stmt} {f T : Addr} {fd : FuncData} {N ps : List Str} {k : Nat} {sp : Sp} (F : FunD K x qual st f fd T) (S : FnScope N ps (defScope st)) (len : ∀ vs H Q E, sp vs H Q E → vs.length = ps.length)
    (hbody : ∀ (cdv : Value) (A : Around) (outer : List Env) (s : Shared) (H : Hp) (vs : List V) (Q : VK) (E : XK), Room k (A.deeper (envOfC qual (defScope st) s.heap.objs.size f cdv)) → sp vs H Q E →
      ∃ t, PSs (cxOf CX0 P w K mg base N qual (defScope st) f cdv A outer s H E).nox (defBody st) t ∧ t { nx := fun _ H' => Q .non H', rt := Q } (start N vs) H) : FnOk P w K mg base CX0 (k + 1) f fd ps sp := by
  obtain ⟨oc, od, kV, doc, pm, an, cdv, ct, osl, rfl, lk, hcd⟩ := F.ex
  refine fn_of lk hcd S len fun A outer s H vs Q E hr hsp => ?_
  obtain ⟨t, h, q⟩ := hbody cdv A outer s H vs Q E hr hsp
  exact ⟨t, h.nox, q⟩
theorem fund_mk {x qual : Str} {st : Stmt} {f T : Addr} {oc : Value} {od an : Option Addr} {osl : Array (Option Value)} {kV doc pm cdv ct : Value} (l : K.lookup f = some ⟨oc, od, .func (PySem.W.fnOf x qual (defArgs st) (defBody st) (defScope st) (.ref T) kV doc pm an cdv ct), osl⟩)
    (c : PySem.W.codeIn K cdv qual = true) (k : PySem.W.keepIn K (.ref f) = true) : FunD K x qual st f (PySem.W.fnOf x qual (defArgs st) (defBody st) (defScope st) (.ref T) kV doc pm an cdv ct) T := ⟨⟨oc, od, kV, doc, pm, an, cdv, ct, osl, rfl, l, c⟩, k⟩
end

/-! ### max(a list of ints, default = d) -/
def maxI : List Int → Int → Int
  | [], d => d
  | z :: r, _ => r.foldl (fun a b => if b > a then b else a) z
theorem ints_cons {vs : List Value} {n : Int} {ns : List Int} (h : IntsAre vs (n :: ns)) : ∃ t vs', vs = .int n t :: vs' ∧ IntsAre vs' ns := by
  cases h with
  | cons _ t q => exact ⟨t, _, rfl, q⟩
section
variable {prog : Program} {w : World} {A : Around} {R : Result → Shared → Prop}
theorem maxD_loop {I l : Addr} {d : Value} {its : List Value} (hh : A.handled = none) (hIl : I ≠ l) (S : Addr) (hSI : S ≠ I) (hSl : S ≠ l) :
    ∀ (ns : List Int) (j : Nat) (s : Shared) (best : Int) (tb : Tok) (c : Nat), IntsAre (its.drop (j + 1)) ns → j + 1 + ns.length = its.length →
    s.heap.IsListIter I l (j + 1) → s.heap.IsList l its.toArray → s.heap.get? S = some { cls := .type "list", dict := none, data := .seq #[.int best tb, .int best tb] c, slots := #[] } →
    (∀ t h' tk, (∀ b o, b ≠ I → b ≠ S → s.heap.get? b = some o → h'.get? b = some o) → R (.ok (.ret (.int (ns.foldl (fun a b => if b > a then b else a) best) t))) { s with heap := h', toks := tk }) →
    codeAny (model prog w) A (.builtin "max.loop" ⟨[.ref I, .none, .ref S], [("default", d)]⟩) R s := by
  have hname : (toString "max" ++ toString ".loop" : String) = "max.loop" := by decide
  intro ns
  induction ns with
  | nil =>
    intro j s best tb c hI hlen hit hl hS hR
    refine codeAny_builtin F.entry_max_loop ?_
    rw [Around.under_plainId F.plain_max_loop _]
    show wpAny _ A.in1 (seqItems? (.ref S) >>= _) _ _ s
    refine wpAny_bind (wpAny_seqItems hS rfl ?_)
    show wpAny _ A.in1 (tryCatch (pyNext (.ref I)) _ >>= _) _ _ s
    refine wpAny_bind (wpAny_tryCatch (wpAny_pyNext_list_end hh hit hl (by simp at hlen ⊢; lia) fun h' he => ?_))
    have hS' := he S _ hSI hS
    show wpAny _ A.in1 (updateSeq S (fun _ => #[]) >>= _) _ _ _
    refine wpAny_bind (wpAny_updateSeq hS' rfl (wpAny_bind (wpAny_letGo (wpAny_pure ?_))))
    exact hR tb _ s.toks fun b o n1 n2 e => (Heap.get?_update_other _ _ (Ne.symm n2)).trans (he b o n1 e)
  | cons z r ih =>
    intro j s best tb c hI hlen hit hl hS hR
    have hlt : j + 1 < its.length := by simp at hlen; lia
    obtain ⟨t, hz, hI'⟩ : ∃ t, its[j + 1]? = some (.int z t) ∧ IntsAre (its.drop (j + 2)) r := by
      obtain ⟨t, vs', e, q⟩ := ints_cons hI
      refine ⟨t, ?_, ?_⟩
      · have e0 : its[j + 1]? = (its.drop (j + 1))[0]? := by rw [List.getElem?_drop]
        rw [e0, e]; rfl
      · have e1 : its.drop (j + 2) = (its.drop (j + 1)).drop 1 := by rw [List.drop_drop]
        rw [e1, e]; exact q
    refine codeAny_builtin F.entry_max_loop ?_
    rw [Around.under_plainId F.plain_max_loop _]
    show wpAny _ A.in1 (seqItems? (.ref S) >>= _) _ _ s
    refine wpAny_bind (wpAny_seqItems hS rfl ?_)
    show wpAny _ A.in1 (tryCatch (pyNext (.ref I)) _ >>= _) _ _ s
    refine wpAny_bind (wpAny_tryCatch (wpAny_pyNext_list_item hit hl (x := .int z t) (by simpa using hz) fun h' hit' hs' => ?_))
    have hS' := hs'.extBut S _ hSI hS
    show wpAny _ A.in1 (tryCatch (holding [.int z t, .int z t] (richCompare .Gt (.int z t) (.int best tb) >>= _)) _ >>= _) _ _ _
    refine wpAny_bind (wpAny_tryCatch (wpAny_holding (wpAny_bind ?_)))
    refine (PyProof.Rows.gt_int ?_ : wpAny (model prog w) _ (compareOp .Gt (.int z t) (.int best tb)) _ _ _)
    refine wpAny_bind (wpAny_holding (wpAny_truthy_bool ?_))
    refine wpAny_bind (wpAny_letGo (wpAny_pure ?_))
    by_cases hb : best < z
    · rw [decide_eq_true hb]
      simp only [if_true]
      refine wpAny_bind (wpAny_updateSeq hS' rfl (wpAny_bind (wpAny_letGo ?_)))
      rw [hname]
      have e1 : List.foldl (fun a b : Int => if b > a then b else a) best (z :: r) = List.foldl (fun a b => if b > a then b else a) z r := by
        rw [List.foldl_cons, if_pos hb]
      rw [e1] at hR
      refine wpAny_pure ⟨plainId_quiet F.plain_max_loop _, ih (j + 1) _ z t _ hI' (by simp at hlen; lia) ?_ ?_ (Heap.get?_update_self _ hS' rfl) fun t' h2 tk hk => ?_⟩
      · obtain ⟨o, ho, q⟩ := hit'
        exact ⟨o, (Heap.get?_update_other _ _ hSI).trans ho, q⟩
      · obtain ⟨o, ho, q⟩ := hl
        exact ⟨o, (Heap.get?_update_other _ _ hSl).trans (hs'.extBut l o (Ne.symm hIl) ho), q⟩
      · exact hR t' h2 tk fun b o n1 n2 e => hk b o n1 n2 ((Heap.get?_update_other _ _ (Ne.symm n2)).trans (hs'.extBut b o n1 e))
    · rw [decide_eq_false hb]
      simp only [Bool.false_eq_true, if_false]
      refine wpAny_bind (wpAny_letGo ?_)
      rw [hname]
      have e1 : List.foldl (fun a b : Int => if b > a then b else a) best (z :: r) = List.foldl (fun a b => if b > a then b else a) best r := by
        rw [List.foldl_cons, if_neg hb]
      rw [e1] at hR
      refine wpAny_pure ⟨plainId_quiet F.plain_max_loop _, ih (j + 1) _ best tb c hI' (by simp at hlen; lia) hit' ?_ hS' fun t' h2 tk hk => ?_⟩
      · obtain ⟨o, ho, q⟩ := hl
        exact ⟨o, hs'.extBut l o (Ne.symm hIl) ho, q⟩
      · exact hR t' h2 tk fun b o n1 n2 e => hk b o n1 n2 (hs'.extBut b o n1 e)
theorem maxD_first {I l : Addr} {d : Value} {its : List Value} (hh : A.handled = none) (hIl : I ≠ l) (S : Addr) (hSI : S ≠ I) (hSl : S ≠ l) {ns : List Int} {s : Shared} {c : Nat} {di : Int} {dt : Tok} (hd : d = .int di dt) (hI : IntsAre its ns)
    (hit : s.heap.IsListIter I l 0) (hl : s.heap.IsList l its.toArray) (hS : s.heap.get? S = some { cls := .type "list", dict := none, data := .seq #[] c, slots := #[] })
    (hR : ∀ t h' tk, (∀ b o, b ≠ I → b ≠ S → s.heap.get? b = some o → h'.get? b = some o) → R (.ok (.ret (.int (maxI ns di) t))) { s with heap := h', toks := tk }) :
    codeAny (model prog w) A (.builtin "max.loop" ⟨[.ref I, .none, .ref S], [("default", d)]⟩) R s := by
  have hname : (toString "max" ++ toString ".loop" : String) = "max.loop" := by decide
  refine codeAny_builtin F.entry_max_loop ?_
  rw [Around.under_plainId F.plain_max_loop _]
  show wpAny _ A.in1 (seqItems? (.ref S) >>= _) _ _ s
  refine wpAny_bind (wpAny_seqItems hS rfl ?_)
  show wpAny _ A.in1 (tryCatch (pyNext (.ref I)) _ >>= _) _ _ s
  cases hI with
  | nil =>
    refine wpAny_bind (wpAny_tryCatch (wpAny_pyNext_list_end hh hit hl (by simp) fun h' he => ?_))
    refine wpAny_bind (wpAny_rule (wpAny_pure ?_))
    subst hd
    exact hR dt _ s.toks fun b o n1 n2 e => he b o n1 e
  | @cons z t vs r hI =>
    refine wpAny_bind (wpAny_tryCatch (wpAny_pyNext_list_item hit hl (x := .int z t) (by simp) fun h' hit' hs' => ?_))
    have hS' := hs'.extBut S _ hSI hS
    show wpAny _ A.in1 (updateSeq S (fun _ => #[.int z t, .int z t]) >>= _) _ _ _
    refine wpAny_bind (wpAny_updateSeq hS' rfl ?_)
    rw [hname]
    refine wpAny_pure ⟨plainId_quiet F.plain_max_loop _, maxD_loop (its := .int z t :: vs) hh hIl S hSI hSl r 0 _ z t _ (by simpa using hI) (by simp [hI.length]; lia) ?_ ?_ (Heap.get?_update_self _ hS' rfl) fun t' h2 tk hk => ?_⟩
    · obtain ⟨o, ho, q⟩ := hit'
      exact ⟨o, (Heap.get?_update_other _ _ hSI).trans ho, q⟩
    · obtain ⟨o, ho, q⟩ := hl
      exact ⟨o, (Heap.get?_update_other _ _ hSl).trans (hs'.extBut l o (Ne.symm hIl) ho), q⟩
    · exact hR t' h2 tk fun b o n1 n2 e => hk b o n1 n2 ((Heap.get?_update_other _ _ (Ne.symm n2)).trans (hs'.extBut b o n1 e))
end
end L2

set_option Elab.async false
set_option linter.all false
set_option maxRecDepth 100000
set_option maxHeartbeats 4000000
/-! Trees, as the program keeps them, and as plain data. Own work. -/
namespace TR
open PySem L2
inductive Tr where
  | word (n : Str) (at' : Int) (b : Nat)
  | fig (z at' : Int)
  | row (ps : List Tr) (at' : Int)
mutual
def many : Tr → Nat
  | .word _ _ _ => 1
  | .fig _ _ => 1
  | .row ps _ => 1 + manys ps
def manys : List Tr → Nat
  | [] => 0
  | p :: r => many p + manys r
end
mutual
def deep : Tr → Nat
  | .word _ _ _ => 0
  | .fig _ _ => 0
  | .row ps _ => deeps ps + 1
def deeps : List Tr → Nat
  | [] => 0
  | p :: r => max (deep p) (deeps r)
end
mutual
def addb (m : Nat) : Tr → Tr
  | .word n a b => .word n a (b ||| m)
  | .fig z a => .fig z a
  | .row ps a => .row (addbs m ps) a
def addbs (m : Nat) : List Tr → List Tr
  | [] => []
  | p :: r => addb m p :: addbs m r
end
theorem deep_le_of_mem {t : Tr} : ∀ {ts : List Tr}, t ∈ ts → deep t ≤ deeps ts
  | p :: r, h => by
    rcases List.mem_cons.mp h with rfl | h
    · simp only [deeps]; lia
    · have := deep_le_of_mem h; simp only [deeps]; lia

/-- the classes -/
structure C4 where
  T : Addr
  W : Addr
  F : Addr
  R : Addr
def f3 (a m d : Int) : List (Str × V) := [("at", .int a), ("many", .int m), ("deep", .int d)]
def fW (n : Str) (a : Int) (b : Nat) : List (Str × V) := [("at", .int a), ("many", .int 1), ("deep", .int 0), ("name", .str n), ("bits", .int b)]
def fF (z a : Int) : List (Str × V) := [("at", .int a), ("many", .int 1), ("deep", .int 0), ("number", .int z)]
def fR (l : Addr) (m d : Nat) (a : Int) : List (Str × V) := [("at", .int a), ("many", .int m), ("deep", .int d), ("parts", .ref l)]
theorem putF_ne {f g : Str} {v w : V} {r : List (Str × V)} (h : g ≠ f) : putF f v ((g, w) :: r) = (g, w) :: putF f v r := by
  show (if g = f then _ else _) = _
  rw [if_neg h]
theorem putF_nil {f : Str} {v : V} : putF f v [] = [(f, v)] := rfl
theorem put_many {a m : Int} : putF "many" (.int m) ([("at", .int a)] : List (Str × V)) = ([("at", .int a), ("many", .int m)] : List (Str × V)) := by
  rw [putF_ne (by decide +kernel), putF_nil]
theorem put_deep {a m d : Int} : putF "deep" (.int d) ([("at", .int a), ("many", .int m)] : List (Str × V)) = f3 a m d := by
  rw [putF_ne (by decide +kernel), putF_ne (by decide +kernel), putF_nil]; rfl
theorem put_x {a m d : Int} {f : Str} {v : V} (h1 : ("at" : Str) ≠ f) (h2 : ("many" : Str) ≠ f) (h3 : ("deep" : Str) ≠ f) : putF f v (f3 a m d) = ([("at", .int a), ("many", .int m), ("deep", .int d), (f, v)] : List (Str × V)) := by
  unfold f3
  rw [putF_ne h1, putF_ne h2, putF_ne h3, putF_nil]
theorem put_bits {n : Str} {a : Int} {b : Nat} : putF "bits" (.int b) ([("at", .int a), ("many", .int 1), ("deep", .int 0), ("name", .str n)] : List (Str × V)) = fW n a b := by
  rw [putF_ne (by decide +kernel), putF_ne (by decide +kernel), putF_ne (by decide +kernel), putF_ne (by decide +kernel), putF_nil]; rfl

mutual
/-- the tree stands at v, all its objects at addresses that are N -/
def TrIn (c : C4) (N : Addr → Prop) (H : Hp) : Tr → V → Prop
  | .word n a b, v => ∃ p dx, v = .ref p ∧ N p ∧ H p = some (.ins c.W dx (fW n a b))
  | .fig z a, v => ∃ p dx, v = .ref p ∧ N p ∧ H p = some (.ins c.F dx (fF z a))
  | .row ps a, v => ∃ p dx l vs, v = .ref p ∧ N p ∧ H p = some (.ins c.R dx (fR l (1 + manys ps) (deeps ps + 1) a)) ∧ N l ∧ H l = some (.lst vs) ∧ ps.length ≤ 1000 ∧ TrsIn c N H ps vs
def TrsIn (c : C4) (N : Addr → Prop) (H : Hp) : List Tr → List V → Prop
  | [], vs => vs = []
  | p :: r, vs => ∃ v ws, vs = v :: ws ∧ TrIn c N H p v ∧ TrsIn c N H r ws
end
mutual
theorem TrIn.mono {c : C4} {N N' : Addr → Prop} {H H' : Hp} (h : ∀ b o, N b → H b = some o → N' b ∧ H' b = some o) : ∀ {t : Tr} {v : V}, TrIn c N H t v → TrIn c N' H' t v
  | .word n a b, v, x => by
    simp only [TrIn] at x ⊢
    obtain ⟨p, dx, e, np, hp⟩ := x
    exact ⟨p, dx, e, (h p _ np hp).1, (h p _ np hp).2⟩
  | .fig z a, v, x => by
    simp only [TrIn] at x ⊢
    obtain ⟨p, dx, e, np, hp⟩ := x
    exact ⟨p, dx, e, (h p _ np hp).1, (h p _ np hp).2⟩
  | .row ps a, v, x => by
    simp only [TrIn] at x ⊢
    obtain ⟨p, dx, l, vs, e, np, hp, nl, hl, le, r⟩ := x
    exact ⟨p, dx, l, vs, e, (h p _ np hp).1, (h p _ np hp).2, (h l _ nl hl).1, (h l _ nl hl).2, le, TrsIn.mono h r⟩
theorem TrsIn.mono {c : C4} {N N' : Addr → Prop} {H H' : Hp} (h : ∀ b o, N b → H b = some o → N' b ∧ H' b = some o) : ∀ {ts : List Tr} {vs : List V}, TrsIn c N H ts vs → TrsIn c N' H' ts vs
  | [], vs, x => by simp only [TrsIn] at x ⊢; exact x
  | p :: r, vs, x => by
    simp only [TrsIn] at x ⊢
    obtain ⟨v, ws, e, y, z⟩ := x
    exact ⟨v, ws, e, TrIn.mono h y, TrsIn.mono h z⟩
end
theorem TrsIn.length {c : C4} {N : Addr → Prop} {H : Hp} : ∀ {ts : List Tr} {vs : List V}, TrsIn c N H ts vs → vs.length = ts.length
  | [], vs, x => by simp only [TrsIn] at x; rw [x]; rfl
  | p :: r, vs, x => by
    simp only [TrsIn] at x
    obtain ⟨v, ws, e, y, z⟩ := x
    rw [e, List.length_cons, List.length_cons, TrsIn.length z]
theorem TrsIn.get {c : C4} {N : Addr → Prop} {H : Hp} : ∀ {ts : List Tr} {vs : List V} {i : Nat} {v : V}, TrsIn c N H ts vs → vs[i]? = some v → ∃ t, ts[i]? = some t ∧ TrIn c N H t v
  | [], vs, i, v, x, e => by simp only [TrsIn] at x; rw [x] at e; simp at e
  | p :: r, vs, i, v, x, e => by
    simp only [TrsIn] at x
    obtain ⟨u, ws, ev, y, z⟩ := x
    subst ev
    cases i with
    | zero => simp at e; subst e; exact ⟨p, rfl, y⟩
    | succ i =>
      obtain ⟨t, et, q⟩ := TrsIn.get z (i := i) (v := v) (by simpa using e)
      exact ⟨t, by simpa using et, q⟩
theorem TrsIn.snoc {c : C4} {N : Addr → Prop} {H : Hp} {t : Tr} {v : V} (y : TrIn c N H t v) : ∀ {ts : List Tr} {vs : List V}, TrsIn c N H ts vs → TrsIn c N H (ts ++ [t]) (vs ++ [v])
  | [], vs, x => by simp only [TrsIn] at x; subst x; simp only [List.nil_append, TrsIn]; exact ⟨v, [], rfl, y, rfl⟩
  | p :: r, vs, x => by
    simp only [TrsIn] at x
    obtain ⟨u, ws, ev, y', z⟩ := x
    subst ev
    simp only [List.cons_append, TrsIn]
    exact ⟨u, ws ++ [v], rfl, y', TrsIn.snoc y z⟩
mutual
/-- the plan of a tree (tuples and lists), as the laws keep one -/
def PlIn (N : Addr → Prop) (H : Hp) : Tr → V → Prop
  | .word n a b, v => ∃ p, v = .ref p ∧ N p ∧ H p = some (.tup [.str "word", .str n, .int a, .int b])
  | .fig z a, v => ∃ p, v = .ref p ∧ N p ∧ H p = some (.tup [.str "figure", .int z, .int a])
  | .row ps a, v => ∃ p l vs, v = .ref p ∧ N p ∧ H p = some (.tup [.str "row", .ref l, .int a]) ∧ N l ∧ H l = some (.lst vs) ∧ ps.length ≤ 1000 ∧ PlsIn N H ps vs
def PlsIn (N : Addr → Prop) (H : Hp) : List Tr → List V → Prop
  | [], vs => vs = []
  | p :: r, vs => ∃ v ws, vs = v :: ws ∧ PlIn N H p v ∧ PlsIn N H r ws
end
def All : Addr → Prop := fun _ => True
theorem TrIn.same {c : C4} {N : Addr → Prop} {H H' : Hp} {t : Tr} {v : V} (x : TrIn c N H t v) (s : Same H H') : TrIn c N H' t v := x.mono fun b o n e => ⟨n, s b o e⟩
theorem TrIn.all {c : C4} {N : Addr → Prop} {H : Hp} {t : Tr} {v : V} (x : TrIn c N H t v) : TrIn c All H t v := x.mono fun b o _ e => ⟨trivial, e⟩
end TR

set_option Elab.async false
set_option linter.all false
set_option maxRecDepth 100000
namespace L2
open PySem PySem.Spec PyProof.Rows

/-! ### lists of pairs as tables -/
section
variable {κ : Type} [DecidableEq κ]
def valV (kvs : List (κ × V)) (k : κ) : Option V := (kvs.find? fun kv => decide (kv.1 = k)).map (·.2)
/-- in its place, or at the end -/
def putK (kvs : List (κ × V)) (k : κ) (v : V) : List (κ × V) :=
  if (kvs.any fun kv => decide (kv.1 = k)) = true then kvs.map (fun kv => if kv.1 = k then (kv.1, v) else kv) else kvs ++ [(k, v)]

theorem valV_nil {k : κ} : valV ([] : List (κ × V)) k = none := rfl
theorem valV_pos {p : κ × V} {r : List (κ × V)} {k : κ} (e : p.1 = k) : valV (p :: r) k = some p.2 := by simp [valV, List.find?_cons, e]
theorem valV_neg {p : κ × V} {r : List (κ × V)} {k : κ} (e : ¬ p.1 = k) : valV (p :: r) k = valV r k := by simp [valV, List.find?_cons, e]
theorem valV_any (k : κ) : ∀ kvs : List (κ × V), (kvs.any fun kv => decide (kv.1 = k)) = (valV kvs k).isSome
  | [] => rfl
  | p :: r => by
    rw [List.any_cons]
    by_cases e : p.1 = k
    · simp only [valV_pos e, decide_eq_true e, Bool.true_or, Option.isSome_some]
    · rw [valV_neg e, decide_eq_false e, Bool.false_or]; exact valV_any k r
theorem valV_map (k j : κ) (y : V) : ∀ kvs : List (κ × V), valV (kvs.map fun kv => if kv.1 = k then (kv.1, y) else kv) j = (valV kvs j).map fun x => if j = k then y else x
  | [] => rfl
  | p :: r => by
    have ih := valV_map k j y r
    rw [List.map_cons]
    by_cases h : p.1 = k
    · rw [if_pos h]
      by_cases e : p.1 = j
      · rw [valV_pos (p := (p.1, y)) e, valV_pos e, Option.map_some, if_pos (e.symm.trans h)]
      · rw [valV_neg (p := (p.1, y)) e, valV_neg e, ih]
    · rw [if_neg h]
      by_cases e : p.1 = j
      · rw [valV_pos (p := p) e, valV_pos e, Option.map_some, if_neg (fun z => h (e.trans z))]
      · rw [valV_neg (p := p) e, valV_neg e, ih]
theorem valV_snoc (k j : κ) (y : V) : ∀ kvs : List (κ × V), valV kvs k = none → valV (kvs ++ [(k, y)]) j = if j = k then some y else valV kvs j
  | [], _ => by
    by_cases e : k = j
    · rw [if_pos e.symm]; exact valV_pos (p := (k, y)) e
    · rw [if_neg (fun z => e z.symm)]; exact valV_neg (p := (k, y)) e
  | p :: r, hn => by
    rw [List.cons_append]
    have hk : ¬ p.1 = k := fun z => by rw [valV_pos z] at hn; cases hn
    rw [valV_neg hk] at hn
    have ih := valV_snoc k j y r hn
    by_cases e : p.1 = j
    · rw [valV_pos e, valV_pos e, if_neg (fun z => hk (e.trans z))]
    · rw [valV_neg e, valV_neg e, ih]
theorem valV_put (kvs : List (κ × V)) (k j : κ) (y : V) : valV (putK kvs k y) j = if j = k then some y else valV kvs j := by
  unfold putK
  by_cases a : (kvs.any fun kv => decide (kv.1 = k)) = true
  · rw [if_pos a, valV_map]
    rw [valV_any] at a
    by_cases e : j = k
    · obtain ⟨x, hx⟩ := Option.isSome_iff_exists.mp a
      rw [if_pos e, e, hx, Option.map_some, if_pos rfl]
    · rw [if_neg e]
      cases valV kvs j with
      | none => rfl
      | some x => rw [Option.map_some, if_neg e]
  · rw [if_neg a]
    refine valV_snoc k j y kvs ?_
    rw [valV_any] at a
    cases q : valV kvs k with
    | none => rfl
    | some x => rw [q] at a; exact (a rfl).elim
theorem length_putK (kvs : List (κ × V)) (k : κ) (v : V) : (putK kvs k v).length ≤ kvs.length + 1 := by
  unfold putK
  split
  · rw [List.length_map]; lia
  · rw [List.length_append, List.length_cons, List.length_nil]; lia

theorem RelO.isSome_eq {o : Option V} {u : Option Value} (r : RelO o u) : o.isSome = u.isSome := by
  cases o with
  | none => cases u with
    | none => rfl
    | some _ => exact (show False from r).elim
  | some _ => cases u with
    | none => exact (show False from r).elim
    | some _ => rfl
theorem RelO.getD {o : Option V} {u : Option Value} {d : V} {d' : Value} (r : RelO o u) (rd : RelV d d') : RelV (o.getD d) (u.getD d') := by
  cases o with
  | none => cases u with
    | none => exact rd
    | some _ => exact (show False from r).elim
  | some _ => cases u with
    | none => exact (show False from r).elim
    | some _ => exact r

/-- raw tables of the same keys -/
theorem KV.val {kvs : List (κ × V)} {vs : List (κ × Value)} (r : KV kvs vs) (k : κ) : RelO (valV kvs k) (valueAt vs k) := by
  unfold KV at r
  induction r with
  | nil => exact True.intro
  | @cons p q ps qs h t ih =>
    obtain ⟨h1, h2⟩ := h
    by_cases e : p.1 = k
    · have e' : q.1 = k := h1.symm.trans e
      have b : valueAt (q :: qs) k = some q.2 := by simp [valueAt, List.find?_cons, e']
      rw [valV_pos e, b]; exact h2
    · have e' : ¬ q.1 = k := fun z => e (h1.trans z)
      have b : valueAt (q :: qs) k = valueAt qs k := by simp [valueAt, List.find?_cons, e']
      rw [valV_neg e, b]; exact ih
theorem KV.any {kvs : List (κ × V)} {vs : List (κ × Value)} (r : KV kvs vs) (k : κ) : (kvs.any fun kv => decide (kv.1 = k)) = vs.any fun kv => decide (kv.1 = k) := by
  unfold KV at r
  induction r with
  | nil => rfl
  | cons h t ih => rw [List.any_cons, List.any_cons, ih, h.1]
theorem KV.repl {kvs : List (κ × V)} {vs : List (κ × Value)} (r : KV kvs vs) (k : κ) {y : V} {u : Value} (ry : RelV y u) :
    KV (kvs.map fun kv => if kv.1 = k then (kv.1, y) else kv) (vs.map fun kv => if kv.1 = k then (kv.1, u) else kv) := by
  unfold KV at r ⊢
  induction r with
  | nil => exact .nil
  | @cons p q ps qs h t ih =>
    rw [List.map_cons, List.map_cons]
    refine .cons ?_ ih
    obtain ⟨h1, h2⟩ := h
    by_cases e : p.1 = k
    · rw [if_pos e, if_pos (h1.symm.trans e)]; exact ⟨h1, ry⟩
    · rw [if_neg e, if_neg (fun z => e (h1.trans z))]; exact ⟨h1, h2⟩
theorem KV.put {kvs : List (κ × V)} {vs : List (κ × Value)} (r : KV kvs vs) (k : κ) {y : V} {u : Value} (ry : RelV y u) : KV (putK kvs k y) (stored vs k u) := by
  unfold putK stored
  rw [r.any k]
  by_cases e : (vs.any fun kv => decide (kv.1 = k)) = true
  · rw [if_pos e, if_pos e]; exact r.repl k ry
  · rw [if_neg e, if_neg e]; exact Paired.snoc r ⟨rfl, ry⟩
theorem KV.length {kvs : List (κ × V)} {vs : List (κ × Value)} (r : KV kvs vs) : kvs.length = vs.length := Paired.length r
end


/-! ### a tracked dict, its keys ints and texts or tuples of these -/
theorem kV_is {P : Program} {w : World} {k : Key} {u : Value} (r : RelV (kV k) u) : (mixKind P w).is k u = true := by
  rcases k with (_ | i) | x
  · cases (show u = Value.none from r); exact mixKind_none P w
  · obtain ⟨t, e⟩ := (show ∃ t, u = Value.int i t from r); subst e; exact mixKind_int P w i t
  · obtain ⟨t, e⟩ := (show ∃ t, u = Value.str x t from r); subst e; exact mixKind_str P w x t
theorem items_are {P : Program} {w : World} : ∀ {ks : List Key} {us : List Value}, Vals (ks.map kV) us → ItemsAre (mixKind P w) ks us
  | [], _, r => by rw [List.map_nil] at r; cases r; exact .nil
  | k :: ks, _, r => by
    rw [List.map_cons] at r
    cases r with
    | cons h t => exact .cons (kV_is h) (items_are t)

/-- raw entries of a dict with tuple keys -/
abbrev KT (H : Hp) : List (List Key × V) → List (List Key × Addr × Value) → Prop := Paired fun p q => p.1 = q.1 ∧ H q.2.1 = some (.tup (p.1.map kV)) ∧ RelV p.2 q.2.2
theorem KT.val {H : Hp} {kvs : List (List Key × V)} {xs : List (List Key × Addr × Value)} (r : KT H kvs xs) (k : List Key) : RelO (valV kvs k) ((atKey xs k).map (·.2)) := by
  induction r with
  | nil => exact True.intro
  | @cons p q ps qs h t ih =>
    obtain ⟨h1, _, h2⟩ := h
    by_cases e : p.1 = k
    · have e' : q.1 = k := h1.symm.trans e
      have b : atKey (q :: qs) k = some q.2 := by simp [atKey, List.find?_cons, e']
      rw [valV_pos e, b]; exact h2
    · have e' : ¬ q.1 = k := fun z => e (h1.trans z)
      have b : atKey (q :: qs) k = atKey qs k := by simp [atKey, List.find?_cons, e']
      rw [valV_neg e, b]; exact ih
theorem KT.repl {H : Hp} {kvs : List (List Key × V)} {xs : List (List Key × Addr × Value)} (r : KT H kvs xs) (k : List Key) {y : V} {u : Value} (ry : RelV y u) :
    KT H (kvs.map fun kv => if kv.1 = k then (kv.1, y) else kv) (xs.map (putAt k u)) := by
  induction r with
  | nil => exact .nil
  | @cons p q ps qs h t ih =>
    rw [List.map_cons, List.map_cons]
    refine .cons ?_ ih
    obtain ⟨h1, h2, h3⟩ := h
    unfold putAt
    by_cases e : p.1 = k
    · rw [if_pos e, if_pos (h1.symm.trans e)]; exact ⟨h1, h2, ry⟩
    · rw [if_neg e, if_neg (fun z => e (h1.trans z))]; exact ⟨h1, h2, h3⟩
theorem KT.put {H : Hp} {kvs : List (List Key × V)} {xs : List (List Key × Addr × Value)} (r : KT H kvs xs) (k : List Key) {b : Addr} {y : V} {u : Value} (hb : H b = some (.tup (k.map kV))) (ry : RelV y u) :
    KT H (putK kvs k y) (storedH xs k b u) := by
  have e : (kvs.any fun kv => decide (kv.1 = k)) = (atKey xs k).isSome := by
    rw [valV_any, (r.val k).isSome_eq, Option.isSome_map]
  unfold putK storedH
  rw [e]
  by_cases q : (atKey xs k).isSome = true
  · rw [if_pos q, if_pos q]; exact r.repl k ry
  · rw [if_neg q, if_neg q]; exact Paired.snoc r ⟨rfl, hb, ry⟩
theorem KT.keeps {H H' : Hp} {kvs : List (List Key × V)} {xs : List (List Key × Addr × Value)} (r : KT H kvs xs) (ht : ∀ b ys, H b = some (.tup ys) → H' b = some (.tup ys)) : KT H' kvs xs :=
  Paired.mapP r fun _ _ z => ⟨z.1, ht _ _ z.2.1, z.2.2⟩

section
variable {P : Program} {w : World} {H : Hp} {h : Heap} {a : Addr}
theorem rd_of {u : HO} (ok : HOk P w H h) (e : Rd H a u) : ObjOk P w H h a u := e.ok ok
theorem dk_rd {kvs : List (Key × V)} (ok : HOk P w H h) (e : Rd H a (.dK kvs)) : kvs.length ≤ sizeLine ∧ (a == sysModules) = false ∧ ∃ vs, KV kvs vs ∧ h.DictOf (mixKind P w) a vs :=
  show ObjOk P w H h a (.dK kvs) from rd_of ok e
theorem dk_of {kvs : List (Key × V)} (ok : HOk P w H h) (e : H a = some (.dK kvs)) : kvs.length ≤ sizeLine ∧ (a == sysModules) = false ∧ ∃ vs, KV kvs vs ∧ h.DictOf (mixKind P w) a vs := dk_rd ok (.inl e)
/-- a tracked tuple of ints and texts is a key -/
theorem key_of {ks : List Key} (ok : HOk P w H h) (e : H a = some (.tup (ks.map kV))) : (tupleKind (mixKind P w)).is h ks a := by
  obtain ⟨_, its, r, o, h1, h2, ⟨n, h3⟩, _⟩ := (show ObjOk P w H h a (.tup (ks.map kV)) from ok a _ e)
  exact ⟨o, its.toArray, n, h1, h2, h3, by simpa using items_are r⟩
theorem dt_rd {kvs : List (List Key × V)} (ok : HOk P w H h) (e : Rd H a (.dT kvs)) : kvs.length ≤ sizeLine ∧ (a == sysModules) = false ∧
    ∃ xs, KT H kvs xs ∧ h.DictOfH (tupleKind (mixKind P w)) a xs := by
  obtain ⟨z, y, xs, r, o, es, ep, h1, h2, h3, h4, h5⟩ := (show ObjOk P w H h a (.dT kvs) from rd_of ok e)
  refine ⟨z, y, xs, r, o, es, ep, h1, h2, h3, h4, fun x hx => ?_, h5⟩
  have all : ∀ {l : List (List Key × V)} {m : List (List Key × Addr × Value)}, KT H l m → ∀ x ∈ m, (tupleKind (mixKind P w)).is h x.1 x.2.1 := by
    intro l m q
    induction q with
    | nil => intro x hx; exact nomatch hx
    | @cons p q ps qs hq t ih =>
      intro x hx
      rcases List.mem_cons.mp hx with e | hx
      · subst e
        exact key_of ok (by rw [← hq.1]; exact hq.2.1)
      · exact ih x hx
  exact all r x hx
theorem dt_of {kvs : List (List Key × V)} (ok : HOk P w H h) (e : H a = some (.dT kvs)) : kvs.length ≤ sizeLine ∧ (a == sysModules) = false ∧
    ∃ xs, KT H kvs xs ∧ h.DictOfH (tupleKind (mixKind P w)) a xs := dt_rd ok (.inl e)
end

/-- what the dict at a holds at the key y -/
def DGet (H : Hp) (a : Addr) (y : V) (r : Option V) : Prop :=
  (∃ kvs k, Rd H a (.dK kvs) ∧ y = kV k ∧ r = valV kvs k) ∨ ∃ kvs k b, Rd H a (.dT kvs) ∧ y = .ref b ∧ H b = some (.tup (k.map kV)) ∧ r = valV kvs k
/-- the heap behind a[y] = v -/
def DPut (H : Hp) (a : Addr) (y v : V) (H' : Hp) : Prop :=
  (∃ kvs k, H a = some (.dK kvs) ∧ y = kV k ∧ kvs.length < sizeLine ∧ H' = upd H a (.dK (putK kvs k v))) ∨
  ∃ kvs k b, H a = some (.dT kvs) ∧ y = .ref b ∧ H b = some (.tup (k.map kV)) ∧ kvs.length < sizeLine ∧ H' = upd H a (.dT (putK kvs k v))
theorem DGet.k {H : Hp} {a : Addr} {kvs : List (Key × V)} {k : Key} (e : H a = some (.dK kvs)) : DGet H a (kV k) (valV kvs k) := .inl ⟨kvs, k, .inl e, rfl, rfl⟩
theorem DPut.k {H : Hp} {a : Addr} {kvs : List (Key × V)} {k : Key} {v : V} (e : H a = some (.dK kvs)) (hl : kvs.length < sizeLine) : DPut H a (kV k) v (upd H a (.dK (putK kvs k v))) := .inl ⟨kvs, k, e, rfl, hl, rfl⟩


section
variable {X : Cx} {pins : List (Addr × Obj)} {σ : St} {H : Hp} {s : Shared} {a : Addr} {y v : V} {u r : Value} {o : Option V} {A : Around} {E : Value → Shared → Prop}

theorem Inv.big (I : Inv X pins σ H s) : sysModules < s.heap.objs.size := by
  have h : mainGlobals < s.heap.objs.size := (I.mod.glob.keeps I.bk).lt
  exact Nat.lt_trans (by decide) h

/-- d[y], there -/
theorem d_getItem {Q : Value → Shared → Prop} (hu : A.units + 1 < cLine) (I : Inv X pins σ H s) (g : DGet H a y (some v)) (ry : RelV y u) (h : ∀ w' s', Inv X pins σ H s' → RelV v w' → Q w' s') :
    wpAny (model X.prog X.w) A (getItem (.ref a) u) Q E s := by
  rcases g with ⟨kvs, k, e, ey, l⟩ | ⟨kvs, k, b, e, ey, eb, l⟩
  · subst ey
    obtain ⟨z, hd, vs, rel, dd⟩ := dk_rd I.hok e
    obtain ⟨w', hw, rw'⟩ := RelO.some_of (v := v) (o := valueAt vs k) (by rw [l]; exact rel.val k)
    exact wpAny_getItem_of (kV_is ry) dd.mapOf hw (h w' _ (I.tok _) rw')
  · subst ey
    cases (show u = Value.ref b from ry)
    obtain ⟨z, hd, xs, rel, dd⟩ := dt_rd I.hok e
    obtain ⟨w', hw, rw'⟩ := RelO.some_of (v := v) (o := (atKey xs k).map (·.2)) (by rw [l]; exact rel.val k)
    obtain ⟨p, hp, hp2⟩ := Option.map_eq_some_iff.mp hw
    refine wpAny_getItem_heap (tupleKind_room_in1 hu) (key_of I.hok eb) dd hp ?_
    rw [hp2]
    exact h w' _ (I.tok _) rw'
/-- y in d -/
theorem d_in {Q : Value → Shared → Prop} (hu : A.units + 1 < cLine) (I : Inv X pins σ H s) (g : DGet H a y o) (ry : RelV y u) (h : ∀ s', Inv X pins σ H s' → Q (.bool o.isSome) s') :
    wpAny (model X.prog X.w) A (compareOp .In u (.ref a)) Q E s := by
  rcases g with ⟨kvs, k, e, ey, l⟩ | ⟨kvs, k, b, e, ey, eb, l⟩
  · subst ey
    obtain ⟨z, hd, vs, rel, dd⟩ := dk_rd I.hok e
    refine wpAny_in_of (kV_is ry) hd dd.mapOf ?_
    rw [← (rel.val k).isSome_eq, ← l]
    exact h _ (I.tok _)
  · subst ey
    cases (show u = Value.ref b from ry)
    obtain ⟨z, hd, xs, rel, dd⟩ := dt_rd I.hok e
    refine wpAny_in_heap (tupleKind_room_in1 hu) (key_of I.hok eb) hd dd ?_
    have q := (rel.val k).isSome_eq
    rw [Option.isSome_map] at q
    rw [← q, ← l]
    exact h _ (I.tok _)
/-- a dict's object is replaced -/
theorem d_write {h' : Heap} {t' : Nat} {ob : HO} (I : Inv X pins σ H s) (mu : Mut (H a)) (hs : Heap.SameBut a s.heap h') (he : ∃ q, h'.get? a = some q) (new : ObjOk X.prog X.w (upd H a ob) h' a ob) :
    Inv X pins σ (upd H a ob) { s with heap := h', toks := t' } :=
  I.write (x := a) (e := a) mu (.inl rfl) (fun b q hb z => (hs.2 b hb).trans z) he new
theorem dk_new {P : Program} {w : World} {H' : Hp} {h' : Heap} {kvs : List (Key × V)} {vs : List (Key × Value)} (z : kvs.length ≤ sizeLine) (hd : (a == sysModules) = false) (rel : KV kvs vs) (dd : h'.DictOf (mixKind P w) a vs) :
    ObjOk P w H' h' a (.dK kvs) := ⟨z, hd, vs, rel, dd⟩
/-- d[y] = v -/
theorem d_setItem {H' : Hp} {Q : Unit → Shared → Prop} (hu : A.units + 1 < cLine) (I : Inv X pins σ H s) (g : DPut H a y v H') (ry : RelV y u) (rv : RelV v r) (h : ∀ s', Inv X pins σ H' s' → Q () s') :
    wpAny (model X.prog X.w) A (setItem (.ref a) u r) Q E s := by
  rcases g with ⟨kvs, k, e, ey, l, eH⟩ | ⟨kvs, k, b, e, ey, eb, l, eH⟩
  · subst ey eH
    obtain ⟨z, hd, vs, rel, dd⟩ := dk_of I.hok e
    have hz : vs.length ≤ sizeLine := by rw [← rel.length]; exact z
    have hl : (putK kvs k v).length ≤ sizeLine := by have := length_putK kvs k v; lia
    refine wpAny_setItem_pairs (hsz := hz) (kV_is ry) dd fun h' dd' hs => h _ ?_
    have he : ∃ q, h'.get? a = some q := let ⟨q, _, _, hq, _⟩ := dd'; ⟨q, hq⟩
    exact d_write I (by rw [e]; exact True.intro) hs he (dk_new hl hd (rel.put k rv) dd')
  · subst ey eH
    cases (show u = Value.ref b from ry)
    obtain ⟨z, hd, xs, rel, dd⟩ := dt_of I.hok e
    have hz : xs.length ≤ sizeLine := by rw [← Paired.length rel]; exact z
    have hl : (putK kvs k v).length ≤ sizeLine := by have := length_putK kvs k v; lia
    refine wpAny_setItem_heap (hsz := hz) (tupleKind_room_in1 hu) (key_of I.hok eb) dd fun h' dd' hs => h _ ?_
    obtain ⟨q, es, ep, hq, h2, h3, h4, _, h5⟩ := dd'
    refine d_write I (by rw [e]; exact True.intro) hs ⟨q, hq⟩ ⟨hl, hd, _, (rel.put k eb rv).keeps fun c ys ec => ?_, q, es, ep, hq, h2, h3, h4, h5⟩
    rw [upd_ne (ne_of ec e (fun z => nomatch z))]
    exact ec
end

section
variable {X : Cx} {pins : List (Addr × Obj)} {σ : St} {H : Hp} {s : Shared} {a : Addr} {kvs : List (Key × V)} {k : Key} {u : Value} {A : Around} {E : Value → Shared → Prop}
end


/-! ### readings and rules -/
/-- the element of a subscription, not a slice -/
def NoSl (i : Expr) : Prop := ∀ ov iv, subscripted i false ov iv = operate [ov, iv] (getItem ov iv)
theorem subD_of {prog : Program} {w : World} {A : Around} {E : Value → Shared → Prop} {s : Shared} {env : Env} {value slice : Expr} {pos : Pos} {T id : String} {Q : Value → Shared → Prop}
    (hl : typeLookup (.type T) "__getitem__" = pure (some (.builtin id))) (hs : NoSl slice)
    (h : wpAny (model prog w) A (eval value env) (fun o s₁ => wpAny (model prog w) A (eval slice env) (fun i s₂ => s₂.TypeIs o T ∧ wpAny (model prog w) A (getItem o i) Q E s₂) E s₁) E s) :
    wpAny (model prog w) A (eval (.Subscript value slice pos) env) Q E s := by
  refine Subscript_ (wpAny_mono h (fun o s₁ h₁ => wpAny_mono h₁ (fun i s₂ h₂ => ?_) fun _ _ x => x) fun _ _ x => x)
  obtain ⟨hT, h₂⟩ := h₂
  unfold subscriptTail
  refine wpAny_bind ?_
  rw [getitemInPython_of_ne hT.not_modules]
  refine wpAny_bind (wpAny_specialOf hT hl ?_)
  have fin : wpAny (model prog w) A (subscripted slice false o i) (fun r s₃ => wpAny (model prog w) A (letTemporaryGo value o r >>= fun _ => pure r) Q E s₃) E s₂ := by
    rw [hs o i]
    exact wpAny_operating (wpAny_mono h₂ (fun r s₃ h₃ => wpAny_bind (wpAny_letTemporaryGo (wpAny_pure h₃))) fun _ _ x => x)
  first
    | exact wpAny_pure (wpAny_bind fin)
    | exact wpAny_bind (wpAny_pure (wpAny_bind fin))
    | exact wpAny_bind fin

theorem dict_typeIs {X : Cx} {pins : List (Addr × Obj)} {σ : St} {H : Hp} {s : Shared} {a : Addr} {y : V} {o : Option V} (I : Inv X pins σ H s) (g : DGet H a y o) : s.TypeIs (.ref a) "dict" := by
  rcases g with ⟨kvs, k, e, _, _⟩ | ⟨kvs, k, b, e, _, _, _⟩
  · obtain ⟨_, _, vs, _, dd⟩ := dk_rd I.hok e
    exact dd.typeIs
  · obtain ⟨_, _, xs, _, dd⟩ := dt_rd I.hok e
    exact dd.typeIs

/-- d[y] -/
def tDGet (td ty : TE) : TE := fun σ H Q => td σ H fun x H1 => ty σ H1 fun y H2 => ∃ a v, x = .ref a ∧ DGet H2 a y (some v) ∧ Q v H2
/-- y in d, y not in d -/
def tDIn (ty td : TE) : TE := fun σ H Q => ty σ H fun y H1 => td σ H1 fun x H2 => ∃ a o, x = .ref a ∧ DGet H2 a y o ∧ Q (.bl o.isSome) H2
/-- d[y] = v -/
def sDPut (td ty tv : TE) : TS := fun D σ H => tv σ H fun v H1 => td σ H1 fun x H2 => ty σ H2 fun y H3 => ∃ a H4, x = .ref a ∧ DPut H3 a y v H4 ∧ D.nx σ H4

section
variable {X : Cx} {o i e value : Expr} {pos pos' tpos : Pos} {td ty tv : TE}
theorem pe_dget (hu : X.A.units + 1 < cLine) (ho : PE X o td) (hi : PE X i ty) (hs : NoSl i) : PE X (.Subscript o i pos) (tDGet td ty) := by
  intro pins s σ H Q I h
  refine subD_of PySem.F.slot_dict_getitem.lookup hs (thn (ho pins s σ H _ I h) ?_)
  rintro u s1 ⟨x, H1, I1, rx, q1⟩
  refine thn (hi pins s1 σ H1 _ I1 q1) ?_
  rintro iv s2 ⟨y, H2, I2, ry, a, v, ex, g, q2⟩
  subst ex
  obtain rfl : u = Value.ref a := rx
  exact ⟨dict_typeIs I2 g, d_getItem hu I2 g ry fun w' s3 I3 rw' => ⟨v, H2, I3, rw', q2⟩⟩
theorem pc_din (hu : X.A.units + 1 < cLine) (hi : PE X i ty) (ho : PE X o td) : PC X .In i o (tDIn ty td) := by
  intro pins s σ H Q I h
  refine thn (hi pins s σ H _ I h) ?_
  rintro iv s1 ⟨y, H1, I1, ry, q1⟩
  refine thn (ho pins s1 σ H1 _ I1 q1) ?_
  rintro u s2 ⟨x, H2, I2, rx, a, ov, ex, g, q2⟩
  subst ex
  obtain rfl : u = Value.ref a := rx
  exact d_in hu I2 g ry fun s3 I3 => ⟨.bl ov.isSome, H2, I3, rfl, q2⟩
theorem ps_dput (hu : X.A.units + 1 < cLine) (ho : PE X o td) (hi : PE X i ty) (hv : PE X value tv) (hs : swapsWith value (some (.Subscript o i pos')) pos.line X.env = pure false) :
    PS X (.Assign [.Subscript o i pos'] value pos) (sDPut td ty tv) := by
  intro pins s σ H D I h
  refine wpAny_Assign_Subscript (thn (hv pins s σ H _ I h) ?_) hs
  rintro r s1 ⟨v, H1, I1, rv, q1⟩
  refine thn (ho pins s1 σ H1 _ I1 q1) ?_
  rintro u s2 ⟨x, H2, I2, rx, q2⟩
  refine thn (hi pins s2 σ H2 _ I2 q2) ?_
  rintro iv s3 ⟨y, H3, I3, ry, a, H4, ex, g, q3⟩
  subst ex
  obtain rfl : u = Value.ref a := rx
  exact d_setItem hu I3 g ry rv fun s4 I4 => ⟨σ, H4, I4, q3⟩
end


/-! ### displays -/
theorem dk_empty {P : Program} {w : World} {H : Hp} (h : Heap) (hb : sysModules < h.objs.size) : ObjOk P w H (h.push { cls := .type "dict", data := .dict #[] }) h.objs.size (.dK []) :=
  ⟨Nat.zero_le _, beq_eq_false_iff_ne.mpr (Ne.symm (Nat.ne_of_lt hb)), [], .nil, Heap.DictOf.new h⟩
/-- {}, to be a dict of the kind that is wanted -/
def tDNewK : TE := fun _ H Q => ∀ p, H p = none → Q (.ref p) (upd H p (.dK []))
section
variable {X : Cx} {pos : Pos}
theorem pe_dnewK : PE X (.Dict [] [] pos) tDNewK := fun pins s σ H Q I h =>
  wpAny_Dict_empty ⟨.ref s.heap.objs.size, _, I.laid (a := s.heap.objs.size) (o := .dK []) (t' := s.toks) (fun _ _ q => Heap.get?_push_of_some _ q) (Nat.le_refl _) (dk_empty s.heap I.big), rfl, h _ (I.hok.fresh (Nat.le_refl _))⟩
end




/-! ### methods -/
structure M2 (X : Cx) (o : Expr) (m : Str) (apos : Pos) (e f : Expr) (cpos : Pos) : Prop where
  base : attributeBase o m X.env (eval o X.env) = eval o X.env
  few : ((backTo cpos (starEach [e, f] X.env)).all (fun x => !x.1) && (backToKw cpos (keywordEach [] X.env)).all (fun x => x.1.isSome)
    && decide (([e, f] : List Expr).length + ([] : List Keyword).length + (if ([] : List Keyword).isEmpty then 0 else 1) < 30)) = true
  line : (apos.endLine == cpos.line) = true
  trees : backTo cpos (starEach [e, f] X.env) = [(false, eval e X.env), (false, eval f X.env)]

/-- a is a dict, whatever its keys -/
def IsD (H : Hp) (a : Addr) : Prop := (∃ kvs, Rd H a (.dK kvs)) ∨ ∃ kvs, Rd H a (.dT kvs)
theorem isD_at {X : Cx} {pins : List (Addr × Obj)} {σ : St} {H : Hp} {s : Shared} {a : Addr} (I : Inv X pins σ H s) (d : IsD H a) :
    s.TypeIs (.ref a) "dict" ∧ (∀ b, Value.ref a = .ref b → ∃ ob, s.heap.get? b = some ob ∧ ob.dict = none) ∧ (a == sysModules) = false := by
  rcases d with ⟨kvs, e⟩ | ⟨kvs, e⟩
  · obtain ⟨_, hd, vs, _, dd⟩ := dk_rd I.hok e
    refine ⟨dd.typeIs, fun b q => ?_, hd⟩
    cases q
    obtain ⟨ob, _, _, h1, h2, _⟩ := dd
    exact ⟨ob, h1, h2.2.1⟩
  · obtain ⟨_, hd, xs, _, dd⟩ := dt_rd I.hok e
    refine ⟨dd.typeIs, fun b q => ?_, hd⟩
    cases q
    obtain ⟨ob, _, _, h1, h2, _⟩ := dd
    exact ⟨ob, h1, h2.2.1⟩

section
variable {X : Cx} {pins : List (Addr × Obj)} {σ : St} {H : Hp} {s : Shared} {a : Addr} {y d : V} {u r : Value} {o : Option V} {A : Around} {E : Value → Shared → Prop}
/-- d.get(y, x) -/
theorem d_get2 {Q : Value → Shared → Prop} (hu : A.units + 1 < cLine) (I : Inv X pins σ H s) (g : DGet H a y o) (ry : RelV y u) (rd : RelV d r) (h : ∀ w' s', Inv X pins σ H s' → RelV (o.getD d) w' → Q w' s') :
    wpAny (model X.prog X.w) A (call (.builtin "dict.get") [.ref a, u, r]) Q E s := by
  rcases g with ⟨kvs, k, e, ey, l⟩ | ⟨kvs, k, b, e, ey, eb, l⟩
  · subst ey
    obtain ⟨z, hd, vs, rel, dd⟩ := dk_rd I.hok e
    refine call_meetsIn PySem.F.slot_dict_get dd.typeIs PySem.F.entry_dict_get (PySem.F.args_dict_get_3 _ _ _) (meets_dict_get_default (mixKind X.prog X.w) a (kV_is ry) hd r) ⟨_, dd.mapOf, h _ _ (I.tok _) ?_⟩
    rw [l]
    exact (rel.val k).getD rd
  · subst ey
    cases (show u = Value.ref b from ry)
    obtain ⟨z, hd, xs, rel, dd⟩ := dt_rd I.hok e
    refine call_meetsIn PySem.F.slot_dict_get dd.typeIs PySem.F.entry_dict_get (PySem.F.args_dict_get_3 _ _ _) (meetsH_dict_get_default (tupleKind (mixKind X.prog X.w)) a b hd r) ⟨tupleKind_room_in1 hu, k, xs, key_of I.hok eb, dd, h _ _ (I.tok _) ?_⟩
    rw [l]
    exact (rel.val k).getD rd
end

def tDGet2 (td ty tx : TE) : TE := fun σ H Q => td σ H fun x H1 => ∃ a, x = .ref a ∧ IsD H1 a ∧ ty σ H1 fun y H2 => tx σ H2 fun z H3 => ∃ o, DGet H3 a y o ∧ Q (o.getD z) H3
section
variable {X : Cx} {o e f : Expr} {apos cpos : Pos} {td ty tx : TE}
theorem pe_dget2 (hu : X.A.units + 1 < cLine) (ho : PE X o td) (he : PE X e ty) (hf : PE X f tx) (m : M2 X o "get" apos e f cpos) : PE X (.Call (.Attribute o "get" apos) [e, f] [] cpos) (tDGet2 td ty tx) := by
  intro pins s σ H Q I h
  refine wpAny_Call_method m.base m.few m.line PySem.F.plainAttrs_dict PySem.F.slot_dict_get PySem.F.type_dict_get (thn (ho pins s σ H _ I h) ?_)
  rintro u s1 ⟨x, H1, I1, rx, a, ex, d, q1⟩
  subst ex
  obtain rfl : u = Value.ref a := rx
  obtain ⟨t1, t2, _⟩ := isD_at I1 d
  refine ⟨t1, t2, ?_⟩
  rw [m.trees]
  refine Calls.callWith_builtin rfl (Calls.evalArgs_plain (Calls.spliced_cons (thn (he pins s1 σ H1 _ I1 q1) ?_)))
  rintro iv s2 ⟨y, H2, I2, ry, q2⟩
  refine Calls.spliced_cons (thn (hf pins s2 σ H2 _ I2 q2) ?_)
  rintro fv s3 ⟨z, H3, I3, rz, ov, g, q3⟩
  refine Calls.spliced_nil ?_
  exact d_get2 hu I3 g ry rz fun w' s4 I4 rw' => ⟨_, H3, I4, rw', q3⟩
end

/-! ### dict(d): a copy -/
section
variable {X : Cx} {pins : List (Addr × Obj)} {σ : St} {H : Hp} {s : Shared} {a : Addr} {kvs : List (Key × V)} {A : Around} {E : Value → Shared → Prop}
theorem d_copyOf {Q : Value → Shared → Prop} (I : Inv X pins σ H s) (e : Rd H a (.dK kvs)) (h : ∀ p s', H p = none → Inv X pins σ (upd H p (.dK kvs)) s' → Q (.ref p) s') : wpAny (model X.prog X.w) A (call (.type "dict") [.ref a]) Q E s := by
  obtain ⟨z, hd, vs, rel, dd⟩ := dk_rd I.hok e
  refine kt_call_dict hd dd (by rw [← rel.length]; exact z) fun h' dd' hs => ?_
  refine h _ _ (I.hok.fresh (Nat.le_refl _)) (I.laid (a := s.heap.objs.size) (o := .dK kvs) (t' := s.toks) (fun b q hq => ?_) (Nat.le_refl _) (dk_new z (beq_eq_false_iff_ne.mpr (Ne.symm (Nat.ne_of_lt I.big))) rel dd'))
  exact (hs.2 b (Nat.ne_of_lt (Heap.lt_size hq))).trans (Heap.get?_push_of_some _ hq)
end


section
variable {X : Cx} {pins : List (Addr × Obj)} {σ : St} {H : Hp} {s : Shared} {a : Addr} {y : V} {u : Value} {A : Around} {E : Value → Shared → Prop}
end
end L2

namespace L2
open PySem PySem.Spec PyProof.Rows
section
variable {X : Cx}
end
/-! ### a dict's pairs: keys that differ -/
section
variable {κ : Type} [DecidableEq κ]
theorem valV_in {kvs : List (κ × V)} {k : κ} {v : V} (h : valV kvs k = some v) : k ∈ kvs.map (·.1) := by
  have q : (kvs.any fun kv => decide (kv.1 = k)) = true := by
    rw [valV_any, h]
    all_goals rfl
  obtain ⟨p, hp, e⟩ := List.any_eq_true.mp q
  exact List.mem_map.mpr ⟨p, hp, of_decide_eq_true e⟩
end
end L2

set_option Elab.async false
set_option linter.all false
set_option maxRecDepth 100000
set_option maxHeartbeats 4000000
/-! Rules over the hand layer: max with a default, tuples compared, is, comprehensions that make things. Own work. -/
namespace L2
open PySem PySem.Spec PyProof.Rows SI
theorem args_maxD (a d : Value) : argsOk "max" ⟨[a], [("default", d)]⟩ := by unfold argsOk; kernel_rfl
section
variable {X : Cx}
theorem call_maxD (hc : X.calm = true) {pins : List (Addr × Obj)} {s : Shared} {σ : St} {H : Hp} {p : Addr} {ns : List Int} {d : Int} {td : Tok} {Q : VK} (I : Inv X pins σ H s) (hq : SqL X.K H p (ns.map V.int)) (q : Q (.int (maxI ns d)) H) :
    wpAny (model X.prog X.w) X.A (call (.builtin "max") [.ref p] [("default", .int d td)]) (EP X pins σ Q) X.xe s := by
  have hname : (toString "max" ++ toString ".loop" : String) = "max.loop" := by decide
  obtain ⟨its, rv, pl, hz⟩ := I.list hq
  have hI := intsAre_of rv
  have hp : p < s.heap.objs.size := by obtain ⟨o, ho, _⟩ := pl.isList; exact Heap.lt_size ho
  refine wpAny_call (codeAny_call_builtin F.plain_max F.entry_max ?_)
  simp only [checkBuiltinCall, F.kind_max]
  have hargs := args_maxD (.ref p) (.int d td)
  have body : wpAny (model X.prog X.w) X.A.in1 (Builtin.«max» ⟨[.ref p], [("default", .int d td)]⟩) (fun fin s' => match fin with
      | .done f => (match (Except.ok f : Result) with | .ok (.ret v) => EP X pins σ Q v s' | .ok _ => False | .error e => X.xe e s')
      | .again c' => c'.quiet = true ∧ codeAny (model X.prog X.w) X.A c' (fun r s' => match r with | .ok (.ret v) => EP X pins σ Q v s' | .ok _ => False | .error e => X.xe e s') s') X.xe s := by
    show wpAny _ X.A.in1 (Builtin.Builtins.bindParams "max" ["key", "default"] 0 ⟨[], [("default", .int d td)]⟩ >>= _) _ _ s
    refine wpAny_bind (wpAny_of_eq (show Builtin.Builtins.bindParams "max" ["key", "default"] 0 ⟨[], [("default", .int d td)]⟩ = pure [none, some (.int d td)] from rfl) ?_)
    refine wpAny_bind (wpAny_pure ?_)
    refine wpAny_bind (wpAny_pyIter_list pl.isList ?_)
    refine wpAny_bind (wpAny_newObj_type ?_)
    rw [hname]
    have hsz : (s.heap.push { cls := .type "list_iterator", data := .fields #[.ref p, .int 0 0] }).objs.size = s.heap.objs.size + 1 := Heap.size_push ..
    refine wpAny_pure ⟨plainId_quiet F.plain_max_loop _, maxD_first (its := its) (ns := ns) (I.ok.hd hc) (Nat.ne_of_gt hp) _ (by rw [hsz]; exact Nat.succ_ne_self _) (by rw [hsz]; exact Nat.ne_of_gt (Nat.lt_succ_of_lt hp)) rfl hI ⟨_, Heap.get?_push_of_some _ (Heap.get?_push_size _ rfl), rfl, rfl⟩
      ((pl.isList.push _).push _) (Heap.get?_push_size _ rfl) fun t h' tk hk => ⟨.int (maxI ns d), H, ?_, ⟨t, rfl⟩, q⟩⟩
    exact I.kept (t' := tk) fun b o e => hk b o (Nat.ne_of_lt (Heap.lt_size e)) (by rw [hsz]; exact Nat.ne_of_lt (Nat.lt_succ_of_lt (Heap.lt_size e))) (Heap.get?_push_of_some _ (Heap.get?_push_of_some _ e))
  cases hsig : Manifest.signature? "max" with
  | none => exact wpAny_pure body
  | some sig =>
    simp only [argsOk, hsig] at hargs
    have h2 : Bind.checkArgs "max" sig ⟨[.ref p], [("default", .int d td)]⟩ = pure () := hargs
    show wpAny _ X.A.in1 (Bind.checkArgs "max" sig ⟨[.ref p], [("default", .int d td)]⟩) _ _ s
    rw [h2]; exact wpAny_pure body
def tMaxD (K : PySem.W.Frag) (d : Int) (t : TA) : TE := fun σ H Q => t σ H fun vs H1 => ∃ p ns, vs = [.ref p] ∧ SqL K H1 p (ns.map V.int) ∧ Q (.int (maxI ns d)) H1
theorem pe_maxD {e : Expr} {t : TA} {p pos kp kpos : Pos} {d : Int} {j : Nat} (hc : X.calm = true) (hg : Gl X "max") (hm : X.mg "max" = none) (ha : PA X [e] t)
    (he : backTo pos (starEach [e] X.env) = [(false, eval e X.env)] := by rfl) :
    PE X (.Call (.Name "max" p) [e] [⟨some "default", .Constant (.int d) j kp, kpos⟩] pos) (tMaxD X.K d t) := by
  intro pins s σ H Q I h
  refine wpAny_Call_Name_kw (ld_blt I hg hm bt_max ?_)
  refine callWith_kw (thn (ha pos pins s σ H _ I h) ?_) he (by rw [he]; rfl)
  rintro us s1 ⟨vs, H1, I1, r1, q1⟩
  refine thn (pk_cons (nm := some "default") (kpos := kpos) (pe_int (i := d) (j := j) (pos := kp)) pk_nil pos pins s1 σ H1 (fun zs H2 => zs = [.int d] ∧ H2 = H1) I1 ⟨rfl, rfl⟩) ?_
  rintro ws s2 ⟨zs, H2, I2, rz, ez, eH⟩
  subst ez eH
  obtain ⟨u, rfl, t', rfl⟩ := vals1 rz
  obtain ⟨a, ns, rfl, hq, q⟩ := q1
  obtain ⟨u, rfl, rx⟩ := vals1 r1
  cases rx
  exact call_maxD hc I2 hq q
/-! ### tuples compared -/
/-! ### is, of bools -/
end
/-! ### comprehensions over a list, of which each element may make things -/
theorem lc_grow {K : PySem.W.Frag} {a : Addr} {xs : List V} {i : Nat} {te : TE} {σ : St} {H : Hp} {D : Addr} {Q : Hp → Prop} (P : Nat → List V → Hp → Prop) (hD : H D = none) (hl : SqL K H a xs) (hn : xs.length ≤ sizeLine)
    (h0 : P 0 [] (upd H D (.lst [])))
    (he : ∀ (k : Nat) x (v : Option V) (ys : List V) (H1 : Hp) (R : VK), xs[k]? = some x → ys.length = k → Same H H1 → H1 D = some (.lst ys) → P k ys H1 → (∀ y H2, Same H1 H2 → P (k + 1) (ys ++ [y]) (upd H2 D (.lst (ys ++ [y]))) → R y H2) → te ((σ.set i v).set i (some x)) H1 R)
    (hq : ∀ ys H1, ys.length = xs.length → Same H H1 → H1 D = some (.lst ys) → P xs.length ys H1 → Q H1) :
    ∃ W : Nat → Nat → List V → St → Hp → Prop, (∃ m, W 0 m [] σ (upd H D (.lst []))) ∧ lcTurn (Itl K a) D (gName i) tYes te Q W := by
  refine ⟨fun k m ys σ' H' => m = xs.length - k ∧ k ≤ xs.length ∧ ys.length = k ∧ (σ' = σ ∨ ∃ v, σ' = σ.set i v) ∧ Same H H' ∧ H' D = some (.lst ys) ∧ P k ys H', ⟨xs.length, by simp, Nat.zero_le _, rfl, .inl rfl, same_upd hD, upd_same, h0⟩, ?_⟩
  rintro k m ys σ' H' ⟨rfl, hk, hlen, hσ, hS, hDD, hP⟩
  have hl' := hS.seq hl
  by_cases hlt : k < xs.length
  · refine .inr ⟨⟨xs, xs[k], hl', by simp [hlt]⟩, fun x H2 hy => ?_⟩
    obtain ⟨rfl, hy⟩ := hy
    have hx := hy xs hl'
    show te (σ'.set i _) _ _
    have hσ' : ∃ v, σ'.set i (some x) = (σ.set i v).set i (some x) := by
      rcases hσ with rfl | ⟨v, rfl⟩
      · exact ⟨none, by rw [List.set_set]⟩
      · exact ⟨v, rfl⟩
    obtain ⟨v, ev⟩ := hσ'
    have hσ2 : ∃ v', σ'.set i (some x) = σ.set i v' := ⟨some x, by rw [ev, List.set_set]⟩
    rw [ev]
    refine he k x v ys _ _ hx hlen hS hDD hP fun y H3 hS3 hP3 => ?_
    have hD3 := hS3 _ _ hDD
    refine ⟨hD3, by lia, xs.length - (k + 1), by lia, rfl, hlt, by simp [hlen], by rw [← ev]; exact .inr hσ2, fun b o e => ?_, upd_same, hP3⟩
    have hne : b ≠ D := fun z => by rw [z, hD] at e; cases e
    rw [upd_ne hne]
    exact hS3 _ _ (hS _ _ e)
  · have e : k = xs.length := by lia
    subst e
    exact .inl ⟨⟨xs, hl', Nat.le_refl _⟩, hq ys _ hlen hS hDD hP⟩
end L2

set_option Elab.async false
set_option linter.all false
set_option maxRecDepth 100000
set_option maxHeartbeats 4000000
/-! dicts: a copy, clear, == and != of alike ones; f-strings of a str and an int. Own work. -/
namespace DQ
open PySem PyProof.Rows
section
variable {prog : Program} {w : World} {κ : Type} [DecidableEq κ] {knd : PySem.KeyKind prog w κ} {A : Around} {E : Value → Shared → Prop} {s : Shared}
theorem samePairs_true {nm : String} {a b : Addr} {v1 v2 : List (κ × Value)} {Q : Bool → Shared → Prop} (ha : s.heap.DictOf knd a v1) (hb : s.heap.DictOf knd b v2) (sa : (a == sysModules) = false) (sb : (b == sysModules) = false) (hl : v1.length = v2.length)
    (hv : ∀ (i : Nat) k v, v1[i]? = some (k, v) → ∃ v', valueAt v2 k = some v' ∧ ∀ (A : Around) (E : Value → Shared → Prop) (Q : Bool → Shared → Prop), Q true s → wpAny (model prog w) A (eqBool v v') Q E s) (h : Q true s) :
    wpAny (model prog w) A (Builtin.Dict.samePairs nm a b) Q E s := by
  have hmap := hb.mapOf
  obtain ⟨oa, ea, pa, hoa, hca, hda, hka, hpa, hna⟩ := id ha
  obtain ⟨ob, eb, pb, hob, hcb, hdb, hkb, hpb, hnb⟩ := id hb
  have hf : ∀ k, findBy knd.is eb k = valueAt v2 k := fun k => by
    obtain ⟨o', es', ep', ho', hc', hd', hk', hf'⟩ := hmap
    rw [hob] at ho'; cases ho'
    rw [hdb] at hd'; cases hd'
    exact hf' k
  have la : v1.length = ea.size := by rw [← hpa.length]; simp
  have lb : v2.length = eb.size := by rw [← hpb.length]; simp
  have hne : ¬ (ea.size != eb.size) = true := by simp; lia
  unfold Builtin.Dict.samePairs Builtin.Dict.showsAll
  rw [if_neg (by rw [sa]; exact Bool.false_ne_true), if_neg (by rw [sb]; exact Bool.false_ne_true)]
  refine wpAny_bind (wpAny_pure ?_)
  refine wpAny_bind (wpAny_pure ?_)
  refine wpAny_bind (wpAny_dictEntries hoa hda ?_)
  refine wpAny_bind (wpAny_dictEntries hob hdb ?_)
  rw [if_neg hne]
  refine wpAny_bind (wpAny_dictEpoch hoa hda ?_)
  refine wpAny_bind ?_
  rw [Std.Legacy.Range.forIn_eq_forIn_range']
  simp only [Std.Legacy.Range.size, Nat.sub_zero, Nat.add_sub_cancel, Nat.div_one]
  refine wpAny_forIn_list _ (fun rest b s' => ∃ i, s' = s ∧ rest = List.range' i (ea.size - i) ∧ i ≤ ea.size ∧ b.1 = none) _ ?_ ?_ _ _ ⟨0, rfl, by simp, Nat.zero_le _, rfl⟩
  · rintro x rest b s' ⟨i, rfl, hr, hi, hbn⟩
    have hlt : i < ea.size := by
      rcases Nat.lt_or_ge i ea.size with h | h
      · exact h
      · rw [Nat.sub_eq_zero_of_le h] at hr; simp at hr
    obtain ⟨rfl, hrest⟩ : x = i ∧ rest = List.range' (i + 1) (ea.size - (i + 1)) := by
      have e : ea.size - i = (ea.size - (i + 1)) + 1 := by lia
      rw [e, List.range'_succ] at hr
      injection hr with h1 h2
      exact ⟨h1, h2⟩
    refine wpAny_bind (wpAny_dictEntries hoa hda ?_)
    rw [Array.getElem?_eq_getElem hlt]
    obtain ⟨kv, hkv⟩ : ∃ kv, v1[x]? = some kv := ⟨v1[x]'(by rw [la]; exact hlt), List.getElem?_eq_getElem _⟩
    obtain ⟨k, v⟩ := kv
    obtain ⟨hkey, hval⟩ := hpa.get? (e := ea[x]) (by simp [hlt]) hkv
    obtain ⟨k', hkey', hhash⟩ := hka ea[x] (Array.getElem_mem hlt)
    obtain rfl : k' = k := knd.inj _ _ _ hkey' hkey
    obtain ⟨v', ev', heq⟩ := hv x k' v hkv
    refine wpAny_bind (wpAny_holding ?_)
    rw [hhash]
    refine wpAny_bind (wpAny_dictFind_of hkey hob hdb hkb ?_)
    have hfk := hf k'
    rw [ev', findBy_of_findIdx?] at hfk
    cases hj : eb.findIdx? fun e => knd.is k' e.key with
    | none => rw [hj] at hfk; exact nomatch hfk
    | some j =>
      rw [hj] at hfk
      cases he : eb[j]? with
      | none => simp [he] at hfk
      | some e =>
        have ee : e.val = v' := by simpa [he] using hfk
        refine wpAny_bind (wpAny_dictEntries hob hdb ?_)
        rw [he]
        refine wpAny_holding ?_
        rw [hval, ee]
        refine heq _ _ _ ?_
        refine wpAny_bind (wpAny_dictEpoch hoa hda ?_)
        rw [if_neg (by simp)]
        exact wpAny_pure ⟨x + 1, rfl, hrest, hlt, rfl⟩
  · rintro b s' ⟨i, rfl, hr, hi, hbn⟩
    obtain ⟨b1, b2⟩ := b
    cases hbn
    exact wpAny_pure h
theorem meets_ne {v1 v2 : List (κ × Value)} (a b : Addr) (sa : (a == sysModules) = false) (sb : (b == sysModules) = false) (hl : v1.length = v2.length) :
    MeetsIn prog w (Builtin.«dict.__ne__» ⟨[.ref a, .ref b], []⟩) (fun _ R s => s.heap.DictOf knd a v1 ∧ s.heap.DictOf knd b v2 ∧
      (∀ (i : Nat) k v, v1[i]? = some (k, v) → ∃ v', valueAt v2 k = some v' ∧ ∀ (A : Around) (E : Value → Shared → Prop) (Q : Bool → Shared → Prop), Q true s → wpAny (model prog w) A (eqBool v v') Q E s) ∧ R (.ok (.ret (.bool false))) s) :=
  .of_wp fun A R s ⟨ha, hb, hv, h⟩ => by
    unfold Builtin.«dict.__ne__»
    wp_delta
    refine wpAny_bind ?_
    unfold Builtin.Dict.dictSlotArgs
    refine wpAny_bind (wpAny_notOrdered_dict ha.typeIs ?_)
    show wpAny _ _ (pure (Value.ref a, Value.ref b)) _ _ s
    refine wpAny_pure ?_
    refine wpAny_bind (wpAny_isInstance (b := true) hb.typeIs (by rw [isSubtype_type]; kernel_rfl) ?_)
    rw [if_neg (by decide)]
    refine wpAny_bind (wpAny_pure ?_)
    refine wpAny_bind (wpAny_pure ?_)
    refine wpAny_bind (samePairs_true ha hb sa sb hl hv ?_)
    exact wpAny_pure ⟨_, rfl, h⟩
theorem valueAt_get {kvs : List (κ × Value)} : ∀ {i : Nat} {k : κ} {v : Value}, (kvs.map (·.1)).Nodup → kvs[i]? = some (k, v) → valueAt kvs k = some v := by
  induction kvs with
  | nil => intro i k v _ e; simp at e
  | cons p r ih =>
    intro i k v hn e
    rw [List.map_cons, List.nodup_cons] at hn
    cases i with
    | zero =>
      have e' : p = (k, v) := by simpa using e
      subst e'
      simp [valueAt]
    | succ i =>
      have e' : r[i]? = some (k, v) := by simpa using e
      have hne : ¬ p.1 = k := fun z => hn.1 (by rw [z]; exact List.mem_map.mpr ⟨(k, v), List.mem_of_getElem? e', rfl⟩)
      have := ih hn.2 e'
      unfold valueAt at this ⊢
      rw [List.find?_cons]
      simp only [hne, decide_false]
      exact this
end
end DQ
namespace L2
open PySem PySem.Spec PyProof.Rows
section
variable {X : Cx}
/-- dict(d) -/
theorem call_dcopy : CallR X (.type "dict") (fun xs H Q => ∃ a kvs, xs = [V.ref a] ∧ H a = some (.dK kvs) ∧ ∀ p, H p = none → Q (.ref p) (upd H p (.dK kvs))) := by
  intro pins s σ H xs us Q I r h
  obtain ⟨a, kvs, rfl, ha, q⟩ := h
  obtain ⟨u, rfl, ru⟩ := vals1 r
  cases ru
  exact d_copyOf I (.inl ha) fun p s' hp I' => ⟨.ref p, _, I', rfl, q p hp⟩
/-- f'{a}{b}', a str and an int -/
def tFstr2 (ta tb : TE) : TE := fun σ H Q => ta σ H fun x H1 => ∃ n : Str, x = .str n ∧ n.length ≤ sizeLine ∧ tb σ H1 fun y H2 => ∃ i : Int, y = .int i ∧ i.natAbs.log2 < 1920 ∧ (n ++ Str.ofString (toString i)).length ≤ sizeLine ∧ Q (.str (n ++ Str.ofString (toString i))) H2
theorem pe_fstr2 {a b : Expr} {ta tb : TE} {p1 p2 pos : Pos} (ha : PE X a ta) (hb : PE X b tb) : PE X (.JoinedStr [.FormattedValue a (-1) none p1, .FormattedValue b (-1) none p2] pos) (tFstr2 ta tb) := by
  intro pins s σ H Q I h
  refine JoinedStr_many (joinParts_cons (FormattedValue_plain (thn (ha pins s σ H _ I h) ?_)))
  rintro v s1 ⟨x, H1, I1, r1, n, ex, hn, q1⟩
  subst ex
  obtain ⟨t, rfl⟩ := r1
  refine formatField_str (fun t' tk => ?_) hn
  have e0 : Str.empty ++ n = n := by obtain ⟨c⟩ := n; show Str.mk (Str.empty.cps ++ c) = Str.mk c; rw [show Str.empty.cps = #[] from rfl]; simp
  refine ⟨by rw [e0]; exact hn, ?_⟩
  rw [e0]
  refine joinParts_cons (FormattedValue_plain (thn (hb pins _ σ H1 _ (I1.tok tk) q1) ?_))
  rintro v2 s2 ⟨y, H2, I2, r2, i, ey, hlog, hl, q2⟩
  subst ey
  obtain ⟨t2, rfl⟩ := r2
  refine formatField_int_small hlog ⟨hl, ?_⟩
  exact joinParts_nil ⟨.str _, H2, (I2.tok _).tok _, ⟨_, rfl⟩, q2⟩ hl
/-- == and != of two dicts of the same pairs, strs -/
def rEqD (neg : Bool) : R2 := fun x y H Q => ∃ a b kvs, x = .ref a ∧ y = .ref b ∧ H a = some (.dK kvs) ∧ H b = some (.dK kvs) ∧ (∀ k v, valV kvs k = some v → ∃ n : Str, v = .str n) ∧ Q (.bl (!neg)) H
theorem eqD_pairs {pins : List (Addr × Obj)} {σ : St} {H : Hp} {s : Shared} {a b : Addr} {kvs : List (Key × V)} {vs1 vs2 : List (Key × Value)} (dd1 : s.heap.DictOf (mixKind X.prog X.w) a vs1) (r1 : KV kvs vs1) (r2 : KV kvs vs2) (hs : ∀ k v, valV kvs k = some v → ∃ n : Str, v = .str n) :
    ∀ (i : Nat) k v, vs1[i]? = some (k, v) → ∃ v', valueAt vs2 k = some v' ∧ ∀ (A : Around) (E : Value → Shared → Prop) (Q : Bool → Shared → Prop), Q true s → wpAny (model X.prog X.w) A (eqBool v v') Q E s := fun i k v e => by
  obtain ⟨o, es, ep, _, _, _, _, _, hn⟩ := dd1
  have e1 := DQ.valueAt_get hn e
  have h1 := r1.val k
  have h2 := r2.val k
  rw [e1] at h1
  cases ek : valV kvs k with
  | none => rw [ek] at h1; exact h1.elim
  | some x =>
    obtain ⟨n, rfl⟩ := hs k x ek
    rw [ek] at h1 h2
    cases e2 : valueAt vs2 k with
    | none => rw [e2] at h2; exact h2.elim
    | some v' =>
      rw [e2] at h2
      obtain ⟨t1, rfl⟩ := (show ∃ t, v = Value.str n t from h1)
      obtain ⟨t2, rfl⟩ := (show ∃ t, v' = Value.str n t from h2)
      exact ⟨_, rfl, fun A E Q q => wpAny_eqBool_str (by rw [decide_eq_true rfl]; exact q)⟩
theorem op_neD (hu : X.A.units + 1 < cLine) : OpR X (compareOp .NotEq) (rEqD true) := by
  intro pins s σ H x y v u Q I rx ry h
  obtain ⟨a, b, kvs, rfl, rfl, ha, hb, hs, q⟩ := h
  cases rx
  cases ry
  obtain ⟨z1, d1, vs1, r1, dd1⟩ := dk_of I.hok ha
  obtain ⟨z2, d2, vs2, r2, dd2⟩ := dk_of I.hok hb
  exact wpAny_richCompare_same_room (op := .NotEq) dd1.typeIs dd2.typeIs PySem.F.slot_dict_ne (call_meetsIn PySem.F.slot_dict_ne dd1.typeIs PySem.F.entry_dict_ne (PySem.F.args_dict_ne_2 _ _) (DQ.meets_ne (knd := mixKind X.prog X.w) a b d1 d2 (by rw [← r1.length, ← r2.length])) ⟨dd1, dd2, eqD_pairs (pins := pins) (σ := σ) (H := H) (b := b) dd1 r1 r2 hs, (fun x => nomatch x), ⟨.bl false, H, I, rfl, q⟩⟩) (by lia)
end
end L2

set_option Elab.async false
set_option linter.all false
set_option maxRecDepth 100000
set_option maxHeartbeats 4000000
/-! Rules over the hand layer: lists of different length compared, whatever they hold. Own work. -/
namespace L2
open PySem PySem.Spec PyProof.Rows SI
section
variable {X : Cx}
end
end L2

set_option Elab.async false
set_option linter.all false
set_option maxRecDepth 100000
set_option maxHeartbeats 4000000
/-! Comprehensions over enumerate, zip, range, whatever their elements do. Own work. -/
namespace L2
open PySem PySem.Spec PyProof.Rows
theorem lc_gen {J : It} {n : Nat} {g : TG} {tt : TT} {te : TE} {σ : St} {H : Hp} {D : Addr} {Q : Hp → Prop} (P : Nat → List V → St → Hp → Prop) (h0 : P 0 [] σ (upd H D (.lst [])))
    (hs : ∀ k ys σ' H', k < n → P k ys σ' H' → J.go k H' ∧ ∀ x H1, J.yld k H' x H1 → g x σ' H1 (fun σ2 H2 => tt σ2 H2 fun b H3 =>
      if b = true then te σ2 H3 fun y H4 => H4 D = some (.lst ys) ∧ ys.length < sizeLine ∧ ∃ m', m' < n - k ∧ m' = n - (k + 1) ∧ k + 1 ≤ n ∧ P (k + 1) (ys ++ [y]) σ2 (upd H4 D (.lst (ys ++ [y]))) else ∃ m', m' < n - k ∧ m' = n - (k + 1) ∧ k + 1 ≤ n ∧ P (k + 1) ys σ2 H3))
    (hd : ∀ ys σ' H', P n ys σ' H' → J.stop n H' ∧ Q H') :
    ∃ W : Nat → Nat → List V → St → Hp → Prop, (∃ m, W 0 m [] σ (upd H D (.lst []))) ∧ lcTurn J D g tt te Q W := by
  refine ⟨fun k m ys σ' H' => m = n - k ∧ k ≤ n ∧ P k ys σ' H', ⟨n, by simp, Nat.zero_le _, h0⟩, ?_⟩
  rintro k m ys σ' H' ⟨rfl, hk, hP⟩
  by_cases hlt : k < n
  · exact .inr (hs k ys σ' H' hlt hP)
  · have e : k = n := by lia
    subst e
    exact .inl (hd ys σ' H' hP)
/-- what stands behind a turn -/
def Beh (n k : Nat) (P : Nat → List V → St → Hp → Prop) (ys : List V) (σ : St) (H : Hp) : Prop := ∃ m', m' < n - k ∧ m' = n - (k + 1) ∧ k + 1 ≤ n ∧ P (k + 1) ys σ H
theorem Beh.of {n k : Nat} {P : Nat → List V → St → Hp → Prop} {ys : List V} {σ : St} {H : Hp} (hk : k < n) (h : P (k + 1) ys σ H) : Beh n k P ys σ H := ⟨n - (k + 1), by omega, rfl, hk, h⟩
theorem lc_rng {lo : Int} {n : Nat} {g : TG} {tt : TT} {te : TE} {σ : St} {H : Hp} {D : Addr} {Q : Hp → Prop} (P : Nat → List V → St → Hp → Prop) (h0 : P 0 [] σ (upd H D (.lst [])))
    (hs : ∀ k ys σ' H', k < n → P k ys σ' H' → g (.int (lo + k)) σ' H' (fun σ2 H2 => tt σ2 H2 fun b H3 =>
      if b = true then te σ2 H3 fun y H4 => H4 D = some (.lst ys) ∧ ys.length < sizeLine ∧ Beh n k P (ys ++ [y]) σ2 (upd H4 D (.lst (ys ++ [y]))) else Beh n k P ys σ2 H3))
    (hd : ∀ ys σ' H', P n ys σ' H' → Q H') :
    ∃ W : Nat → Nat → List V → St → Hp → Prop, (∃ m, W 0 m [] σ (upd H D (.lst []))) ∧ lcTurn (Itr lo n) D g tt te Q W := by
  refine lc_gen (n := n) P h0 (fun k ys σ' H' hk hP => ⟨hk, fun x H1 y => ?_⟩) (fun ys σ' H' hP => ⟨Nat.le_refl _, hd ys σ' H' hP⟩)
  obtain ⟨rfl, rfl⟩ := y
  exact hs k ys σ' _ hk hP
end L2

set_option Elab.async false
set_option linter.all false
set_option maxRecDepth 100000
set_option maxHeartbeats 4000000
/-! A comprehension over a list, whatever its elements do. Own work (as in K24f). -/
namespace L2
open PySem PySem.Spec PyProof.Rows
theorem lc_lst {K : PySem.W.Frag} {a : Addr} {xs : List V} {g : TG} {tt : TT} {te : TE} {σ : St} {H : Hp} {D : Addr} {Q : Hp → Prop} (P : Nat → List V → St → Hp → Prop) (h0 : P 0 [] σ (upd H D (.lst []))) (hl : ∀ k ys σ' H', k ≤ xs.length → P k ys σ' H' → SqL K H' a xs)
    (hs : ∀ k x ys σ' H', xs[k]? = some x → P k ys σ' H' → g x σ' H' (fun σ2 H2 => tt σ2 H2 fun b H3 =>
      if b = true then te σ2 H3 fun y H4 => H4 D = some (.lst ys) ∧ ys.length < sizeLine ∧ Beh xs.length k P (ys ++ [y]) σ2 (upd H4 D (.lst (ys ++ [y]))) else Beh xs.length k P ys σ2 H3))
    (hd : ∀ ys σ' H', P xs.length ys σ' H' → Q H') :
    ∃ W : Nat → Nat → List V → St → Hp → Prop, (∃ m, W 0 m [] σ (upd H D (.lst []))) ∧ lcTurn (Itl K a) D g tt te Q W := by
  refine lc_gen (n := xs.length) P h0 (fun k ys σ' H' hk hP => ?_) (fun ys σ' H' hP => ⟨⟨xs, hl _ _ _ _ (Nat.le_refl _) hP, Nat.le_refl _⟩, hd ys σ' H' hP⟩)
  have q := hl k ys σ' H' (Nat.le_of_lt hk) hP
  refine ⟨⟨xs, xs[k], q, by simp [hk]⟩, fun x H1 y => ?_⟩
  obtain ⟨rfl, y⟩ := y
  exact hs k x ys σ' _ (y xs q) hP
/-- strs written out -/
def strsOf : List Expr → Option (List Str)
  | [] => some []
  | .Constant (.str x) _ _ :: r => (strsOf r).map (x :: ·)
  | _ => none
def tStrs (xs : List Str) : TA := fun _ H Q => Q (xs.map V.str) H
theorem pa_strs {X : Cx} : ∀ {es : List Expr} {xs : List Str}, strsOf es = some xs → PA X es (tStrs xs)
  | [], xs, h => by
    cases h
    exact pa_nil
  | e :: r, xs, h => by
    cases e with
    | Constant c j p =>
      cases c with
      | str x =>
        cases hr : strsOf r with
        | none =>
          have h' : (strsOf r).map (x :: ·) = some xs := h
          rw [hr] at h'
          exact nomatch h'
        | some ys =>
          have h' : (strsOf r).map (x :: ·) = some xs := h
          rw [hr] at h'
          cases h'
          intro pos pins s σ H Q I q
          exact pa_cons (pe_str (x := x) (j := j) (pos := p)) (pa_strs hr) rfl pos pins s σ H Q I q
      | _ => exact nomatch h
    | _ => exact nomatch h
end L2

set_option Elab.async false
set_option linter.all false
set_option maxRecDepth 100000
set_option maxHeartbeats 4000000
/-! list.insert; a comprehension over a tuple. Own work. -/
namespace L2
open PySem PySem.Spec PyProof.Rows
theorem lc_tpl {K : PySem.W.Frag} {a : Addr} {xs : List V} {g : TG} {tt : TT} {te : TE} {σ : St} {H : Hp} {D : Addr} {Q : Hp → Prop} (P : Nat → List V → St → Hp → Prop) (h0 : P 0 [] σ (upd H D (.lst []))) (hl : ∀ k ys σ' H', k ≤ xs.length → P k ys σ' H' → SqT K H' a xs)
    (hs : ∀ k x ys σ' H', xs[k]? = some x → P k ys σ' H' → g x σ' H' (fun σ2 H2 => tt σ2 H2 fun b H3 =>
      if b = true then te σ2 H3 fun y H4 => H4 D = some (.lst ys) ∧ ys.length < sizeLine ∧ Beh xs.length k P (ys ++ [y]) σ2 (upd H4 D (.lst (ys ++ [y]))) else Beh xs.length k P ys σ2 H3))
    (hd : ∀ ys σ' H', P xs.length ys σ' H' → Q H') :
    ∃ W : Nat → Nat → List V → St → Hp → Prop, (∃ m, W 0 m [] σ (upd H D (.lst []))) ∧ lcTurn (Itt K a) D g tt te Q W := by
  refine lc_gen (n := xs.length) P h0 (fun k ys σ' H' hk hP => ?_) (fun ys σ' H' hP => ⟨⟨xs, hl _ _ _ _ (Nat.le_refl _) hP, Nat.le_refl _⟩, hd ys σ' H' hP⟩)
  have q := hl k ys σ' H' (Nat.le_of_lt hk) hP
  refine ⟨⟨xs, xs[k], q, by simp [hk]⟩, fun x H1 y => ?_⟩
  obtain ⟨rfl, y⟩ := y
  exact hs k x ys σ' _ (y xs q) hP
section
variable {X : Cx}
end
end L2

set_option Elab.async false
set_option linter.all false
set_option maxRecDepth 100000
set_option maxHeartbeats 4000000
/-! reversed(a list): walked, and as a list; cuts of a list by steps. Own work. -/
namespace RV
open PySem PyProof.Rows
section
variable {prog : Program} {w : World} {A : Around} {E : Value → Shared → Prop} {s : Shared} {J : Addr} {fp wr : List Addr} {G : Array GenState → Array GenState → Prop} {n : Nat} {P : Nat → Value → Prop} {St : Nat → Shared → Prop}
end
end RV
namespace L2
open PySem PySem.Spec PyProof.Rows
theorem bt_reversed : bootBuiltins "reversed" = some (.type "reversed") := by decide +kernel
section
variable {X : Cx} {e : Expr} {te : TE} {p1 p2 p3 p4 : Pos}
end
/-! ### a walk back over a list -/
def Itv (K : PySem.W.Frag) (a : Addr) (n : Nat) : It :=
  ⟨fun i H => i < n ∧ ∃ xs, SqL K H a xs ∧ xs.length = n, fun i H x H' => H' = H ∧ ∀ xs, SqL K H a xs → xs[n - 1 - i]? = some x, fun i H => i = n ∧ ∃ xs, SqL K H a xs ∧ xs.length = n⟩
theorem turn_rev {P : Program} {w : World} {K : PySem.W.Frag} {tg : Expr} (a it : Addr) (n : Nat) (hne : a ≠ it) :
    Turn P w K tg (Itv K a n) [it] it (fun i h => i ≤ n ∧ h.IsRevIter it a ((n : Int) - 1 - (i : Int))) where
  mem := by simp
  obj := fun i h st b hb => by
    obtain ⟨_, o, ho, c, d⟩ := st
    rw [List.mem_singleton.mp hb]
    exact ⟨o, ho, fun v z => by rw [d] at z; cases z⟩
  keep := fun i h h' st k => ⟨st.1, st.2.at fun o ho => k it (by simp) o ho⟩
  item := by
    intro X hP hw hK hc i pins s σ H E I hf st hg
    subst hP hw hK
    obtain ⟨hi, xs, hq, hx⟩ := hg
    obtain ⟨its, rv, p, hz⟩ := I.list hq
    have hlen := rv.length
    obtain ⟨u, hu, ru⟩ := rv.get (i := n - 1 - i) (x := xs[n - 1 - i]'(by lia)) (List.getElem?_eq_getElem (by lia))
    have hit := st.2
    have e : (n : Int) - 1 - (i : Int) = ((n - 1 - i : Nat) : Int) := by lia
    rw [e] at hit
    refine wpAny_pyNext_rev_item hit p.isList (x := u) (by simpa using hu) fun h1 hit1 hs1 => ?_
    obtain ⟨o1, ho1, hc1, hd1⟩ := id hit1
    refine ⟨_, rfl, go_of ho1 hc1 hd1 (by decide) ⟨xs[n - 1 - i]'(by lia), H, ?_, ru, ⟨rfl, fun ys hy => by rw [I.list_inj hy hq]; exact List.getElem?_eq_getElem (by lia)⟩, ⟨hi, ?_⟩, fun b hb => (hf b hb).1⟩⟩
    · exact I.turnedL (ch := [it]) (t' := s.toks) hf fun b o hb q => hs1.extBut b o (fun z => hb (by simp [z])) q
    · have e2 : ((n - 1 - i : Nat) : Int) - 1 = (n : Int) - 1 - ((i + 1 : Nat) : Int) := by lia
      rw [e2] at hit1
      exact hit1
  done := by
    intro X hP hw hK hc i pins s σ H E I hf st hg
    subst hP hw hK
    obtain ⟨hi, xs, hq, hx⟩ := hg
    have hit := st.2
    have e : (n : Int) - 1 - (i : Int) = -1 := by lia
    rw [e] at hit
    exact wpAny_pyNext_rev_end (I.ok.hd hc) hit fun h' eb => ⟨rfl, I.turnedL (ch := [it]) (t' := s.toks) hf fun b o hb q => eb b o (fun z => hb (by simp [z])) q⟩
  self := fun _ _ _ _ _ st h => wpAny_pyIter_revIter st.2 h
def iRev (K : PySem.W.Frag) (te : TE) : TI := fun σ H R => te σ H fun x H1 => ∃ a xs, x = .ref a ∧ SqL K H1 a xs ∧ R (Itv K a xs.length) H1
section
variable {X : Cx}
theorem pi_rev {e : Expr} {te : TE} {p pos : Pos} {tg : Expr} (hg : Gl X "reversed") (hm : X.mg "reversed" = none) (he : PE X e te) (hs : starEach [e] X.env = [(false, eval e X.env)] := by rfl) :
    PI X tg (.Call (.Name "reversed" p) [e] [] pos) (iRev X.K te) := by
  intro pins s σ H R I h
  refine wpAny_Call_Name_kw (ld_blt I hg hm bt_reversed ?_)
  refine PyProof.Rows.callWith_type1 ?_ hs rfl
  rw [hs]
  show wpAny _ _ (spliced ((false, eval e X.env) :: [])) _ _ s
  refine Calls.spliced_cons (thn (he pins s σ H _ I h) ?_)
  rintro u s1 ⟨x, H1, I1, r1, q1⟩
  refine Calls.spliced_nil ?_
  obtain ⟨a, xs, rfl, hq, q⟩ := q1
  cases r1
  obtain ⟨its, rv, pl, hz⟩ := I1.list hq
  have hlen := rv.length
  have ha : a < s1.heap.objs.size := by obtain ⟨o, ho, _⟩ := pl.isList; exact Heap.lt_size ho
  refine call_reversed_list pl.isList ?_
  have hJ : (s1.heap.push (revObj a ((its.toArray.size : Int) - 1))).IsRevIter s1.heap.objs.size a ((xs.length : Int) - 1 - ((0 : Nat) : Int)) := by
    rw [hlen]
    refine ⟨_, Heap.get?_push_size _ rfl, rfl, ?_⟩
    show Data.fields #[.ref a, rawInt ((its.toArray.size : Int) - 1)] = _
    rw [List.size_toArray, show ((its.length : Int) - 1 - ((0 : Nat) : Int)) = (its.length : Int) - 1 by lia]
  refine wpAny_pyIter_revIter hJ ?_
  have I2 : Inv X pins σ H1 { s1 with heap := s1.heap.push (revObj a ((its.toArray.size : Int) - 1)) } := I1.kept (t' := s1.toks) fun b o q => Heap.get?_push_of_some _ q
  refine ⟨s1.heap.objs.size, [s1.heap.objs.size], _, _, H1, rfl, I2, turn_rev a _ xs.length (Nat.ne_of_lt ha), ⟨Nat.zero_le _, hJ⟩, fun b hb => ?_, q⟩
  rw [List.mem_singleton.mp hb]
  exact I1.fpOk (Nat.le_refl _) (I1.hok.fresh (Nat.le_refl _))
end
theorem for_rev {K : PySem.W.Frag} {a : Addr} {xs : List V} {g : TG} {tb : TS} {D : Ends} {σ : St} {H : Hp} (Pv : Nat → St → Hp → Prop) (h0 : Pv 0 σ H) (hl : ∀ i σ H, i ≤ xs.length → Pv i σ H → SqL K H a xs)
    (hs : ∀ i x σ H, xs[xs.length - 1 - i]? = some x → i < xs.length → Pv i σ H → g x σ H fun σ2 H2 => tb { D with nx := Pv (i + 1), ct := Pv (i + 1), bk := D.nx } σ2 H2) (hd : ∀ σ H, Pv xs.length σ H → D.nx σ H) :
    ∃ W : Nat → Nat → St → Hp → Prop, (∃ m, W 0 m σ H) ∧ ∀ i m σ H, W i m σ H →
      ((Itv K a xs.length).stop i H ∧ D.nx σ H) ∨ ((Itv K a xs.length).go i H ∧ ∃ N : St → Hp → Prop, (∀ σ' H', N σ' H' → ∃ m', m' < m ∧ W (i + 1) m' σ' H') ∧ ∀ x H', (Itv K a xs.length).yld i H x H' → g x σ H' fun σ2 H2 => tb { D with nx := N, ct := N, bk := D.nx } σ2 H2) := by
  refine ⟨fun i m σ H => m = xs.length - i ∧ i ≤ xs.length ∧ Pv i σ H, ⟨xs.length, by simp, Nat.zero_le _, h0⟩, ?_⟩
  rintro i m σ H ⟨rfl, hi, p⟩
  have q := hl i σ H hi p
  by_cases hlt : i < xs.length
  · refine .inr ⟨⟨hlt, xs, q, rfl⟩, Pv (i + 1), fun σ' H' p' => ⟨xs.length - (i + 1), by lia, rfl, hlt, p'⟩, fun x H' y => ?_⟩
    obtain ⟨rfl, y⟩ := y
    exact hs i x σ _ (y xs q) hlt p
  · have e : i = xs.length := by lia
    exact .inl ⟨⟨e, xs, q, rfl⟩, hd σ H (by rw [← e]; exact p)⟩
/-! ### cuts by steps -/
def pickA {α : Type} (xs : List α) (lo hi st : Option Int) : List α :=
  (sliceRange (sliceBounds lo hi st xs.length).1 (sliceBounds lo hi st xs.length).2.1 (sliceBounds lo hi st xs.length).2.2).filterMap (xs[·]?)
theorem pick_map {α β : Type} (f : α → β) (xs : List α) (lo hi st : Option Int) : pickA (xs.map f) lo hi st = (pickA xs lo hi st).map f := by
  unfold pickA
  rw [List.length_map, List.map_filterMap]
  congr 1
  funext i
  rw [List.getElem?_map]
theorem vals_pick {xs : List V} {us : List Value} (r : Vals xs us) : ∀ ix : List Nat, Vals (ix.filterMap (xs[·]?)) (ix.filterMap (us[·]?))
  | [] => .nil
  | i :: ix => by
    have ih := vals_pick r ix
    cases e : xs[i]? with
    | none => rw [List.filterMap_cons_none (by exact e), List.filterMap_cons_none (by exact r.none_of e)]; exact ih
    | some x =>
      obtain ⟨u, hu, ru⟩ := r.get e
      rw [List.filterMap_cons_some (by exact e), List.filterMap_cons_some (by exact hu)]
      exact .cons ru ih
theorem len_pick (its : List Value) (lo hi st : Option Int) : ((sliceRange (sliceBounds lo hi st its.length).1 (sliceBounds lo hi st its.length).2.1 (sliceBounds lo hi st its.length).2.2).filterMap (its[·]?)).length ≤ its.length := by
  have := slicePick_size_le its.toArray lo hi st
  unfold slicePick at this
  simpa using this
def tSlS (K : PySem.W.Frag) (te : TE) (tl th ts : TO) : TE := fun σ H Q => te σ H fun x H1 => tl σ H1 fun l H2 => th σ H2 fun u H3 => ts σ H3 fun k H4 =>
  ∃ a xs, x = .ref a ∧ SqL K H4 a xs ∧ k ≠ some 0 ∧ ∀ p, H4 p = none → Q (.ref p) (upd H4 p (.lst (pickA xs l u k)))
section
variable {X : Cx} {e : Expr} {te : TE} {lo hi : Option Expr} {ke : Expr} {tl th ts : TO} {pos p2 : Pos}
/-- a[lo:hi:step], a list -/
theorem pe_sliceS (he : PE X e te) (hl : PO X lo tl) (hu : PO X hi th) (hk : PO X (some ke) ts) : PE X (.Subscript e (.Slice lo hi (some ke) p2) pos) (tSlS X.K te tl th ts) := by
  intro pins s σ H Q I h
  refine Subscript_ (thn (he pins s σ H _ I h) ?_)
  rintro v s1 ⟨x, H1, I1, r1, q1⟩
  refine wpAny_Slice (thn (hl pins s1 σ H1 _ I1 q1) ?_)
  rintro vl s2 ⟨l, H2, I2, pl, q2⟩
  refine thn (hu pins s2 σ H2 _ I2 q2) ?_
  rintro vu s3 ⟨u, H3, I3, pu, q3⟩
  refine thn (hk pins s3 σ H3 _ I3 q3) ?_
  rintro vk s4 ⟨k, H4, I4, pk, q4⟩
  obtain ⟨a, xs, rfl, hq, hk0, q⟩ := q4
  cases r1
  have I5 : Inv X pins σ H4 { s4 with heap := s4.heap.push { cls := .type "slice", data := .fields #[vl, vu, vk] } } := I4.kept (t' := s4.toks) fun b ob z => Heap.get?_push_of_some _ z
  obtain ⟨its, r, ht, hz⟩ := I5.list hq
  have hlen := r.length
  show wpAny (model X.prog X.w) X.A (subscriptTail e (.Slice lo hi (some ke) p2) (.ref a) (.ref s4.heap.objs.size)) (EP X pins σ Q) X.xe { s4 with heap := s4.heap.push { cls := .type "slice", data := .fields #[vl, vu, vk] } }
  refine tail_any (ops := [.ref a, .ref s4.heap.objs.size]) ht.isList.typeIs slot_list_getitem.lookup ?_ (by with_unfolding_all rfl)
  refine wpAny_getItem_list_slice ht.isList (Heap.IsSliceOf.new ..) pl pu pk hk0 ?_ (by rw [List.size_toArray]; lia)
  have hle := len_pick its l u k
  refine ⟨.ref _, _, I5.laid (t' := s4.toks) (o := .lst (pickA xs l u k)) (fun b ob z => Heap.get?_push_of_some _ z) (Nat.le_refl _) ?_, rfl, q _ (I5.hok.fresh (Nat.le_refl _))⟩
  have rp : Vals (pickA xs l u k) ((sliceRange (sliceBounds l u k its.length).1 (sliceBounds l u k its.length).2.1 (sliceBounds l u k its.length).2.2).filterMap (its[·]?)) := by
    unfold pickA
    rw [hlen]
    exact vals_pick r _
  refine ⟨by rw [rp.length]; lia, _, 0, rp, ?_⟩
  have e0 : slicePick its.toArray l u k = ((sliceRange (sliceBounds l u k its.length).1 (sliceBounds l u k its.length).2.1 (sliceBounds l u k its.length).2.2).filterMap (its[·]?)).toArray := by
    unfold slicePick
    simp only [List.size_toArray, List.getElem?_toArray]
  rw [← e0]
  exact Heap.get?_push_size _ rfl
end
theorem len_pickA {α : Type} (xs : List α) (lo hi st : Option Int) : (pickA xs lo hi st).length ≤ xs.length := by
  have := len_pick (xs.map fun _ => Value.none) lo hi st
  rw [List.length_map] at this
  refine Nat.le_trans (Nat.le_of_eq ?_) this
  unfold pickA
  have e : ∀ ix : List Nat, (ix.filterMap (xs[·]?)).length = (ix.filterMap ((xs.map fun _ => Value.none)[·]?)).length := by
    intro ix
    induction ix with
    | nil => rfl
    | cons i r ih =>
      cases q : xs[i]? with
      | none => rw [List.filterMap_cons_none (by exact q), List.filterMap_cons_none (by rw [List.getElem?_map, q]; rfl)]; exact ih
      | some z => rw [List.filterMap_cons_some (by exact q), List.filterMap_cons_some (b := Value.none) (by rw [List.getElem?_map, q]; rfl), List.length_cons, List.length_cons, ih]
  exact e _
end L2

set_option Elab.async false
set_option linter.all false
set_option maxRecDepth 100000
set_option maxHeartbeats 4000000
/-! d.setdefault(y, x); sorted(a list of ints). Own work. -/
namespace SDf
open PySem PyProof.Rows
section
variable {prog : Program} {w : World} {κ : Type} [DecidableEq κ] {knd : PySem.KeyKind prog w κ} {A : Around} {E : Value → Shared → Prop} {s : Shared}
end
end SDf
namespace L2
open PySem PySem.Spec PyProof.Rows
section
variable {X : Cx} {o e f : Expr} {apos cpos : Pos} {td ty tx : TE}
end
end L2

set_option Elab.async false
set_option linter.all false
set_option maxRecDepth 100000
set_option maxHeartbeats 4000000
/-! sorted(a list of ints); lists and tuples that are alike, within one another. Own work. -/
namespace L2
open PySem PySem.Spec PyProof.Rows SI
section
variable {X : Cx}
end
/-! ### alike, within one another -/
section
variable {X : Cx} {pins : List (Addr × Obj)} {σ : St} {H : Hp} {s : Shared}
end
section
variable {X : Cx}
end
end L2

set_option Elab.async false
set_option linter.all false
set_option maxRecDepth 100000
set_option maxHeartbeats 4000000
/-! t[lo:hi], the whole of it too. Own work. -/
namespace HT
open PySem PySem.Spec PyProof.Rows
section
variable {prog : Program} {w : World} {A : Around} {E : Value → Shared → Prop} {s : Shared}
end
end HT
namespace L2
open PySem PySem.Spec PyProof.Rows
end L2

set_option linter.all false
/-! Signs of texts as lists of numbers: parts at one sign, words between blanks, padding. Own work. -/
namespace TX
def Plain (l : List Nat) : Prop := ∀ k ∈ l, k ≠ 32 ∧ k ≠ 10 ∧ k ≠ 40 ∧ k ≠ 41
/-- a sign as the reader takes one: a bracket, or plain -/
def SignC (l : List Nat) : Prop := l = [40] ∨ l = [41] ∨ (Plain l ∧ l ≠ [])
end TX

set_option Elab.async false
set_option linter.all false
set_option maxRecDepth 100000
set_option maxHeartbeats 4000000
/-! Texts over the hand layer: their mathematics as lists of numbers; split, replace, startswith, walks over the signs, cuts, repeats. Own work. -/
namespace L2
open PySem PySem.Spec PyProof.Rows Builtin Builtin.Str
/-! ### texts as lists of numbers -/
def cpl (x : Str) : List Nat := x.cps.toList
def ofL (l : List Nat) : Str := ⟨l.toArray⟩
theorem cpl_ofL (l : List Nat) : cpl (ofL l) = l := by simp [cpl, ofL]
theorem ofL_cpl (x : Str) : ofL (cpl x) = x := by cases x; simp [cpl, ofL]
theorem cpl_inj {x y : Str} (h : cpl x = cpl y) : x = y := by rw [← ofL_cpl x, ← ofL_cpl y, h]
theorem cpl_len (x : Str) : (cpl x).length = x.length := by simp [cpl, Str.length]
theorem cpl_cat (x y : Str) : cpl (x ++ y) = cpl x ++ cpl y := by
  show (x ++ y).cps.toList = _
  rw [Str.cps_append, Array.toList_append]; rfl
/-! ### rules -/
section
variable {X : Cx}
end
end L2

set_option Elab.async false
set_option linter.all false
set_option maxRecDepth 100000
set_option maxHeartbeats 4000000
/-! Texts over the hand layer: walks over the signs, repeats, replace behind a def's entry. Own work. -/
namespace L2
open PySem PySem.Spec PyProof.Rows Builtin Builtin.Str
/-- a text's signs, as values -/
def sgn (c : Nat) : V := .str ⟨#[c]⟩
def sgns (x : Str) : List V := (cpl x).map sgn
/-- the signs of x, one after another -/
def Its (x : Str) : It := ⟨fun i _ => i < x.length, fun i H v H' => H' = H ∧ (sgns x)[i]? = some v, fun i _ => i = x.length⟩
section
variable {X : Cx} {tg : Expr}
end
end L2

set_option Elab.async false
set_option linter.all false
set_option maxRecDepth 100000
set_option maxHeartbeats 4000000
/-! Behind a def's entry at least one token has been counted: str.replace with written texts. Own work. -/
namespace L2
open PySem PySem.Spec PyProof.Rows Builtin Builtin.Str
/-- an expression read where a token has been counted -/
def PET (X : Cx) (e : Expr) (t : TE) : Prop :=
  ∀ (pins : List (Addr × Obj)) (s : Shared) (σ : St) (H : Hp) (Q : VK), 1 ≤ s.toks → Inv X pins σ H s → t σ H Q → wpAny (model X.prog X.w) X.A (eval e X.env) (EP X pins σ Q) X.xe s
def PST (X : Cx) (st : Stmt) (t : TS) : Prop :=
  ∀ (pins : List (Addr × Obj)) (s : Shared) (σ : St) (H : Hp) (D : Ends), 1 ≤ s.toks → Inv X pins σ H s → t D σ H → wpAny (model X.prog X.w) X.A (exec st X.env) (SP X pins D) X.xe s
def PSsT (X : Cx) (st : List Stmt) (t : TS) : Prop :=
  ∀ (pins : List (Addr × Obj)) (s : Shared) (σ : St) (H : Hp) (D : Ends), 1 ≤ s.toks → Inv X pins σ H s → t D σ H → wpAny (model X.prog X.w) X.A (execs st X.env) (SP X pins D) X.xe s
section
variable {X : Cx}
theorem PE.t {e : Expr} {t : TE} (h : PE X e t) : PET X e t := fun pins s σ H Q _ I q => h pins s σ H Q I q
theorem PSsT.nox {st : List Stmt} {t : TS} (h : PSsT X.nox st t) : PSsT X st t := fun pins s σ H D hk I hw =>
  wpAny_mono (h pins s σ H D hk (I.wish _) hw) (fun _ _ q => q.unwish) fun _ _ z => False.elim z
/-- o.replace('y', 'z') -/
def tRepl (y z : Str) (to : TE) : TE := fun σ H Q => to σ H fun v H1 => ∃ a, v = .str a ∧ a.length + (a.length + 1) * z.length ≤ 16777216 ∧ Q (.str (Txt.replace a y z)) H1
theorem pet_replace {o : Expr} {to : TE} {y z : Str} {j1 j2 : Nat} {p1 p2 apos cpos : Pos} (hyz : (y == z) = false) (ho : PET X o to)
    (hbase : attributeBase o "replace" X.env (eval o X.env) = eval o X.env := by rfl)
    (hline : (apos.endLine == cpos.line) = true := by rfl) :
    PET X (.Call (.Attribute o "replace" apos) [.Constant (.str y) j1 p1, .Constant (.str z) j2 p2] [] cpos) (tRepl y z to) := by
  intro pins s σ H Q hk I h
  refine wpAny_Call_method_late hbase (by rfl) hline rfl (thn (wpAny_mono (wpAny_toks_of hk (ho pins s σ H _ hk I h)) (fun _ _ z => z) fun _ _ z => z.2) ?_)
  rintro v s1 ⟨hk1, x, H1, I1, r1, a, e, hb, q1⟩
  subst e
  obtain ⟨t, rfl⟩ := r1
  refine ⟨"str", "str.replace", F.plainAttrs_str, F.slot_str_replace, F.type_str_replace, typeIs_str _ _ _, (fun _ e => nomatch e), ?_⟩
  refine Calls.callWith_builtin rfl (Calls.evalArgs_plain ?_)
  show wpAny _ _ (spliced [(false, eval (.Constant (.str y) j1 p1) X.env), (false, eval (.Constant (.str z) j2 p2) X.env)]) _ _ s1
  refine Calls.spliced_cons (Calls.Constant_str ?_)
  refine Calls.spliced_cons (Calls.Constant_str ?_)
  refine Calls.spliced_nil ?_
  exact SC.replace (by show s1.toks ≠ 0; lia) (by show s1.toks + 1 ≠ 0; lia) (by show s1.toks ≠ s1.toks + 1; lia) hyz hb fun t' k => ⟨.str _, H1, (I1.tok _).tok _, ⟨t', rfl⟩, q1⟩
end
/-! ### the entry -/
section
variable {M : Model} {A : Around} {E : Value → Shared → Prop} {s₀ : Shared} {env : Env}
theorem bindParamsT (f : Str × Value → PUnit → Sem (ForInStep PUnit)) (hf : ∀ n v u, f (n, v) u = (do storeName env n v; pure (.yield ⟨⟩))) (hk : env.scope.kind = .function)
    {n : Str} {v : Value} {r : List (Str × Value)} {m cm : Str → Option Value} {s : Shared} {Q : PUnit → Shared → Prop} (x : InCallC s₀ env.locals m env.cells cm s) (hl : env.kindOf n = some .local)
    (hr : ∀ x ∈ r, env.kindOf x.1 = some .local ∨ (env.kindOf x.1 = some .cell ∧ (env.cells.lookup x.1).isSome = true))
    (h : ∀ s', 1 ≤ s'.toks → InCallC s₀ env.locals (bindL env.kindOf ((n, v) :: r) m) env.cells (bindC env.kindOf ((n, v) :: r) cm) s' → Q ⟨⟩ s') : wpAny M A (forIn ((n, v) :: r) ⟨⟩ f) Q E s := by
  rw [List.forIn_cons, hf]
  refine wpAny_bind (wpAny_bind (wpAny_storeName_local hl x.toInCall.ns (fun h' hn' hs' => ?_) (by rw [hk]; rfl)))
  have x' : InCallC s₀ env.locals (fun y => if y = n then some v else m y) env.cells cm { s with heap := h', toks := s.toks + 1 } := by
    refine ⟨⟨?_, hn', fun b o e => ?_, x.toInCall.fresh⟩, fun k c hc => ?_, x.apart, x.above⟩
    · obtain ⟨h₁, tk, rfl⟩ := x.toInCall.same
      exact ⟨h', _, rfl⟩
    · exact hs'.extBut b o (Nat.ne_of_lt (Nat.lt_of_lt_of_le (Heap.lt_size e) x.toInCall.fresh)) (x.toInCall.keep b o e)
    · exact (x.cell k c hc).sameBut hs' (Nat.ne_of_gt (x.above k c (mem_of_lookup hc)))
  refine wpAny_pure ?_
  refine wpAny_with_toks (n := 1) (by show 1 ≤ s.toks + 1; lia) (wpAny_bindParams f hf hk r _ _ _ (fun a s' => 1 ≤ s'.toks → Q a s') x' hr fun s'' x'' hk'' => h s'' hk'' ?_)
  unfold bindL bindC; rw [if_pos hl, if_pos hl]; exact x''
end
theorem newEnvT {M : Model} {A : Around} {E : Value → Shared → Prop} {s : Shared} {scope : Scope} {globals : Addr} {n : Str} {v : Value} {r : List (Str × Value)} {qual : Str} {func : Option Addr} {code : Value} {builtins : Addr} {Q : Env → Shared → Prop}
    (hk : scope.kind = .function) (hl : scope.names.lookup n = some .local)
    (hkind : ∀ x ∈ r, scope.names.lookup x.1 = some .local ∨ (scope.names.lookup x.1 = some .cell ∧ ((cellsFrom (s.heap.objs.size + 1) scope.names []).lookup x.1).isSome = true))
    (hQ : ∀ env, env = newEnv scope s.heap.objs.size globals (cellsFrom (s.heap.objs.size + 1) scope.names []) qual func code none builtins →
      ∀ s', 1 ≤ s'.toks → InCallC s env.locals (bindL env.kindOf ((n, v) :: r) fun _ => none) env.cells (bindC env.kindOf ((n, v) :: r) fun _ => none) s' → Q env s') :
    wpAny M A (newFunctionEnv scope globals [] ((n, v) :: r) qual func code none builtins) Q E s := by
  simp only [newFunctionEnv, Option.isSome_none, Bool.false_eq_true, if_false]
  refine wpAny_bind (wpAny_alloc ?_)
  refine wpAny_bind (wpAny_layCells _ (fun name kind cells => by cases hkc : kind == NameKind.cell <;> simp [hkc]) _ _ _ _ ?_)
  have ok := cellsFrom_ok scope.names (s.heap.push { cls := .type "frame", data := .dict #[] }) (s.heap.objs.size + 1) [] ⟨fun _ _ hm => (nomatch hm), List.Pairwise.nil⟩ (by rw [Heap.size_push]; exact Nat.le_refl _)
  rw [Heap.size_push] at ok
  rw [show ({ s with heap := s.heap.push { cls := .type "frame", data := .dict #[] } } : Shared).heap.objs.size = s.heap.objs.size + 1 from Heap.size_push ..]
  exact wpAny_bind (bindParamsT (s₀ := s) (env := newEnv scope s.heap.objs.size globals (cellsFrom (s.heap.objs.size + 1) scope.names []) qual func code none builtins)
    _ (fun _ _ _ => rfl) hk (m := fun _ => none) (cm := fun _ => none)
    ⟨⟨⟨_, _, rfl⟩, (Heap.Ns.new s.heap (.type "frame")).keeps (pushCells_keeps _ _), fun b o e => pushCells_keeps _ _ b o (Heap.get?_push_of_some _ e), Nat.le_refl _⟩,
      fun n c hc => (ok.empty n c (mem_of_lookup hc)).1, ok.apart, fun n c hm => (ok.empty n c hm).2⟩
    hl hkind fun s' hk' x => wpAny_pure (hQ _ rfl s' hk' x))
theorem fn_ofT {CX : CXT} {P : Program} {w : World} {K : PySem.W.Frag} {mg : Str → Option Value} {base : Heap} {k : Nat} {f : Addr} {name qual : Str} {params : Arguments} {body : List Stmt} {scope : Scope} {dV kV doc pm cdv ct oc : Value} {an od : Option Addr}
    {osl : Array (Option Value)} {N ps : List Str} {p0 : Str} {sp : Sp} (lk : K.lookup f = some ⟨oc, od, .func (PySem.W.fnOf name qual params body scope dV kV doc pm an cdv ct), osl⟩) (hcd : PySem.W.codeIn K cdv qual = true) (S : FnScope N (p0 :: ps) scope)
    (hl0 : scope.names.lookup p0 = some .local)
    (len : ∀ vs H Q E, sp vs H Q E → vs.length = (p0 :: ps).length)
    (hbody : ∀ (A : Around) (outer : List Env) (s : Shared) (H : Hp) (vs : List V) (Q : VK) (E : XK), Room k (A.deeper (envOfC qual scope s.heap.objs.size f cdv)) → sp vs H Q E →
      ∃ t, PSsT (cxOf CX P w K mg base N qual scope f cdv A outer s H E) body t ∧ t { nx := fun _ H' => Q .non H', rt := Q } (start N vs) H) :
    FnOk P w K mg base CX (k + 1) f (PySem.W.fnOf name qual params body scope dV kV doc pm an cdv ct) (p0 :: ps) sp := by
  refine ⟨len, fun A outer s H args us vs Q E hr e0 hb r hsp => ?_⟩
  have hl := len _ _ _ _ hsp
  have KX : K.In s.heap := e0.mod.kin.keeps fun b o e => (e0.bs b o e).1
  have lim : s.heap.NoLimit := e0.mod.nolimit.keeps fun b o e => (e0.bs b o e).1
  have hkind : ∀ y ∈ ps.zip us.tail, scope.names.lookup y.1 = some .local ∨ (scope.names.lookup y.1 = some .cell ∧ ((cellsFrom (s.heap.objs.size + 1) scope.names []).lookup y.1).isSome = true) := fun ⟨n, v⟩ hy => by
    rcases S.par n (List.mem_cons_of_mem _ (List.of_mem_zip hy).1) with q | q
    · exact .inl q
    · exact .inr ⟨q, PySem.W.cellsFrom_some _ _ _ (.inl q)⟩
  refine codeAny_call_function hr.depth (KX _ _ lk) rfl S.co S.gen rfl (PySem.W.codeRec_of KX hcd) (hb _ _ _ _ ?_)
  have hus : ∃ u0 ur, us = u0 :: ur := by
    cases us with
    | nil => have := r.length; rw [hl] at this; simp at this
    | cons u0 ur => exact ⟨u0, ur, rfl⟩
  obtain ⟨u0, ur, rfl⟩ := hus
  refine newEnvT S.kind hl0 hkind fun env he s1 hk1 x => ?_
  subst he
  refine ⟨lim.keeps x.toInCall.keep, codeAny_func ?_⟩
  obtain ⟨t, ht, hq⟩ := hbody A outer s H vs Q E (hr.deeper _) hsp
  have I : Inv (cxOf CX P w K mg base N qual scope f cdv A outer s H E) [] (start N vs) H s1 := inv_start S hr.hd e0 hl r x
  refine wpAny_mono (ht [] s1 (start N vs) H _ hk1 I hq) (fun fl s' hs => ?_) fun e s' hs => hs
  have fin : ∀ {σ' : St} {H' : Hp} {v : V} {u : Value}, Inv (cxOf CX P w K mg base N qual scope f cdv A outer s H E) [] σ' H' s' → RelV v u → Q v H' → CE outer P w H s Q u s' :=
    fun {σ' H' v u} J rv q => ⟨v, H', J.os, J.bare, J.base, J.hok, rv, q⟩
  cases fl with
  | ret u =>
    obtain ⟨v, σ', H', J, rv, q⟩ := hs
    exact fin J rv q
  | next =>
    obtain ⟨σ', H', J, q⟩ := hs
    exact fin (v := V.non) (u := Value.none) J rfl q
  | brk =>
    obtain ⟨_, _, _, q⟩ := hs
    exact False.elim q
  | cont =>
    obtain ⟨_, _, _, q⟩ := hs
    exact False.elim q
theorem Fun.okT {P : Program} {w : World} {K : PySem.W.Frag} {mg : Str → Option Value} {base : Heap} {x qual : Str} {st : Stmt} {f : Addr} {fd : FuncData} {N ps : List Str} {p0 : Str} {k : Nat} {sp : Sp} (F : Fun K x qual st f fd) (S : FnScope N (p0 :: ps) (defScope st)) (hl0 : (defScope st).names.lookup p0 = some .local) (len : ∀ vs H Q E, sp vs H Q E → vs.length = (p0 :: ps).length)
    (hbody : ∀ (cdv : Value) (A : Around) (outer : List Env) (s : Shared) (H : Hp) (vs : List V) (Q : VK) (E : XK), Room k (A.deeper (envOfC qual (defScope st) s.heap.objs.size f cdv)) → sp vs H Q E →
      ∃ t, PSsT (cxOf CX0 P w K mg base N qual (defScope st) f cdv A outer s H E).nox (defBody st) t ∧ t { nx := fun _ H' => Q .non H', rt := Q } (start N vs) H) : FnOk P w K mg base CX0 (k + 1) f fd (p0 :: ps) sp := by
  obtain ⟨oc, od, kV, doc, pm, an, cdv, ct, osl, rfl, lk, hcd⟩ := F.ex
  refine fn_ofT lk hcd S hl0 len fun A outer s H vs Q E hr hsp => ?_
  obtain ⟨t, h, q⟩ := hbody cdv A outer s H vs Q E hr hsp
  exact ⟨t, h.nox, q⟩
end L2

set_option Elab.async false
set_option linter.all false
set_option maxRecDepth 100000
set_option maxHeartbeats 4000000
/-! Texts over the hand layer: join. Own work. -/
namespace L2
open PySem PySem.Spec PyProof.Rows Builtin Builtin.Str
theorem strs_of_vals : ∀ {xs : List Str} {its : List Value}, Vals (xs.map V.str) its → ∃ l : List (Str × Tok), its = strValues l ∧ l.map (·.1) = xs
  | [], _, .nil => ⟨[], rfl, rfl⟩
  | x :: r, _, .cons ⟨t, e⟩ rr => by
    obtain ⟨l, e1, e2⟩ := strs_of_vals rr
    exact ⟨(x, t) :: l, by rw [e, e1]; rfl, by rw [List.map_cons, e2]⟩
section
variable {X : Cx}
def rJoin (K : PySem.W.Frag) : V → List V → Hp → VK → Prop := fun x vs H Q => ∃ a D xs, x = .str a ∧ vs = [.ref D] ∧ SqL K H D (xs.map V.str) ∧ JoinOk a xs = true ∧ Q (.str (Str.join a xs)) H
theorem mt_join : MtR X "str.join" (rJoin X.K) := by
  intro pins s σ H x xs v us Q I rx rs h
  obtain ⟨a, D, ts, rfl, rfl, hq, hok, q⟩ := h
  obtain ⟨t, rfl⟩ := rx
  obtain ⟨u, rfl, ru⟩ := vals1 rs
  cases ru
  obtain ⟨its, rv, pl, hz⟩ := I.list hq
  obtain ⟨l, rfl, hl⟩ := strs_of_vals rv
  refine SC.join pl.isList hl hok fun t' k => ⟨.str _, H, I.tok _, ⟨t', rfl⟩, ?_⟩
  show Q (.str (glued a ts)) H
  rw [StrLaws.glued_eq_join]
  exact q
end
theorem joinOk_of {a : Str} {xs : List Str} {B : Nat} (hB : ∀ y ∈ xs, y.length ≤ B) (h : xs.length * B + xs.length * a.length ≤ 16777216) : JoinOk a xs = true := by
  unfold JoinOk
  rw [StrLaws.joinFits hB h]; rfl
end L2
namespace TX
end TX
namespace L2
open PySem
end L2

set_option Elab.async false
set_option linter.all false
set_option maxRecDepth 100000
set_option maxHeartbeats 4000000
set_option exponentiation.threshold 3000
/-! k75: cores as trees, on the heap; names that are numbered. Own work. -/
namespace K75
open PySem L2 Builtin.Str
def top (i : Nat) : Stmt := PySem.Challenge.pw_macrohouse_k75_named_so_already.main.body.getD i (.Pass ⟨0, 0, 0, 0⟩)
abbrev sInner : Stmt := top 2
abbrev sWithin : Stmt := top 3
abbrev sNames : Stmt := top 5
abbrev sTaken : Stmt := top 6
abbrev sPut : Stmt := top 7
abbrev sNumbered : Stmt := top 8
abbrev sWritten : Stmt := top 19
abbrev sRowOf : Stmt := top 20
abbrev sWordOf : Stmt := top 21
abbrev sItemTree : Stmt := top 22
abbrev sCoreTree : Stmt := top 23
abbrev sHeadTrees : Stmt := top 24
abbrev sCell : Stmt := top 26
abbrev sNext : Stmt := top 27
abbrev sPool : Stmt := top 28
abbrev sNew : Stmt := top 29
abbrev sLeaf : Stmt := top 30
abbrev sMany : Stmt := top 31
abbrev sCore : Stmt := top 32
abbrev sItems : Stmt := top 33
abbrev sMoved : Stmt := top 34
abbrev sChanged : Stmt := top 35
abbrev sAll : Stmt := top 36
abbrev sLaw : Stmt := top 37
structure Txt (mg : Str → Option Value) : Prop where
  len : mg "len" = none
  list : mg "list" = none
  rev : mg "reversed" = none
  range : mg "range" = none
  isi : mg "isinstance" = none
  tuple : mg "tuple" = none
  dict : mg "dict" = none
  str : mg "str" = none
/-! ### one for one -/
def Al {α : Type} (R : α → V → Prop) (xs : List α) (vs : List V) : Prop := vs.length = xs.length ∧ ∀ (i : Nat) a, xs[i]? = some a → ∃ v, vs[i]? = some v ∧ R a v
section
variable {α : Type} {R R' : α → V → Prop} {xs : List α} {vs : List V}
theorem Al.nil : Al R [] [] := ⟨rfl, fun i a e => by simp at e⟩
theorem Al.mono (f : ∀ a v, R a v → R' a v) (h : Al R xs vs) : Al R' xs vs := ⟨h.1, fun i a e => by obtain ⟨v, e1, r⟩ := h.2 i a e; exact ⟨v, e1, f _ _ r⟩⟩
theorem Al.append {ys : List α} {us : List V} (h : Al R xs vs) (g : Al R ys us) : Al R (xs ++ ys) (vs ++ us) := by
  refine ⟨by rw [List.length_append, List.length_append, h.1, g.1], fun i b e => ?_⟩
  by_cases hi : i < xs.length
  · rw [List.getElem?_append_left hi] at e
    obtain ⟨u, e1, r1⟩ := h.2 i b e
    exact ⟨u, by rw [List.getElem?_append_left (by rw [h.1]; exact hi)]; exact e1, r1⟩
  · rw [List.getElem?_append_right (by lia)] at e
    obtain ⟨u, e1, r1⟩ := g.2 _ b e
    exact ⟨u, by rw [List.getElem?_append_right (by rw [h.1]; lia), h.1]; exact e1, r1⟩
theorem Al.cons {a : α} {v : V} (r : R a v) (h : Al R xs vs) : Al R (a :: xs) (v :: vs) := by
  refine ⟨by rw [List.length_cons, List.length_cons, h.1], fun i b e => ?_⟩
  cases i with
  | zero => simp at e; subst e; exact ⟨v, rfl, r⟩
  | succ i => simpa using h.2 i b (by simpa using e)
theorem Al.snoc (h : Al R xs vs) {a : α} {v : V} (r : R a v) : Al R (xs ++ [a]) (vs ++ [v]) := h.append (Al.cons r Al.nil)
theorem Al.of_mem (h : Al R xs vs) {v : V} (hv : v ∈ vs) : ∃ a, a ∈ xs ∧ R a v := by
  obtain ⟨i, hi, e⟩ := List.getElem_of_mem hv
  have hx : i < xs.length := by rw [← h.1]; exact hi
  obtain ⟨u, eu, r⟩ := h.2 i xs[i] (List.getElem?_eq_getElem hx)
  rw [List.getElem?_eq_getElem hi] at eu
  have : vs[i] = u := by injection eu
  exact ⟨xs[i], List.getElem_mem hx, by rw [← e, this]; exact r⟩
theorem Al.at (h : Al R xs vs) {i : Nat} {v : V} (hv : vs[i]? = some v) : ∃ a, xs[i]? = some a ∧ R a v := by
  have hi := (List.getElem?_eq_some_iff.mp hv).1
  have hx : i < xs.length := by rw [← h.1]; exact hi
  obtain ⟨u, eu, r⟩ := h.2 i xs[i] (List.getElem?_eq_getElem hx)
  rw [hv] at eu
  have : v = u := by injection eu
  exact ⟨xs[i], List.getElem?_eq_getElem hx, by rw [this]; exact r⟩
theorem Al.uncons {a : α} (h : Al R (a :: xs) vs) : ∃ v vs', vs = v :: vs' ∧ R a v ∧ Al R xs vs' := by
  cases vs with
  | nil => exact absurd h.1 (by simp)
  | cons v vs' =>
    refine ⟨v, vs', rfl, ?_, by simpa using h.1, fun i b e => ?_⟩
    · obtain ⟨u, e1, r⟩ := h.2 0 a rfl
      simp at e1; subst e1; exact r
    · simpa using h.2 (i + 1) b (by simpa using e)
theorem Al.nil_of (h : Al R [] vs) : vs = [] := List.length_eq_zero_iff.mp h.1
theorem Al.unsnoc {a : α} (h : Al R (xs ++ [a]) vs) : ∃ vs' v, vs = vs' ++ [v] ∧ R a v ∧ Al R xs vs' := by
  have hl := h.1
  rw [List.length_append, List.length_singleton] at hl
  have hd : vs = vs.dropLast ++ [vs.getLast (fun e => by rw [e] at hl; simp at hl)] := (List.dropLast_concat_getLast _).symm
  have hdl : vs.dropLast.length = xs.length := by rw [List.length_dropLast]; lia
  refine ⟨vs.dropLast, vs.getLast (fun e => by rw [e] at hl; simp at hl), hd, ?_, hdl, fun i b e => ?_⟩
  · obtain ⟨u, e1, r⟩ := h.2 xs.length a (by rw [List.getElem?_append_right (Nat.le_refl _), Nat.sub_self]; rfl)
    rw [hd, List.getElem?_append_right (by lia), hdl, Nat.sub_self] at e1
    have e2 := Option.some.inj e1
    rw [e2]; exact r
  · have hi := (List.getElem?_eq_some_iff.mp e).1
    obtain ⟨u, e1, r⟩ := h.2 i b (by rw [List.getElem?_append_left hi]; exact e)
    rw [hd, List.getElem?_append_left (by lia)] at e1
    exact ⟨u, e1, r⟩
theorem Al.reverse : ∀ {xs : List α} {vs : List V}, Al R xs vs → Al R xs.reverse vs.reverse
  | [], vs, h => by have := h.nil_of; subst this; exact Al.nil
  | a :: xs, vs, h => by
    obtain ⟨v, vs', rfl, r, h'⟩ := h.uncons
    rw [List.reverse_cons, List.reverse_cons]
    exact (Al.reverse h').snoc r
end
/-- tuples stay -/
def Tup (H H' : Hp) : Prop := ∀ e xs, H e = some (.tup xs) → H' e = some (.tup xs)
theorem Tup.refl (H : Hp) : Tup H H := fun _ _ q => q
theorem Tup.trans {H H' H'' : Hp} (a : Tup H H') (b : Tup H' H'') : Tup H H'' := fun e xs q => b e xs (a e xs q)
theorem Tup.of {H H' : Hp} (s : Same H H') : Tup H H' := fun e xs q => s _ _ q
theorem kind_ne {H : Hp} {a c : Addr} {o u : HO} (h1 : H a = some o) (h2 : H c = some u) (h : o ≠ u) : a ≠ c := fun e => by
  rw [e, h2] at h1
  exact h (Option.some.inj h1).symm
theorem Tup.lst {H : Hp} {D : Addr} {xs ys : List V} (h : H D = some (.lst xs)) : Tup H (upd H D (.lst ys)) := fun e zs q => by rw [upd_ne (kind_ne q h (fun z => nomatch z))]; exact q
/-! ### cores -/
inductive Tg where
  | num (z : Int)
  | free (n : Str)
  | seen (p : Int)
  | fn (ps : List (Int × Str))
  | call
  | pick
  | now
inductive Co where
  | mk (t : Tg) (ks : List Co)
def PaIn (H : Hp) (p : Int × Str) (v : V) : Prop := ∃ t, v = .ref t ∧ H t = some (.tup [.int p.1, .str p.2])
theorem PaIn.tup {H H' : Hp} (s : Tup H H') {p : Int × Str} {v : V} (h : PaIn H p v) : PaIn H' p v := by obtain ⟨t, e, q⟩ := h; exact ⟨t, e, s _ _ q⟩
/-- a core's own object -/
def CoAt (H : Hp) : Tg → Addr → List V → Prop
  | .num z, a, vs => vs = [] ∧ H a = some (.tup [.str "num", .int z])
  | .free n, a, vs => vs = [] ∧ H a = some (.tup [.str "free", .str n])
  | .seen p, a, vs => vs = [] ∧ H a = some (.tup [.str "seen", .int p])
  | .fn ps, a, vs => ∃ (u : Addr) (pv : List V) (b : V), vs = [b] ∧ H a = some (.tup [.str "fn", .ref u, b]) ∧ H u = some (.tup pv) ∧ Al (PaIn H) ps pv
  | .call, a, vs => ∃ (u : Addr) (f : V) (as : List V), vs = f :: as ∧ H a = some (.tup [.str "call", f, .ref u]) ∧ H u = some (.tup as)
  | .pick, a, vs => ∃ x y z, vs = [x, y, z] ∧ H a = some (.tup [.str "pick", x, y, z])
  | .now, a, vs => ∃ x, vs = [x] ∧ H a = some (.tup [.str "now", x])
theorem CoAt.tup {H H' : Hp} (s : Tup H H') : ∀ {t : Tg} {a : Addr} {vs : List V}, CoAt H t a vs → CoAt H' t a vs
  | .num z, a, vs, ⟨e, h⟩ => ⟨e, s _ _ h⟩
  | .free z, a, vs, ⟨e, h⟩ => ⟨e, s _ _ h⟩
  | .seen z, a, vs, ⟨e, h⟩ => ⟨e, s _ _ h⟩
  | .fn ps, a, vs, ⟨u, pv, b, e, h, hu, hp⟩ => ⟨u, pv, b, e, s _ _ h, s _ _ hu, hp.mono fun _ _ r => r.tup s⟩
  | .call, a, vs, ⟨u, f, as, e, h, hu⟩ => ⟨u, f, as, e, s _ _ h, s _ _ hu⟩
  | .pick, a, vs, ⟨x, y, z, e, h⟩ => ⟨x, y, z, e, s _ _ h⟩
  | .now, a, vs, ⟨x, e, h⟩ => ⟨x, e, s _ _ h⟩
def Tg.kind : Tg → Str
  | .num _ => "num"
  | .free _ => "free"
  | .seen _ => "seen"
  | .fn _ => "fn"
  | .call => "call"
  | .pick => "pick"
  | .now => "now"
theorem CoAt.first {K : PySem.W.Frag} {H : Hp} : ∀ {t : Tg} {a : Addr} {vs : List V}, CoAt H t a vs → ∃ r, H a = some (.tup (.str t.kind :: r))
  | .num z, a, vs, ⟨e, h⟩ => ⟨_, h⟩
  | .free z, a, vs, ⟨e, h⟩ => ⟨_, h⟩
  | .seen z, a, vs, ⟨e, h⟩ => ⟨_, h⟩
  | .fn ps, a, vs, ⟨u, pv, b, e, h, hu, hp⟩ => ⟨_, h⟩
  | .call, a, vs, ⟨u, f, as, e, h, hu⟩ => ⟨_, h⟩
  | .pick, a, vs, ⟨x, y, z, e, h⟩ => ⟨_, h⟩
  | .now, a, vs, ⟨x, e, h⟩ => ⟨_, h⟩
mutual
def CoIn (H : Hp) : Co → V → Prop
  | .mk t ks, v => ∃ a vs, v = .ref a ∧ CoAt H t a vs ∧ CosIn H ks vs
def CosIn (H : Hp) : List Co → List V → Prop
  | [], vs => vs = []
  | k :: ks, vs => ∃ x xs, vs = x :: xs ∧ CoIn H k x ∧ CosIn H ks xs
end
mutual
theorem CoIn.tup {H H' : Hp} (s : Tup H H') : ∀ {c : Co} {v : V}, CoIn H c v → CoIn H' c v
  | .mk t ks, v, h => by
    unfold CoIn at h ⊢
    obtain ⟨a, vs, e, h1, h2⟩ := h
    exact ⟨a, vs, e, h1.tup s, CosIn.tup s h2⟩
theorem CosIn.tup {H H' : Hp} (s : Tup H H') : ∀ {ks : List Co} {vs : List V}, CosIn H ks vs → CosIn H' ks vs
  | [], vs, h => by unfold CosIn at h ⊢; exact h
  | k :: ks, vs, h => by
    unfold CosIn at h ⊢
    obtain ⟨x, xs, e, h1, h2⟩ := h
    exact ⟨x, xs, e, CoIn.tup s h1, CosIn.tup s h2⟩
end
theorem CosIn.al {H : Hp} : ∀ {ks : List Co} {vs : List V}, CosIn H ks vs → Al (CoIn H) ks vs
  | [], vs, h => by unfold CosIn at h; subst h; exact Al.nil
  | k :: ks, vs, h => by
    unfold CosIn at h
    obtain ⟨x, xs, rfl, h1, h2⟩ := h
    exact Al.cons h1 (CosIn.al h2)
theorem CosIn.of {H : Hp} : ∀ {ks : List Co} {vs : List V}, Al (CoIn H) ks vs → CosIn H ks vs
  | [], vs, h => by unfold CosIn; exact h.nil_of
  | k :: ks, vs, h => by
    unfold CosIn
    obtain ⟨x, xs, rfl, h1, h2⟩ := h.uncons
    exact ⟨x, xs, rfl, h1, CosIn.of h2⟩
theorem CoIn.cut {H : Hp} {t : Tg} {ks : List Co} {v : V} (h : CoIn H (.mk t ks) v) : ∃ a vs, v = .ref a ∧ CoAt H t a vs ∧ Al (CoIn H) ks vs := by
  unfold CoIn at h
  obtain ⟨a, vs, e, h1, h2⟩ := h
  exact ⟨a, vs, e, h1, h2.al⟩
theorem CoIn.mk' {H : Hp} {t : Tg} {ks : List Co} {a : Addr} {vs : List V} (h1 : CoAt H t a vs) (h2 : Al (CoIn H) ks vs) : CoIn H (.mk t ks) (.ref a) := by
  unfold CoIn
  exact ⟨a, vs, rfl, h1, CosIn.of h2⟩
def Co.tg : Co → Tg
  | .mk t _ => t
def Co.ks : Co → List Co
  | .mk _ ks => ks
mutual
def sz : Co → Nat
  | .mk _ ks => 1 + szs ks
def szs : List Co → Nat
  | [] => 0
  | k :: ks => sz k + szs ks
end
mutual
def pre : Co → List Co
  | .mk t ks => .mk t ks :: pres ks
def pres : List Co → List Co
  | [] => []
  | k :: ks => pre k ++ pres ks
end
theorem szs_cons (k : Co) (ks : List Co) : szs (k :: ks) = sz k + szs ks := by rw [szs]
theorem sz_mk (t : Tg) (ks : List Co) : sz (.mk t ks) = 1 + szs ks := by rw [sz]
theorem pre_eq (t : Tg) (ks : List Co) : pre (.mk t ks) = .mk t ks :: pres ks := by rw [pre]
theorem pres_cons (k : Co) (ks : List Co) : pres (k :: ks) = pre k ++ pres ks := by rw [pres]
theorem szs_append : ∀ (xs ys : List Co), szs (xs ++ ys) = szs xs + szs ys
  | [], ys => by simp [szs]
  | x :: xs, ys => by
    show szs (x :: (xs ++ ys)) = _
    rw [szs_cons, szs_cons, szs_append xs ys]; lia
theorem szs_reverse : ∀ (xs : List Co), szs xs.reverse = szs xs
  | [] => rfl
  | x :: xs => by
    rw [List.reverse_cons, szs_append, szs_reverse xs]
    simp only [szs]
    lia
theorem pres_append : ∀ (xs ys : List Co), pres (xs ++ ys) = pres xs ++ pres ys
  | [], ys => by simp [pres]
  | x :: xs, ys => by
    show pres (x :: (xs ++ ys)) = _
    simp only [pres]
    rw [pres_append xs ys, List.append_assoc]
mutual
theorem pre_len : ∀ (c : Co), (pre c).length = sz c
  | .mk t ks => by
    unfold pre sz
    rw [List.length_cons, pres_len ks]; lia
theorem pres_len : ∀ (cs : List Co), (pres cs).length = szs cs
  | [] => by simp [pres, szs]
  | c :: cs => by
    unfold pres szs
    rw [List.length_append, pre_len c, pres_len cs]
end
/-! ### what is taken -/
def nm : Co → Option Str
  | .mk (.free n) _ => some n
  | .mk (.fn _) _ => some "fn"
  | .mk .pick _ => some "pick"
  | .mk .now _ => some "now"
  | _ => none
/-- a dict's strs -/
def Ks (kvs : List (Key × V)) (U : Str → Prop) : Prop := ∀ n : Str, (valV kvs (.inr n)).isSome = true ↔ U n
theorem Ks.nil : Ks [] (fun _ => False) := fun n => by rw [valV_nil]; simp
theorem Ks.put {kvs : List (Key × V)} {U : Str → Prop} (h : Ks kvs U) (x : Str) (v : V) : Ks (putK kvs (.inr x) v) (fun n => n = x ∨ U n) := fun n => by
  rw [valV_put]
  by_cases e : n = x
  · subst e; simp
  · rw [if_neg (fun z => e (Sum.inr.inj z)), h n]
    constructor
    · exact .inr
    · rintro (z | z)
      · exact absurd z e
      · exact z
theorem Ks.iff {kvs : List (Key × V)} {U U' : Str → Prop} (h : Ks kvs U) (e : ∀ n, U n ↔ U' n) : Ks kvs U' := fun n => (h n).trans (e n)
/-! ### numbered names -/
def nbn (n : Str) (m : Int) : Str := if m = 1 then n else n ++ Str.ofString (toString m)
theorem text_inj {a b : Int} (ha : 0 ≤ a) (hb : 0 ≤ b) (h : Str.ofString (toString a) = Str.ofString (toString b)) : a = b := by
  obtain ⟨m, rfl⟩ := Int.eq_ofNat_of_zero_le ha
  obtain ⟨k, rfl⟩ := Int.eq_ofNat_of_zero_le hb
  have e1 := PySem.W.KIN.signs_num m
  have e2 := PySem.W.KIN.signs_num k
  have e3 : (Nat.toDigits 10 m).map Char.toNat = (Nat.toDigits 10 k).map Char.toNat := by rw [← e1, ← e2]; exact congrArg (fun z : Str => z.cps.toList) h
  have e4 := PySem.W.KIN.val_back m
  have e5 := PySem.W.KIN.val_back k
  rw [e3, e5] at e4
  rw [e4]
theorem text_len {k : Int} (h0 : 0 ≤ k) : (Str.ofString (toString k)).length ≤ k.toNat + 1 ∧ 1 ≤ (Str.ofString (toString k)).length := by
  obtain ⟨m, rfl⟩ : ∃ m : Nat, k = (m : Int) := ⟨k.toNat, by lia⟩
  have e : (Str.ofString (toString (m : Int))).length = (Str.ofString (toString (m : Int))).cps.toList.length := by simp [Str.length]
  rw [e, PySem.W.KIN.signs_num, List.length_map]
  have h1 := PySem.toDigits_len_le 10 m
  have h3 : 1 ≤ (Nat.toDigits 10 m).length := PyProof.Rows.tDigits_len_ge 10 m
  constructor
  · have : ((m : Nat) : Int).toNat = m := by lia
    lia
  · lia
theorem str_cat_len (x y : Str) : (x ++ y).length = x.length + y.length := by
  rw [← cpl_len, cpl_cat, List.length_append, cpl_len, cpl_len]
theorem str_cat_inj {x y z : Str} (h : x ++ y = x ++ z) : y = z := by
  apply cpl_inj
  have := congrArg cpl h
  rw [cpl_cat, cpl_cat] at this
  exact List.append_cancel_left this
theorem nbn_inj {n : Str} {a b : Int} (ha : 1 ≤ a) (hb : 1 ≤ b) (h : nbn n a = nbn n b) : a = b := by
  have no : ∀ c : Int, 1 ≤ c → n ++ Str.ofString (toString c) ≠ n := fun c hc e => by
    have h1 := congrArg Str.length e
    rw [str_cat_len] at h1
    have := (text_len (k := c) (by lia)).2
    lia
  unfold nbn at h
  by_cases h1 : a = 1
  · by_cases h2 : b = 1
    · lia
    · rw [if_pos h1, if_neg h2] at h
      exact absurd h.symm (no b hb)
  · by_cases h2 : b = 1
    · rw [if_neg h1, if_pos h2] at h
      exact absurd h (no a ha)
    · rw [if_neg h1, if_neg h2] at h
      exact text_inj (by lia) (by lia) (str_cat_inj h)
theorem pig : ∀ (l ks : List Str), l.Nodup → (∀ x ∈ l, x ∈ ks) → l.length ≤ ks.length
  | [], ks, _, _ => Nat.zero_le _
  | x :: l, ks, hn, hs => by
    have hx : x ∈ ks := hs x (List.mem_cons_self ..)
    rw [List.nodup_cons] at hn
    have h1 := pig l (ks.erase x) hn.2 fun y hy => (List.mem_erase_of_ne (fun e : y = x => hn.1 (by rw [← e]; exact hy))).mpr (hs y (List.mem_cons_of_mem _ hy))
    have h2 := List.length_erase_of_mem hx
    have h3 : 0 < ks.length := List.length_pos_of_mem hx
    rw [List.length_cons]
    lia
theorem keys_mem {kvs : List (Key × V)} {n : Str} (h : (valV kvs (.inr n)).isSome = true) : n ∈ kvs.filterMap fun kv => match kv.1 with | .inr x => some x | _ => none := by
  cases e : valV kvs (.inr n) with
  | none => rw [e] at h; exact nomatch h
  | some v =>
    have := valV_in e
    obtain ⟨p, hp, e2⟩ := List.mem_map.mp this
    rw [List.mem_filterMap]
    exact ⟨p, hp, by rw [e2]⟩
/-- of so many numbers one is not used -/
theorem one_free (kvs : List (Key × V)) (n : Str) {k : Int} (hk : 1 ≤ k) : ∃ j : Nat, j ≤ kvs.length ∧ valV kvs (.inr (nbn n (k + (j : Int)))) = none := by
  apply Classical.byContradiction
  intro hno
  have all : ∀ j : Nat, j ≤ kvs.length → (valV kvs (.inr (nbn n (k + (j : Int))))).isSome = true := fun j hj => by
    cases e : valV kvs (.inr (nbn n (k + (j : Int)))) with
    | none => exact absurd ⟨j, hj, e⟩ hno
    | some v => rfl
  have h1 := pig ((List.range (kvs.length + 1)).map fun j : Nat => nbn n (k + (j : Int))) (kvs.filterMap fun kv => match kv.1 with | .inr x => some x | _ => none) ?_ ?_
  · rw [List.length_map, List.length_range] at h1
    have := List.length_filterMap_le (fun kv : Key × V => match kv.1 with | .inr x => some x | _ => none) kvs
    omega
  · refine List.Pairwise.map _ (fun (a b : Nat) (hab : a ≠ b) e => hab ?_) List.nodup_range
    have := nbn_inj (by omega) (by omega) e
    omega
  · intro x hx
    obtain ⟨j, hj, rfl⟩ := List.mem_map.mp hx
    exact keys_mem (all j (by rw [List.mem_range] at hj; omega))
/-- the first number that is not used -/
def Lst (U : Str → Prop) (n : Str) (m : Int) : Prop := 1 ≤ m ∧ ¬ U (nbn n m) ∧ ∀ j : Int, 1 ≤ j → j < m → U (nbn n j)
theorem Lst.uniq {U U' : Str → Prop} (e : ∀ x, U x ↔ U' x) {n : Str} {m m' : Int} (h : Lst U n m) (h' : Lst U' n m') : m = m' := by
  rcases Int.lt_trichotomy m m' with g | g | g
  · exact absurd ((e _).mpr (h'.2.2 m h.1 g)) h.2.1
  · exact g
  · exact absurd ((e _).mp (h.2.2 m' h'.1 g)) h'.2.1
inductive NT (U0 : Str → Prop) : List (Int × Str) → List (Int × Str) → (Str → Prop) → Prop where
  | nil : NT U0 [] [] U0
  | snoc {ps r : List (Int × Str)} {U : Str → Prop} {p : Int} {n : Str} {m : Int} (h : NT U0 ps r U) (hm : Lst U n m) : NT U0 (ps ++ [(p, n)]) (r ++ [(p, nbn n m)]) (fun x => x = nbn n m ∨ U x)
theorem snoc_inj {α : Type} {xs ys : List α} {x y : α} (h : xs ++ [x] = ys ++ [y]) : xs = ys ∧ x = y := by
  have h1 := List.append_inj' h rfl
  exact ⟨h1.1, by have := h1.2; injection this⟩
theorem NT.uniq {U0 U0' : Str → Prop} (e0 : ∀ x, U0 x ↔ U0' x) {ps r : List (Int × Str)} {U : Str → Prop} (h : NT U0 ps r U) : ∀ {ps' r' : List (Int × Str)} {U' : Str → Prop}, NT U0' ps' r' U' → ps = ps' → r = r' ∧ ∀ x, U x ↔ U' x := by
  induction h with
  | nil =>
    intro ps' r' U' h' e
    cases h' with
    | nil => exact ⟨rfl, e0⟩
    | snoc h hm => simp at e
  | snoc h hm ih =>
    intro ps' r' U' h' e
    cases h' with
    | nil => simp at e
    | snoc h2 hm2 =>
      obtain ⟨e1, e2⟩ := snoc_inj e
      injection e2 with e3 e4
      obtain ⟨er, eU⟩ := ih h2 e1
      subst e3 e4
      have em := Lst.uniq eU hm hm2
      subst em
      exact ⟨by rw [er], fun x => or_congr Iff.rfl (eU x)⟩
theorem NT.len {U0 : Str → Prop} {ps r : List (Int × Str)} {U : Str → Prop} (h : NT U0 ps r U) : r.length = ps.length := by
  induction h with
  | nil => rfl
  | snoc h hm ih => rw [List.length_append, List.length_append, ih]; rfl
/-- put into a dict one by one -/
def puts (kvs : List (Key × V)) (r : List (Int × Str)) : List (Key × V) := r.foldl (fun acc pn => putK acc (.inl (some pn.1)) (.str pn.2)) kvs
theorem puts_snoc (kvs : List (Key × V)) (r : List (Int × Str)) (p : Int) (n : Str) : puts kvs (r ++ [(p, n)]) = putK (puts kvs r) (.inl (some p)) (.str n) := by
  unfold puts
  rw [List.foldl_append]; rfl
theorem puts_len (kvs : List (Key × V)) : ∀ (r : List (Int × Str)), (puts kvs r).length ≤ kvs.length + r.length := by
  intro r
  unfold puts
  induction r generalizing kvs with
  | nil => exact Nat.le_refl _
  | cons x r ih =>
    rw [List.foldl_cons, List.length_cons]
    have h1 := ih (putK kvs (.inl (some x.1)) (.str x.2))
    have h2 := length_putK kvs (.inl (some x.1)) (.str x.2)
    lia
/-- a dict of names -/
def Strs (kvs : List (Key × V)) : Prop := ∀ k v, valV kvs k = some v → ∃ n : Str, v = .str n
theorem Strs.nil : Strs [] := fun k v e => by rw [valV_nil] at e; exact nomatch e
theorem Strs.put {kvs : List (Key × V)} (h : Strs kvs) (k : Key) (n : Str) : Strs (putK kvs k (.str n)) := fun j v e => by
  rw [valV_put] at e
  split at e
  · exact ⟨n, (Option.some.inj e).symm⟩
  · exact h j v e
theorem Strs.puts : ∀ (r : List (Int × Str)) {kvs : List (Key × V)}, Strs kvs → Strs (puts kvs r)
  | [], kvs, h => h
  | x :: r, kvs, h => by
    show Strs (K75.puts (putK kvs (.inl (some x.1)) (.str x.2)) r)
    exact Strs.puts r (h.put _ _)
/-! ### items -/
inductive It where
  | defi (p : Int) (n : Str) (c : Co)
  | shw (c : Co)
def It.core : It → Co
  | .defi _ _ c => c
  | .shw c => c
def It.top : It → Option (Int × Str)
  | .defi p n _ => some (p, n)
  | .shw _ => none
def ItIn (H : Hp) : It → V → Prop
  | .defi p n c, v => ∃ t cv, v = .ref t ∧ H t = some (.tup [.str "def", .int p, .str n, cv]) ∧ CoIn H c cv
  | .shw c, v => ∃ t cv, v = .ref t ∧ H t = some (.tup [.str "show", cv]) ∧ CoIn H c cv
theorem ItIn.tup {H H' : Hp} (s : Tup H H') : ∀ {it : It} {v : V}, ItIn H it v → ItIn H' it v
  | .defi p n c, v, ⟨t, cv, e, h, hc⟩ => ⟨t, cv, e, s _ _ h, hc.tup s⟩
  | .shw c, v, ⟨t, cv, e, h, hc⟩ => ⟨t, cv, e, s _ _ h, hc.tup s⟩
theorem ItIn.ref {H : Hp} : ∀ {it : It} {v : V}, ItIn H it v → ∃ t, v = .ref t
  | .defi p n c, v, ⟨t, cv, e, h, hc⟩ => ⟨t, e⟩
  | .shw c, v, ⟨t, cv, e, h, hc⟩ => ⟨t, e⟩
theorem ItIn.last {K : PySem.W.Frag} {H : Hp} : ∀ {it : It} {v : V}, ItIn H it v → ∃ t xs cv, v = .ref t ∧ SqT K H t xs ∧ atI xs (-1) = some cv ∧ CoIn H it.core cv
  | .defi p n c, v, ⟨t, cv, e, h, hc⟩ => ⟨t, _, cv, e, SqT.of h, rfl, hc⟩
  | .shw c, v, ⟨t, cv, e, h, hc⟩ => ⟨t, _, cv, e, SqT.of h, rfl, hc⟩
def tops (its : List It) : List (Int × Str) := its.filterMap It.top
def cores (its : List It) : List Co := its.flatMap fun it => pre it.core
/-- what is taken by the cores -/
def UI (its : List It) : Str → Prop := fun x => ∃ d ∈ cores its, nm d = some x
theorem tops_len (its : List It) : (tops its).length ≤ its.length := List.length_filterMap_le ..
/-- what is taken by a core, where these have names -/
def nmS (kvs : List (Key × V)) (d : Co) (x : Str) : Prop := nm d = some x ∨ ∃ p ks, d = .mk (.seen p) ks ∧ valV kvs (.inl (some p)) = some (.str x)
def parms : Co → List (Int × Str)
  | .mk (.fn ps) _ => ps
  | _ => []
/-- fns named one behind the other -/
inductive FN : List (Key × V) → List Co → List (Key × V) → Prop where
  | nil {k : List (Key × V)} : FN k [] k
  | skip {k k' : List (Key × V)} {d : Co} {cs : List Co} (hd : ∀ ps ks, d ≠ .mk (.fn ps) ks) (h : FN k cs k') : FN k (d :: cs) k'
  | fn {k k' : List (Key × V)} {ps r : List (Int × Str)} {b : Co} {U : Str → Prop} {cs : List Co} (hn : NT (fun x => ∃ e ∈ pre b, nmS k e x) ps r U) (h : FN (puts k r) cs k') : FN k (.mk (.fn ps) [b] :: cs) k'
theorem FN.append {k k1 k2 : List (Key × V)} {xs ys : List Co} (h : FN k xs k1) (g : FN k1 ys k2) : FN k (xs ++ ys) k2 := by
  induction h with
  | nil => exact g
  | skip hd h ih => exact .skip hd (ih g)
  | fn hn h ih => exact .fn hn (ih g)
theorem FN.strs {k k' : List (Key × V)} {cs : List Co} (h : FN k cs k') : Strs k → Strs k' := by
  induction h with
  | nil => exact id
  | skip hd h ih => exact ih
  | fn hn h ih => exact fun z => ih (Strs.puts _ z)
theorem FN.len {k k' : List (Key × V)} {cs : List Co} (h : FN k cs k') : k'.length ≤ k.length + (cs.flatMap parms).length := by
  induction h with
  | nil => exact Nat.le_refl _
  | skip hd h ih => rw [List.flatMap_cons, List.length_append]; lia
  | @fn k k' ps r b U cs hn h ih =>
    have h1 := puts_len k r
    have h2 := hn.len
    rw [List.flatMap_cons, List.length_append]
    show k'.length ≤ k.length + (ps.length + _)
    lia
/-- items that are not too many -/
structure Its (its : List It) : Prop where
  len : its.length ≤ 200
  csz : (cores its).length ≤ 100000
  tnm : ∀ p n, (p, n) ∈ tops its → n.length ≤ 100
  pnm : ∀ d ∈ cores its, ∀ x ∈ parms d, x.2.length ≤ 100
  pln : ∀ d ∈ cores its, (parms d).length ≤ 20
theorem log_small {i : Int} (h0 : 0 ≤ i) (h : i < 10 ^ 100) : i.natAbs.log2 < 1920 := by
  by_cases e : i.natAbs = 0
  · rw [e]; decide
  · rw [Nat.log2_lt e]
    have h1 : (i.natAbs : Int) < ((10 ^ 100 : Nat) : Int) := by rw [Int.natAbs_of_nonneg h0]; exact_mod_cast h
    have h2 : i.natAbs < 10 ^ 100 := by exact_mod_cast h1
    exact Nat.lt_trans h2 (by decide)
end K75

set_option Elab.async false
set_option linter.all false
set_option maxRecDepth 100000
set_option maxHeartbeats 4000000
set_option exponentiation.threshold 3000
/-! k75: inner_cores, cores_within, numbered_name. Own work. -/
namespace K75
open PySem L2 Builtin.Str
theorem dec_I {i j : Int} : decide (V.int i = V.int j) = decide (i = j) := by
  by_cases h : i = j
  · rw [decide_eq_true h, decide_eq_true (by rw [h])]
  · rw [decide_eq_false h, decide_eq_false (fun e => h (V.int.inj e))]
theorem yes_if {σ : St} {H : Hp} {A B : Hp → Prop} (h : A H) : tYes σ H (fun b H3 => if b = true then A H3 else B H3) := by
  show if true = true then A H else B H
  rw [if_pos rfl]; exact h
theorem last_at {α : Type} (xs : List α) (x : α) : (xs ++ [x])[(xs ++ [x]).length - 1]? = some x := by
  rw [List.length_append, List.length_singleton, Nat.add_sub_cancel, List.getElem?_append_right (Nat.le_refl _), Nat.sub_self]; rfl
theorem last_ref {xs : List V} {v : V} : atI (xs ++ [v]) (-1) = some v := by
  unfold atI ixN
  rw [if_neg (by decide), if_pos (by rw [List.length_append, List.length_singleton]; lia)]
  show (xs ++ [v])[(-1 + ((xs ++ [v]).length : Int)).toNat]? = some v
  rw [show (-1 + ((xs ++ [v]).length : Int)).toNat = xs.length by rw [List.length_append, List.length_singleton]; lia, List.getElem?_append_right (Nat.le_refl _), Nat.sub_self]
  rfl
theorem cut_tail (x : V) (xs : List V) : cutV (x :: xs) (some 1) none = xs := by
  unfold cutV
  rw [HT.sIx_none]
  have e : HT.sIx (x :: xs).length 0 (some 1) = 1 := by
    have := HT.sIx_nat (x :: xs).length 0 1
    rw [List.length_cons] at this ⊢
    rw [show (some (1 : Int)) = some (((1 : Nat) : Int)) from rfl, this]
    lia
  rw [e, List.length_cons, Nat.add_sub_cancel]
  show xs.take xs.length = xs
  exact List.take_length
theorem cut_no (x : V) (xs : List V) : ¬ (HT.sIx (x :: xs).length 0 (some 1) = 0 ∧ HT.sIx (x :: xs).length (x :: xs).length none = (x :: xs).length) := fun h => by
  have := HT.sIx_nat (x :: xs).length 0 1
  rw [List.length_cons] at this
  have h1 := h.1
  rw [show (some (1 : Int)) = some (((1 : Nat) : Int)) from rfl, List.length_cons, this] at h1
  lia
def spInner : Sp := fun vs H Q _ => ∃ (v : V) (t : Tg) (ks : List Co), vs = [v] ∧ CoIn H (.mk t ks) v ∧ ks.length ≤ 100000 ∧ ∀ (H' : Hp) (D : Addr) (xs : List V), Same H H' → H D = none → H' D = some (.lst xs) → Al (CoIn H') ks xs → Q (.ref D) H'
def spWithin : Sp := fun vs H Q _ => ∃ (v : V) (c : Co), vs = [v] ∧ CoIn H c v ∧ sz c ≤ 100000 ∧ ∀ (H' : Hp) (D : Addr) (xs : List V), Same H H' → H D = none → H' D = some (.lst xs) → Al (CoIn H') (pre c) xs → Q (.ref D) H'
def spNbn : Sp := fun vs H Q _ => ∃ (n : Str) (m : Int), vs = [.str n, .int m] ∧ 1 ≤ m ∧ m ≤ 300000 ∧ n.length ≤ 100 ∧ Q (.str (nbn n m)) H
section
variable {P : Program} {w : World} {K : PySem.W.Frag} {mg : Str → Option Value} {base : Heap}
theorem scInner : FnScope ["core"] ["core"] (defScope sInner) := ⟨rfl, rfl, rfl, by decide +kernel, rfl, by decide +kernel, by decide +kernel⟩
theorem ok_inner {f : Addr} {fd : FuncData} (F : Fun K "inner_cores" "inner_cores" sInner f fd) (T : Txt mg) : FnOk P w K mg base CX0 1 f fd ["core"] spInner := by
  refine F.ok scInner (fun vs H Q E h => ?_) (fun cdv A outer s H vs Q E hr h => ?_)
  · obtain ⟨v, t, ks, rfl, _⟩ := h; rfl
  · obtain ⟨v, t, ks, rfl, hc, hk, q⟩ := h
    obtain ⟨a, vs, rfl, hat, hal⟩ := hc.cut
    have z1 : 1 ≤ sizeLine := by rw [sizeLine_eq]; decide
    have z2 : 2 ≤ sizeLine := by rw [sizeLine_eq]; decide
    refine ⟨_, pss_cons (ps_if (pt_cmpR op_eq (pe_ix ix_tup (pv 0) pe_int (fun _ _ => rfl)) pe_str (nomark _))
      (pss_one (ps_ret (pe_lst (pa_cons (pe_ix ix_tup (pv 0) pe_int (fun _ _ => rfl)) pa_nil))))
      pss_nil)
      (pss_cons (ps_if (pt_cmpR op_eq (pe_ix ix_tup (pv 0) pe_int (fun _ _ => rfl)) pe_str (nomark _))
      (pss_one (ps_ret (pe_op op_cat (pe_lst (pa_cons (pe_ix ix_tup (pv 0) pe_int (fun _ _ => rfl)) pa_nil)) (pe_callTy call_list_of (by rfl) T.list bt_list (pa_cons (pe_ix ix_tup (pv 0) pe_int (fun _ _ => rfl)) pa_nil)))))
      pss_nil)
      (pss_cons (ps_if (pt_cmpR op_in_seq (pe_ix ix_tup (pv 0) pe_int (fun _ _ => rfl)) (pe_tup (pa_cons pe_str (pa_cons pe_str pa_nil))) rfl)
      (pss_one (ps_ret (pe_callTy call_list_of (by rfl) T.list bt_list (pa_cons (pe_slice sl_tup (pv 0) (po_some pe_int) po_none) pa_nil))))
      pss_nil)
      (pss_one (ps_ret (pe_lst pa_nil))))), ?_⟩
    cases t with
    | num z =>
      obtain ⟨rfl, ha⟩ := hat
      refine ⟨_, rfl, a, _, _, _, rfl, rfl, SqT.of ha, rfl, rfl, false, rfl, iteF ?_⟩
      refine ⟨_, rfl, a, _, _, _, rfl, rfl, SqT.of ha, rfl, rfl, false, rfl, iteF ?_⟩
      refine ⟨_, rfl, a, _, _, _, rfl, rfl, SqT.of ha, rfl, z2, fun p hp => ?_⟩
      refine ⟨p, _, rfl, .inr (SqT.of upd_same), rfl, rfl, false, rfl, iteF ⟨Nat.zero_le _, fun D hD => ?_⟩⟩
      have s2 := (same_upd (o := .tup [.str "pick", .str "now"]) hp).trans (same_upd (o := .lst []) hD)
      exact q _ D [] s2 ((same_upd hp).free hD) upd_same (hal.mono fun _ _ r => r.tup (Tup.of s2))
    | free z =>
      obtain ⟨rfl, ha⟩ := hat
      refine ⟨_, rfl, a, _, _, _, rfl, rfl, SqT.of ha, rfl, rfl, false, rfl, iteF ?_⟩
      refine ⟨_, rfl, a, _, _, _, rfl, rfl, SqT.of ha, rfl, rfl, false, rfl, iteF ?_⟩
      refine ⟨_, rfl, a, _, _, _, rfl, rfl, SqT.of ha, rfl, z2, fun p hp => ?_⟩
      refine ⟨p, _, rfl, .inr (SqT.of upd_same), rfl, rfl, false, rfl, iteF ⟨Nat.zero_le _, fun D hD => ?_⟩⟩
      have s2 := (same_upd (o := .tup [.str "pick", .str "now"]) hp).trans (same_upd (o := .lst []) hD)
      exact q _ D [] s2 ((same_upd hp).free hD) upd_same (hal.mono fun _ _ r => r.tup (Tup.of s2))
    | seen z =>
      obtain ⟨rfl, ha⟩ := hat
      refine ⟨_, rfl, a, _, _, _, rfl, rfl, SqT.of ha, rfl, rfl, false, rfl, iteF ?_⟩
      refine ⟨_, rfl, a, _, _, _, rfl, rfl, SqT.of ha, rfl, rfl, false, rfl, iteF ?_⟩
      refine ⟨_, rfl, a, _, _, _, rfl, rfl, SqT.of ha, rfl, z2, fun p hp => ?_⟩
      refine ⟨p, _, rfl, .inr (SqT.of upd_same), rfl, rfl, false, rfl, iteF ⟨Nat.zero_le _, fun D hD => ?_⟩⟩
      have s2 := (same_upd (o := .tup [.str "pick", .str "now"]) hp).trans (same_upd (o := .lst []) hD)
      exact q _ D [] s2 ((same_upd hp).free hD) upd_same (hal.mono fun _ _ r => r.tup (Tup.of s2))
    | fn ps =>
      obtain ⟨u, pv', b, rfl, ha, hu, hp⟩ := hat
      refine ⟨_, rfl, a, _, _, _, rfl, rfl, SqT.of ha, rfl, rfl, true, rfl, iteT ?_⟩
      refine ⟨_, rfl, a, _, _, _, rfl, rfl, SqT.of ha, rfl, z1, fun D hD => ?_⟩
      exact q _ D [b] (same_upd hD) hD upd_same (hal.mono fun _ _ r => r.tup (Tup.of (same_upd hD)))
    | call =>
      obtain ⟨u, f', as, rfl, ha, hu⟩ := hat
      refine ⟨_, rfl, a, _, _, _, rfl, rfl, SqT.of ha, rfl, rfl, false, rfl, iteF ?_⟩
      refine ⟨_, rfl, a, _, _, _, rfl, rfl, SqT.of ha, rfl, rfl, true, rfl, iteT ?_⟩
      refine ⟨_, rfl, a, _, _, _, rfl, rfl, SqT.of ha, rfl, z1, fun l hl => ?_⟩
      have s1 := same_upd (o := .lst [f']) hl
      refine ⟨_, rfl, a, _, _, _, rfl, rfl, SqT.of (s1 _ _ ha), rfl, u, as, rfl, .inr (SqT.of (s1 _ _ hu)), fun l2 hl2 => ?_⟩
      have s2 := same_upd (o := .lst as) hl2
      have hlen : as.length + 1 = ks.length := hal.1
      refine ⟨l, l2, [f'], as, rfl, rfl, s2 _ _ upd_same, upd_same, by rw [sizeLine_eq]; show 1 + as.length ≤ _; lia, fun D hD => ?_⟩
      have s3 := same_upd (o := .lst ([f'] ++ as)) hD
      have s := (s1.trans s2).trans s3
      exact q _ D (f' :: as) s ((s1.trans s2).free hD) upd_same (hal.mono fun _ _ r => r.tup (Tup.of s))
    | pick =>
      obtain ⟨x, y, z, rfl, ha⟩ := hat
      refine ⟨_, rfl, a, _, _, _, rfl, rfl, SqT.of ha, rfl, rfl, false, rfl, iteF ?_⟩
      refine ⟨_, rfl, a, _, _, _, rfl, rfl, SqT.of ha, rfl, rfl, false, rfl, iteF ?_⟩
      refine ⟨_, rfl, a, _, _, _, rfl, rfl, SqT.of ha, rfl, z2, fun p hp => ?_⟩
      have s1 := same_upd (o := .tup [.str "pick", .str "now"]) hp
      refine ⟨p, _, rfl, .inr (SqT.of upd_same), rfl, rfl, true, rfl, iteT ?_⟩
      refine ⟨_, rfl, _, rfl, a, _, rfl, SqT.of (s1 _ _ ha), cut_no _ _, fun p2 hp2 => ?_⟩
      have s2 := same_upd (o := .tup [x, y, z]) hp2
      refine ⟨p2, [x, y, z], rfl, .inr (SqT.of upd_same), fun D hD => ?_⟩
      have s := (s1.trans s2).trans (same_upd (o := .lst [x, y, z]) hD)
      exact q _ D [x, y, z] s ((s1.trans s2).free hD) upd_same (hal.mono fun _ _ r => r.tup (Tup.of s))
    | now =>
      obtain ⟨x, rfl, ha⟩ := hat
      refine ⟨_, rfl, a, _, _, _, rfl, rfl, SqT.of ha, rfl, rfl, false, rfl, iteF ?_⟩
      refine ⟨_, rfl, a, _, _, _, rfl, rfl, SqT.of ha, rfl, rfl, false, rfl, iteF ?_⟩
      refine ⟨_, rfl, a, _, _, _, rfl, rfl, SqT.of ha, rfl, z2, fun p hp => ?_⟩
      have s1 := same_upd (o := .tup [.str "pick", .str "now"]) hp
      refine ⟨p, _, rfl, .inr (SqT.of upd_same), rfl, rfl, true, rfl, iteT ?_⟩
      refine ⟨_, rfl, _, rfl, a, _, rfl, SqT.of (s1 _ _ ha), cut_no _ _, fun p2 hp2 => ?_⟩
      have s2 := same_upd (o := .tup [x]) hp2
      refine ⟨p2, [x], rfl, .inr (SqT.of upd_same), fun D hD => ?_⟩
      have s := (s1.trans s2).trans (same_upd (o := .lst [x]) hD)
      exact q _ D [x] s ((s1.trans s2).free hD) upd_same (hal.mono fun _ _ r => r.tup (Tup.of s))
theorem scNbn : FnScope ["name", "number"] ["name", "number"] (defScope sNumbered) := ⟨rfl, rfl, rfl, by decide +kernel, rfl, by decide +kernel, by decide +kernel⟩
theorem ok_nbn {f : Addr} {fd : FuncData} (F : Fun K "numbered_name" "numbered_name" sNumbered f fd) : FnOk P w K mg base CX0 1 f fd ["name", "number"] spNbn := by
  refine F.ok scNbn (fun vs H Q E h => ?_) (fun cdv A outer s H vs Q E hr h => ?_)
  · obtain ⟨n, m, rfl, _⟩ := h; rfl
  · obtain ⟨n, m, rfl, m1, m2, hn, q⟩ := h
    refine ⟨_, pss_one (ps_ret (pe_ifExp (pt_cmpR op_eq (pv 1) pe_int (nomark _)) (pv 0) (pe_fstr2 (pv 0) (pv 1)))), ?_⟩
    unfold nbn at q
    refine ⟨_, rfl, rfl, decide (m = 1), by rw [dec_I], ite2 (fun c1 => ?_) (fun c1 => ?_)⟩
    · rw [if_pos (of_decide_eq_true c1)] at q
      exact ⟨_, rfl, q⟩
    · rw [if_neg (fun z => c1 (decide_eq_true z))] at q
      have hlog : m.natAbs.log2 < 1920 := log_small (by lia) (Int.lt_of_le_of_lt m2 (by decide))
      have hlen := (text_len (k := m) (by lia)).1
      refine ⟨_, rfl, n, rfl, by rw [sizeLine_eq]; lia, _, rfl, m, rfl, hlog, ?_, q⟩
      rw [str_cat_len, sizeLine_eq]; lia
theorem len_szs : ∀ (cs : List Co), cs.length ≤ szs cs
  | [] => Nat.le_refl _
  | .mk t ks :: cs => by
    have := len_szs cs
    simp only [szs, sz, List.length_cons]
    lia
/-- the walk's state -/
def WithinW (H : Hp) (c : Co) (v0 : V) (D1 D2 : Addr) (m : Nat) (σ : St) (H5 : Hp) : Prop := ∃ (v3 : Option V) (xs ls : List V) (done st : List Co), σ = [some v0, some (.ref D1), some (.ref D2), v3] ∧ Same H H5 ∧ H5 D1 = some (.lst xs) ∧ H5 D2 = some (.lst ls) ∧
  Al (CoIn H5) done xs ∧ Al (CoIn H5) st ls ∧ pre c = done ++ pres st.reverse ∧ m = szs st
abbrev NWithin : List Str := ["core", "found", "left", "inner"]
theorem scWithin : FnScope NWithin ["core"] (defScope sWithin) := ⟨rfl, rfl, rfl, by decide +kernel, rfl, by decide +kernel, by decide +kernel⟩
theorem ok_within {f fI : Addr} {fd fdI : FuncData} (F : Fun K "cores_within" "cores_within" sWithin f fd) (T : Txt mg)
    (FI : Fun K "inner_cores" "inner_cores" sInner fI fdI) (bI : Binds K fdI ["core"] []) (mI : mg "inner_cores" = some (.ref fI)) : FnOk P w K mg base CX0 2 f fd ["core"] spWithin := by
  have GI : FnOk P w K mg base CX0 1 fI fdI ["core"] spInner := ok_inner FI T
  refine F.ok scWithin (fun vs H Q E h => ?_) (fun cdv A outer s H vs Q E hr h => ?_)
  · obtain ⟨v, c, rfl, _⟩ := h; rfl
  · obtain ⟨v0, c, rfl, hc, hsz, q⟩ := h
    have nd := scWithin.nd
    have z1 : 1 ≤ sizeLine := by rw [sizeLine_eq]; decide
    refine ⟨_, pss_cons (ps_set (i := 1) nd rfl (Or.inl rfl) (pe_lst pa_nil))
      (pss_cons (ps_set (i := 2) nd rfl (Or.inl rfl) (pe_lst (pa_cons (pv 0) pa_nil)))
      (pss_cons (ps_while PassesOwn.never (pt_cmpR op_gt (pe_callB call_len_seq (by rfl) T.len bt_len (pa_cons (pv 2) pa_nil)) pe_int (nomark _))
      (pss_cons (ps_expr (pe_bm PySem.F.plainAttrs_list PySem.F.slot_list_append PySem.F.type_list_append mt_append (pv 1) (pa_cons (pe_bm0 PySem.F.plainAttrs_list PySem.F.slot_list_pop PySem.F.type_list_pop mt_pop (pv 2)) pa_nil)))
        (pss_one (ps_for PassesOwn.never rfl (pi_rev (by rfl) T.rev (pe_call GI hr (by rfl) mI FI.kp bI .nil pass0 (pa_cons (pe_ix ix_list (pv 1) (pe_un un_neg pe_int) (fun _ _ => rfl)) pa_nil))) (pg_name (i := 3) nd rfl (Or.inl rfl))
        (pss_one (ps_expr (pe_bm PySem.F.plainAttrs_list PySem.F.slot_list_append PySem.F.type_list_append mt_append (pv 2) (pa_cons (pv 3) pa_nil))))))))
      (pss_one (ps_ret (pv 1))))), ?_⟩
    refine ⟨Nat.zero_le _, fun D1 hD1 => ⟨_, rfl, z1, fun D2 hD2 => ?_⟩⟩
    have s1 := same_upd (o := .lst []) hD1
    have s2 := same_upd (o := .lst [v0]) hD2
    have n12 : D1 ≠ D2 := ne_of_none (H := upd H D1 (.lst [])) upd_same hD2
    have hD2H : H D2 = none := s1.free hD2
    have s12 := s1.trans s2
    have lenpre := pre_len c
    refine ⟨WithinW H c v0 D1 D2, ⟨_, none, [], [v0], [], [c], rfl, s12, s2 _ _ upd_same, upd_same, Al.nil, Al.cons (hc.tup (Tup.of s12)) Al.nil, by simp [pres], rfl⟩, ?_⟩
    rintro m σ H5 ⟨v3, xs, ls, done, st, rfl, sH, h1, h2, hx, hl, hpre, rfl⟩
    have hlen := congrArg List.length hpre
    rw [List.length_append, pres_len, szs_reverse, lenpre] at hlen
    have hst := len_szs st
    refine ⟨_, rfl, D2, _, rfl, .inl (SqL.of h2), _, _, rfl, rfl, _, rfl, ite2 (fun c1 => ?_) (fun c1 => ?_)⟩
    · have hpos : 0 < ls.length := by have := of_decide_eq_true c1; lia
      have hne : st ≠ [] := fun e => by rw [e] at hl; rw [hl.1] at hpos; simp at hpos
      obtain ⟨st', k, rfl⟩ : ∃ st' k, st = st' ++ [k] := ⟨_, _, (List.dropLast_concat_getLast hne).symm⟩
      obtain ⟨ls', v, rfl, hv, hl'⟩ := hl.unsnoc
      obtain ⟨t, ks⟩ := k
      refine ⟨fun σ' H' => ∃ m', m' < szs (st' ++ [Co.mk t ks]) ∧ WithinW H c v0 D1 D2 m' σ' H', fun _ _ z => z, ?_⟩
      rw [szs_append] at hlen ⊢
      simp only [szs, sz, Nat.add_zero] at hlen ⊢
      refine ⟨_, rfl, .inl ⟨rfl, _, SqL.of h1⟩, _, rfl, .inl ⟨rfl, _, SqL.of h2⟩, D2, _, v, rfl, rfl, h2, last_at ls' v, ?_⟩
      rw [List.dropLast_concat]
      have t6 : Tup H5 (upd H5 D2 (.lst ls')) := Tup.lst h2
      have h16 : upd H5 D2 (.lst ls') D1 = some (.lst xs) := by rw [upd_ne n12]; exact h1
      refine ⟨D1, xs, v, rfl, rfl, h16, by rw [hx.1, sizeLine_eq]; lia, ?_⟩
      have t7 := t6.trans (Tup.lst (ys := xs ++ [v]) h16)
      have h17 : upd (upd H5 D2 (.lst ls')) D1 (.lst (xs ++ [v])) D1 = some (.lst (xs ++ [v])) := upd_same
      have h27 : upd (upd H5 D2 (.lst ls')) D1 (.lst (xs ++ [v])) D2 = some (.lst ls') := by rw [upd_ne (Ne.symm n12), upd_same]
      have s7 : Same H (upd (upd H5 D2 (.lst ls')) D1 (.lst (xs ++ [v]))) := fun e o qe => by rw [upd_ne (ne_of_none qe hD1), upd_ne (ne_of_none qe hD2H)]; exact sH _ _ qe
      generalize upd (upd H5 D2 (.lst ls')) D1 (.lst (xs ++ [v])) = H7 at t7 h17 h27 s7 ⊢
      have hv7 := hv.tup t7
      refine ⟨_, rfl, _, rfl, D1, _, _, v, rfl, rfl, SqL.of h17, last_ref, v, t, ks, rfl, hv7, by have := len_szs ks; lia, fun H8 D3 ys s8 hD3 h38 hal8 => ?_⟩
      have h18 := s8 _ _ h17
      have h28 := s8 _ _ h27
      have t8 := t7.trans (Tup.of s8)
      have n32 : D3 ≠ D2 := Ne.symm (ne_of_none h27 hD3)
      have n31 : D3 ≠ D1 := Ne.symm (ne_of_none h17 hD3)
      refine ⟨D3, ys, rfl, SqL.of h38, for_rev (K := K) (a := D3) (xs := ys) (fun i σ' H' => (∃ v3, σ' = [some v0, some (.ref D1), some (.ref D2), v3]) ∧ Same H H' ∧ Tup H8 H' ∧ H' D1 = some (.lst (xs ++ [v])) ∧ H' D3 = some (.lst ys) ∧ H' D2 = some (.lst (ls' ++ ys.reverse.take i)))
        ⟨⟨_, rfl⟩, s7.trans s8, Tup.refl _, h18, h38, by rw [List.take_zero, List.append_nil]; exact h28⟩ (fun i σ' H' _ hP => SqL.of hP.2.2.2.2.1) ?_ ?_⟩
      · rintro i x σ' H' hx' hi ⟨⟨v3', rfl⟩, sH', tH', g1, g3, g2⟩
        have hyl : ys.length = ks.length := hal8.1
        have hkl := len_szs ks
        refine ⟨_, rfl, .inl ⟨rfl, _, SqL.of g2⟩, _, rfl, D2, _, x, rfl, rfl, g2, by rw [List.length_append, List.length_take, hl'.1, List.length_reverse, sizeLine_eq]; have := len_szs st'; lia, ⟨_, rfl⟩, fun e o qe => ?_, tH'.trans (Tup.lst g2), ?_, ?_, ?_⟩
        · rw [upd_ne (ne_of_none qe hD2H)]; exact sH' _ _ qe
        · rw [upd_ne n12]; exact g1
        · rw [upd_ne n32]; exact g3
        · have ex : ys.reverse[i]? = some x := by rw [List.getElem?_reverse hi]; exact hx'
          rw [upd_same, List.take_succ, ex, ← List.append_assoc]; rfl
      · rintro σ' H' ⟨⟨v3', rfl⟩, sH', tH', g1, g3, g2⟩
        rw [← List.length_reverse (as := ys), List.take_length] at g2
        refine ⟨szs (st' ++ ks.reverse), by rw [szs_append, szs_reverse]; lia, v3', xs ++ [v], ls' ++ ys.reverse, done ++ [Co.mk t ks], st' ++ ks.reverse, rfl, sH', g1, g2, ?_, ?_, ?_, rfl⟩
        · exact (hx.mono fun _ _ r => r.tup (t8.trans tH')).snoc (hv.tup (t8.trans tH'))
        · exact (hl'.mono fun _ _ r => r.tup (t8.trans tH')).append ((hal8.mono fun _ _ r => r.tup tH').reverse)
        · rw [hpre, List.reverse_append, List.reverse_append, List.reverse_reverse, pres_append, pres_append, List.append_assoc]
          simp [pres, pre]
    · have hz : ls.length = 0 := by
        have : ¬ (0 : Int) < (ls.length : Int) := fun z => c1 (decide_eq_true z)
        lia
      have est : st = [] := List.length_eq_zero_iff.mp (by rw [← hl.1]; exact hz)
      subst est
      refine ⟨_, rfl, q H5 D1 xs sH hD1 h1 ?_⟩
      rw [hpre]
      simpa [pres] using hx
end
end K75

set_option Elab.async false
set_option linter.all false
set_option maxRecDepth 100000
set_option maxHeartbeats 4000000
/-! k75: taken_in, put_names. Own work. -/
namespace K75
open PySem L2 Builtin.Str
theorem bt_dict' : bootBuiltins "dict" = some (.type "dict") := by decide +kernel
theorem Ks.step {kvs tk : List (Key × V)} {cs : List Co} {i : Nat} {d : Co} (hd : cs[i]? = some d) (h : Ks tk (fun x => ∃ d ∈ cs.take i, nmS kvs d x)) {x : Str} (e : ∀ y, nmS kvs d y ↔ y = x) (v : V) : Ks (putK tk (.inr x) v) (fun y => ∃ d ∈ cs.take (i + 1), nmS kvs d y) := by
  refine (h.put x v).iff fun y => ?_
  rw [List.take_succ, hd]
  constructor
  · rintro (z | ⟨d', hd', z⟩)
    · exact ⟨d, by simp, (e y).mpr z⟩
    · exact ⟨d', List.mem_append_left _ hd', z⟩
  · rintro ⟨d', hd', z⟩
    rcases List.mem_append.mp hd' with hd' | hd'
    · exact .inr ⟨d', hd', z⟩
    · have : d' = d := by simpa using hd'
      subst this
      exact .inl ((e y).mp z)
theorem Ks.skip {kvs tk : List (Key × V)} {cs : List Co} {i : Nat} {d : Co} (hd : cs[i]? = some d) (h : Ks tk (fun x => ∃ d ∈ cs.take i, nmS kvs d x)) (e : ∀ y, ¬ nmS kvs d y) : Ks tk (fun y => ∃ d ∈ cs.take (i + 1), nmS kvs d y) := by
  refine h.iff fun y => ?_
  rw [List.take_succ, hd]
  constructor
  · rintro ⟨d', hd', z⟩
    exact ⟨d', List.mem_append_left _ hd', z⟩
  · rintro ⟨d', hd', z⟩
    rcases List.mem_append.mp hd' with hd' | hd'
    · exact ⟨d', hd', z⟩
    · have : d' = d := by simpa using hd'
      subst this
      exact absurd z (e y)
def spTaken : Sp := fun vs H Q _ => ∃ (sl dn : Addr) (cs : List Co) (xs : List V) (kvs : List (Key × V)), vs = [.ref sl, .ref dn] ∧ H sl = some (.lst xs) ∧ Al (CoIn H) cs xs ∧ H dn = some (.dK kvs) ∧ Strs kvs ∧ cs.length ≤ 100000 ∧
  ∀ (H' : Hp) (D : Addr) (tk : List (Key × V)), Same H H' → H D = none → H' D = some (.dK tk) → Ks tk (fun x => ∃ d ∈ cs, nmS kvs d x) → tk.length ≤ cs.length → Q (.ref D) H'
/-- numbers that were reached -/
def Rch (rk : List (Key × V)) (U : Str → Prop) : Prop := ∀ (n : Str) v, valV rk (.inr n) = some v → ∃ m : Int, v = .int m ∧ 1 ≤ m ∧ ∀ j : Int, 1 ≤ j → j < m → U (nbn n j)
theorem Rch.nil {U : Str → Prop} : Rch [] U := fun n v e => by rw [valV_nil] at e; exact nomatch e
theorem Rch.put {rk : List (Key × V)} {U : Str → Prop} (h : Rch rk U) {n : Str} {m : Int} (hm : Lst U n m) : Rch (putK rk (.inr n) (.int m)) (fun x => x = nbn n m ∨ U x) := fun n' v e => by
  rw [valV_put] at e
  split at e
  · rename_i en
    cases en
    cases e
    exact ⟨m, rfl, hm.1, fun j h1 h2 => .inr (hm.2.2 j h1 h2)⟩
  · obtain ⟨m', e1, h1, h2⟩ := h n' v e
    exact ⟨m', e1, h1, fun j g1 g2 => .inr (h2 j g1 g2)⟩
theorem bound_of {uk : List (Key × V)} {U : Str → Prop} (h : Ks uk U) {n : Str} {m : Int} (h2 : ∀ j : Int, 1 ≤ j → j < m → U (nbn n j)) : m ≤ uk.length + 1 := by
  obtain ⟨j, hj, e⟩ := one_free uk n (k := 1) (Int.le_refl _)
  have hno : ¬ U (nbn n (1 + (j : Int))) := fun z => by
    have := (h _).mpr z
    rw [e] at this
    exact nomatch this
  apply Classical.byContradiction
  intro hlt
  exact hno (h2 _ (by lia) (by lia))
def spPut : Sp := fun vs H Q _ => ∃ (dn pl dt : Addr) (ps : List (Int × Str)) (pvs : List V) (kvs tk : List (Key × V)) (U : Str → Prop), vs = [.ref dn, .ref pl, .ref dt] ∧ H dn = some (.dK kvs) ∧ H dt = some (.dK tk) ∧ Ks tk U ∧ kvs.length ≤ 3000000 ∧ tk.length ≤ 100000 ∧ ps.length ≤ 200 ∧ (∀ x ∈ ps, x.2.length ≤ 100) ∧
  ((H pl = some (.lst pvs) ∧ Al (PaIn H) ps pvs) ∨ (H pl = some (.tup pvs) ∧ Al (PaIn H) ps pvs)) ∧ ∀ (H' : Hp) (r : List (Int × Str)) (U' : Str → Prop), NT U ps r U' → H' dn = some (.dK (puts kvs r)) → (∀ c o, c ≠ dn → H c = some o → H' c = some o) → Q .non H'
section
variable {P : Program} {w : World} {K : PySem.W.Frag} {mg : Str → Option Value} {base : Heap}
theorem scTaken : FnScope ["scope", "names", "taken", "core"] ["scope", "names"] (defScope sTaken) := ⟨rfl, rfl, rfl, by decide +kernel, rfl, by decide +kernel, by decide +kernel⟩
theorem ok_taken {f : Addr} {fd : FuncData} (F : Fun K "taken_in" "taken_in" sTaken f fd) : FnOk P w K mg base CX0 1 f fd ["scope", "names"] spTaken := by
  refine F.ok scTaken (fun vs H Q E h => ?_) (fun cdv A outer s H vs Q E hr h => ?_)
  · obtain ⟨sl, dn, cs, xs, kvs, rfl, _⟩ := h; rfl
  · obtain ⟨sl, dn, cs, xs, kvs, rfl, hsl, hal, hdn, hS, hlen, q⟩ := h
    have nd := scTaken.nd
    have hu := hu_of hr
    have z3 : 3 ≤ sizeLine := by rw [sizeLine_eq]; decide
    refine ⟨_, pss_cons (ps_set (i := 2) nd rfl (Or.inl rfl) pe_dnewK)
      (pss_cons (ps_for PassesOwn.never rfl (pi_list (pv 0)) (pg_name (i := 3) nd rfl (Or.inl rfl))
      (pss_one (ps_if (pt_cmpR op_eq (pe_ix ix_tup (pv 3) pe_int (fun _ _ => rfl)) pe_str (nomark _))
        (pss_one (ps_dput hu (pv 2) (pe_ix ix_tup (pv 3) pe_int (fun _ _ => rfl)) pe_bl rfl))
        (pss_one (ps_if (pt_cmpR op_in_seq (pe_ix ix_tup (pv 3) pe_int (fun _ _ => rfl)) (pe_tup (pa_cons pe_str (pa_cons pe_str (pa_cons pe_str pa_nil)))) rfl)
          (pss_one (ps_dput hu (pv 2) (pe_ix ix_tup (pv 3) pe_int (fun _ _ => rfl)) pe_bl rfl))
          (pss_one (ps_if (PW.pt (pw_and (pt_cmpR op_eq (pe_ix ix_tup (pv 3) pe_int (fun _ _ => rfl)) pe_str (nomark _)) (pw_and1 (pt_cmp (pc_din hu (pe_ix ix_tup (pv 3) pe_int (fun _ _ => rfl)) (pv 1))))))
            (pss_one (ps_dput hu (pv 2) (pe_dget hu (pv 1) (pe_ix ix_tup (pv 3) pe_int (fun _ _ => rfl)) (fun _ _ => rfl)) pe_bl rfl))
            pss_nil)))))))
      (pss_one (ps_ret (pv 2)))), ?_⟩
    intro D hD
    have s1 := same_upd (o := .dK []) hD
    refine ⟨_, rfl, sl, rfl, ⟨_, SqL.of (s1 _ _ hsl)⟩, for_list (xs := xs) (fun i σ H' => (∃ v3, σ = [some (.ref sl), some (.ref dn), some (.ref D), v3]) ∧ Same H H' ∧ ∃ tk, H' D = some (.dK tk) ∧ Ks tk (fun x => ∃ d ∈ cs.take i, nmS kvs d x) ∧ tk.length ≤ i)
      ⟨⟨_, rfl⟩, s1, [], upd_same, Ks.nil.iff (fun n => by simp), Nat.le_refl _⟩ (fun i σ H' _ hP => SqL.of (hP.2.1 _ _ hsl)) ?_ ?_⟩
    · rintro i x σ H' hi ⟨⟨v3, rfl⟩, sH, tk, hDt, hKs, htl⟩
      obtain ⟨d, ed, hd⟩ := hal.at hi
      have hil : i < cs.length := (List.getElem?_eq_some_iff.mp ed).1
      obtain ⟨t, ks⟩ := d
      obtain ⟨a, us, rfl, hat, hks⟩ := (hd.tup (Tup.of sH)).cut
      -- a name put
      have fin : ∀ (H2 : Hp) (x : Str), Same H' H2 → H2 D = some (.dK tk) → (∀ y, nmS kvs (.mk t ks) y ↔ y = x) →
          (∃ v3, [some (V.ref sl), some (.ref dn), some (.ref D), some (.ref a)] = [some (.ref sl), some (.ref dn), some (.ref D), v3]) ∧ Same H (upd H2 D (.dK (putK tk (.inr x) (.bl true)))) ∧ ∃ tk', upd H2 D (.dK (putK tk (.inr x) (.bl true))) D = some (.dK tk') ∧ Ks tk' (fun x => ∃ d ∈ cs.take (i + 1), nmS kvs d x) ∧ tk'.length ≤ i + 1 := fun H2 x s2 h2 e => by
        refine ⟨⟨_, rfl⟩, fun c o qe => ?_, _, upd_same, hKs.step ed e _, ?_⟩
        · rw [upd_ne (ne_of_none qe hD)]; exact s2 _ _ (sH _ _ qe)
        · have := length_putK tk (.inr x) (.bl true); lia
      have fin0 : ∀ (H2 : Hp), Same H' H2 → H2 D = some (.dK tk) → (∀ y, ¬ nmS kvs (.mk t ks) y) →
          (∃ v3, [some (V.ref sl), some (.ref dn), some (.ref D), some (.ref a)] = [some (.ref sl), some (.ref dn), some (.ref D), v3]) ∧ Same H H2 ∧ ∃ tk', H2 D = some (.dK tk') ∧ Ks tk' (fun x => ∃ d ∈ cs.take (i + 1), nmS kvs d x) ∧ tk'.length ≤ i + 1 := fun H2 s2 h2 e =>
        ⟨⟨_, rfl⟩, sH.trans s2, _, h2, hKs.skip ed e, by lia⟩
      cases t with
      | free n =>
        obtain ⟨rfl, ha⟩ := hat
        refine ⟨_, rfl, a, _, _, _, rfl, rfl, SqT.of ha, rfl, rfl, true, rfl, iteT ?_⟩
        refine ⟨_, rfl, _, rfl, a, _, _, _, rfl, rfl, SqT.of ha, rfl, D, _, rfl, DPut.k (k := .inr n) hDt (by rw [sizeLine_eq]; lia), ?_⟩
        exact fin _ n (Same.refl _) hDt (fun y => ⟨(fun z => by rcases z with z | ⟨p', ks', z, _⟩ <;> first | exact (Option.some.inj z).symm | exact (nomatch z)), (fun z => .inl (by rw [z]; rfl))⟩)
      | fn ps =>
        obtain ⟨u, pv', b, e, ha, hu', hp'⟩ := hat
        refine ⟨_, rfl, a, _, _, _, rfl, rfl, SqT.of ha, rfl, rfl, false, rfl, iteF ?_⟩
        refine ⟨_, rfl, a, _, _, _, rfl, rfl, SqT.of ha, rfl, z3, fun p hp => ?_⟩
        have s2 := same_upd (o := .tup [.str "fn", .str "pick", .str "now"]) hp
        have hD2 := s2 _ _ hDt
        refine ⟨p, _, rfl, .inr (SqT.of upd_same), rfl, rfl, true, rfl, iteT ?_⟩
        refine ⟨_, rfl, _, rfl, a, _, _, _, rfl, rfl, SqT.of (s2 _ _ ha), rfl, D, _, rfl, DPut.k (k := .inr "fn") hD2 (by rw [sizeLine_eq]; lia), ?_⟩
        exact fin _ "fn" s2 hD2 (fun y => ⟨(fun z => by rcases z with z | ⟨p', ks', z, _⟩ <;> first | exact (Option.some.inj z).symm | exact (nomatch z)), (fun z => .inl (by rw [z]; rfl))⟩)
      | pick =>
        obtain ⟨x', y', z', e, ha⟩ := hat
        refine ⟨_, rfl, a, _, _, _, rfl, rfl, SqT.of ha, rfl, rfl, false, rfl, iteF ?_⟩
        refine ⟨_, rfl, a, _, _, _, rfl, rfl, SqT.of ha, rfl, z3, fun p hp => ?_⟩
        have s2 := same_upd (o := .tup [.str "fn", .str "pick", .str "now"]) hp
        have hD2 := s2 _ _ hDt
        refine ⟨p, _, rfl, .inr (SqT.of upd_same), rfl, rfl, true, rfl, iteT ?_⟩
        refine ⟨_, rfl, _, rfl, a, _, _, _, rfl, rfl, SqT.of (s2 _ _ ha), rfl, D, _, rfl, DPut.k (k := .inr "pick") hD2 (by rw [sizeLine_eq]; lia), ?_⟩
        exact fin _ "pick" s2 hD2 (fun y => ⟨(fun z => by rcases z with z | ⟨p', ks', z, _⟩ <;> first | exact (Option.some.inj z).symm | exact (nomatch z)), (fun z => .inl (by rw [z]; rfl))⟩)
      | now =>
        obtain ⟨x', e, ha⟩ := hat
        refine ⟨_, rfl, a, _, _, _, rfl, rfl, SqT.of ha, rfl, rfl, false, rfl, iteF ?_⟩
        refine ⟨_, rfl, a, _, _, _, rfl, rfl, SqT.of ha, rfl, z3, fun p hp => ?_⟩
        have s2 := same_upd (o := .tup [.str "fn", .str "pick", .str "now"]) hp
        have hD2 := s2 _ _ hDt
        refine ⟨p, _, rfl, .inr (SqT.of upd_same), rfl, rfl, true, rfl, iteT ?_⟩
        refine ⟨_, rfl, _, rfl, a, _, _, _, rfl, rfl, SqT.of (s2 _ _ ha), rfl, D, _, rfl, DPut.k (k := .inr "now") hD2 (by rw [sizeLine_eq]; lia), ?_⟩
        exact fin _ "now" s2 hD2 (fun y => ⟨(fun z => by rcases z with z | ⟨p', ks', z, _⟩ <;> first | exact (Option.some.inj z).symm | exact (nomatch z)), (fun z => .inl (by rw [z]; rfl))⟩)
      | num z =>
        obtain ⟨rfl, ha⟩ := hat
        refine ⟨_, rfl, a, _, _, _, rfl, rfl, SqT.of ha, rfl, rfl, false, rfl, iteF ?_⟩
        refine ⟨_, rfl, a, _, _, _, rfl, rfl, SqT.of ha, rfl, z3, fun p hp => ?_⟩
        have s2 := same_upd (o := .tup [.str "fn", .str "pick", .str "now"]) hp
        refine ⟨p, _, rfl, .inr (SqT.of upd_same), rfl, rfl, false, rfl, iteF ?_⟩
        refine ⟨_, rfl, a, _, _, _, rfl, rfl, SqT.of (s2 _ _ ha), rfl, rfl, false, rfl, iteF (iteF ?_)⟩
        exact fin0 _ s2 (s2 _ _ hDt) (fun y z => by rcases z with z | ⟨p', ks', z, _⟩ <;> exact nomatch z)
      | call =>
        obtain ⟨u, f', as, e, ha, hu'⟩ := hat
        refine ⟨_, rfl, a, _, _, _, rfl, rfl, SqT.of ha, rfl, rfl, false, rfl, iteF ?_⟩
        refine ⟨_, rfl, a, _, _, _, rfl, rfl, SqT.of ha, rfl, z3, fun p hp => ?_⟩
        have s2 := same_upd (o := .tup [.str "fn", .str "pick", .str "now"]) hp
        refine ⟨p, _, rfl, .inr (SqT.of upd_same), rfl, rfl, false, rfl, iteF ?_⟩
        refine ⟨_, rfl, a, _, _, _, rfl, rfl, SqT.of (s2 _ _ ha), rfl, rfl, false, rfl, iteF (iteF ?_)⟩
        exact fin0 _ s2 (s2 _ _ hDt) (fun y z => by rcases z with z | ⟨p', ks', z, _⟩ <;> exact nomatch z)
      | seen p0 =>
        obtain ⟨rfl, ha⟩ := hat
        refine ⟨_, rfl, a, _, _, _, rfl, rfl, SqT.of ha, rfl, rfl, false, rfl, iteF ?_⟩
        refine ⟨_, rfl, a, _, _, _, rfl, rfl, SqT.of ha, rfl, z3, fun p hp => ?_⟩
        have s2 := same_upd (o := .tup [.str "fn", .str "pick", .str "now"]) hp
        have hdn2 := s2 _ _ (sH _ _ hdn)
        have ha2 := s2 _ _ ha
        have hD2 := s2 _ _ hDt
        refine ⟨p, _, rfl, .inr (SqT.of upd_same), rfl, rfl, false, rfl, iteF ?_⟩
        have hg := DGet.k (k := (.inl (some p0) : Key)) hdn2
        refine ⟨_, rfl, a, _, _, _, rfl, rfl, SqT.of ha2, rfl, rfl, true, rfl, iteT ⟨_, rfl, a, _, _, _, rfl, rfl, SqT.of ha2, rfl, _, rfl, dn, _, rfl, hg, _, rfl, ?_⟩⟩
        cases ev : valV kvs (.inl (some p0)) with
        | none =>
          refine iteF ?_
          exact fin0 _ s2 hD2 (fun y z => by
            rcases z with z | ⟨p', ks', z, z2⟩
            · exact nomatch z
            · injection z with z3 z4
              injection z3 with z5
              subst z5
              rw [ev] at z2
              exact nomatch z2)
        | some v =>
          obtain ⟨n, rfl⟩ := hS _ _ ev
          rw [ev] at hg
          refine iteT ⟨_, rfl, _, rfl, _, rfl, a, _, _, _, rfl, rfl, SqT.of ha2, rfl, dn, .str n, rfl, hg, D, _, rfl, DPut.k (k := .inr n) hD2 (by rw [sizeLine_eq]; lia), ?_⟩
          exact fin _ n s2 hD2 (fun y => ⟨fun z => by
            rcases z with z | ⟨p', ks', z, z2⟩
            · exact nomatch z
            · injection z with z3 z4
              injection z3 with z5
              subst z5
              rw [ev] at z2
              exact (V.str.inj (Option.some.inj z2)).symm, fun z => .inr ⟨p0, ks, rfl, by rw [ev, z]⟩⟩)
    · rintro σ H' ⟨⟨v3, rfl⟩, sH, tk, hDt, hKs, htl⟩
      rw [hal.1, List.take_length] at hKs
      rw [hal.1] at htl
      exact ⟨_, rfl, q H' D tk sH hD hDt hKs htl⟩
abbrev NPut : List Str := ["names", "places", "taken", "used", "reached", "place", "name", "number"]
theorem scPut : FnScope NPut ["names", "places", "taken"] (defScope sPut) := ⟨rfl, rfl, rfl, by decide +kernel, rfl, by decide +kernel, by decide +kernel⟩
theorem ok_put {f fB : Addr} {fd fdB : FuncData} (F : Fun K "put_names" "put_names" sPut f fd) (T : Txt mg)
    (FB : Fun K "numbered_name" "numbered_name" sNumbered fB fdB) (bB : Binds K fdB ["name", "number"] []) (mB : mg "numbered_name" = some (.ref fB)) : FnOk P w K mg base CX0 2 f fd ["names", "places", "taken"] spPut := by
  have GB : FnOk P w K mg base CX0 1 fB fdB ["name", "number"] spNbn := ok_nbn FB
  refine F.ok scPut (fun vs H Q E h => ?_) (fun cdv A outer s H vs Q E hr h => ?_)
  · obtain ⟨dn, pl, dt, ps, pvs, kvs, tk, U, rfl, _⟩ := h; rfl
  · obtain ⟨dn, pl, dt, ps, pvs, kvs, tk, U, rfl, hdn, hdt, hKs, hkl, htl, hpl, hps, hplace, q⟩ := h
    have nd := scPut.nd
    have hu := hu_of hr
    rcases hplace with ⟨hpl1, hal⟩ | ⟨hpl1, hal⟩
    · refine ⟨_, pss_cons (ps_set (i := 3) nd rfl (Or.inl rfl) (pe_callTy call_dcopy (by rfl) T.dict bt_dict' (pa_cons (pv 2) pa_nil)))
      (pss_cons (ps_set (i := 4) nd rfl (Or.inl rfl) pe_dnewK)
      (pss_one (ps_for PassesOwn.never rfl (pi_list (pv 1)) (pg_tup rfl (pgs_cons (pg_name (i := 5) nd rfl (Or.inl rfl)) (pgs_cons (pg_name (i := 6) nd rfl (Or.inl rfl)) pgs_nil)))
      (pss_cons (ps_set (i := 7) nd rfl (Or.inl rfl) (pe_dget2 hu (pv 4) (pv 6) pe_int ⟨rfl, rfl, rfl, rfl⟩))
        (pss_cons (ps_while PassesOwn.never (pt_cmp (pc_din hu (pe_call GB hr (by rfl) mB FB.kp bB .nil pass0 (pa_cons (pv 6) (pa_cons (pv 7) pa_nil))) (pv 3)))
        (pss_one (ps_aug (i := 7) nd rfl (Or.inl rfl) pe_int iop_add)))
        (pss_cons (ps_dput hu (pv 4) (pv 6) (pv 7) rfl)
        (pss_cons (ps_dput hu (pv 0) (pv 5) (pe_call GB hr (by rfl) mB FB.kp bB .nil pass0 (pa_cons (pv 6) (pa_cons (pv 7) pa_nil))) rfl)
        (pss_one (ps_dput hu (pv 3) (pe_dget hu (pv 0) (pv 5) (fun _ _ => rfl)) pe_bl rfl))))))))), ?_⟩
      refine ⟨_, rfl, dt, tk, rfl, hdt, fun Du hDu => ?_⟩
      intro Dr hDr
      have s1 := same_upd (o := .dK tk) hDu
      have s2 := same_upd (o := .dK []) hDr
      have s12 := s1.trans s2
      have nur : Du ≠ Dr := ne_of_none (H := upd H Du (.dK tk)) upd_same hDr
      have hDrH : H Dr = none := s1.free hDr
      have nnu : dn ≠ Du := ne_of_none hdn hDu
      have nnr : dn ≠ Dr := ne_of_none hdn hDrH
      refine ⟨_, rfl, pl, rfl, ⟨_, SqL.of (s12 _ _ hpl1)⟩, for_list (xs := pvs) (fun i σ H' => ∃ (v5 v6 v7 : Option V) (r : List (Int × Str)) (U' : Str → Prop) (uk rk : List (Key × V)), σ = [some (.ref dn), some (.ref pl), some (.ref dt), some (.ref Du), some (.ref Dr), v5, v6, v7] ∧ NT U (ps.take i) r U' ∧ H' dn = some (.dK (puts kvs r)) ∧ H' Du = some (.dK uk) ∧ Ks uk U' ∧ uk.length ≤ tk.length + i ∧ H' Dr = some (.dK rk) ∧ Rch rk U' ∧ rk.length ≤ i ∧ ∀ c o, c ≠ dn → H c = some o → H' c = some o)
        ⟨none, none, none, [], U, tk, [], rfl, .nil, s12 _ _ hdn, s2 _ _ upd_same, hKs, Nat.le_refl _, upd_same, Rch.nil, Nat.le_refl _, fun c o _ e => s12 _ _ e⟩ (fun i σ H' _ hP => by obtain ⟨_, _, _, _, _, _, _, _, _, _, _, _, _, _, _, _, k⟩ := hP; exact SqL.of (k _ _ (kind_ne hpl1 hdn (fun z => nomatch z)) hpl1)) ?_ ?_⟩
      · rintro i x σ H' hi ⟨v5, v6, v7, r, U', uk, rk, rfl, hNT, h1, h2, hK2, hul, h3, hR, hrl, hk⟩
        obtain ⟨⟨p, n⟩, ep, hp⟩ := hal.at hi
        have hil : i < ps.length := (List.getElem?_eq_some_iff.mp ep).1
        have hnl : n.length ≤ 100 := hps _ (List.mem_of_getElem? ep)
        obtain ⟨t, rfl, ht⟩ := hp
        have ht' := hk _ _ (kind_ne ht hdn (fun z => nomatch z)) ht
        have hrlen := hNT.len
        rw [List.length_take] at hrlen
        have hpul := puts_len kvs r
        refine ⟨t, _, rfl, SqT.of ht', rfl, _, _, rfl, _, _, rfl, rfl, ?_⟩
        -- where it begins
        have hgr := DGet.k (k := (.inr n : Key)) h3
        refine ⟨_, rfl, Dr, rfl, .inl ⟨_, .inl h3⟩, _, rfl, _, hgr, ?_⟩
        obtain ⟨m0, em0, hm0, hb0⟩ : ∃ m0 : Int, (valV rk (.inr n)).getD (.int 1) = .int m0 ∧ 1 ≤ m0 ∧ ∀ j : Int, 1 ≤ j → j < m0 → U' (nbn n j) := by
          cases ev : valV rk (.inr n) with
          | none => exact ⟨1, rfl, Int.le_refl _, fun j h1 h2 => by lia⟩
          | some v =>
            obtain ⟨m, rfl, h1, h2⟩ := hR n v ev
            exact ⟨m, rfl, h1, h2⟩
        rw [em0]
        refine ⟨fun k σ' H2 => ∃ m : Int, σ' = [some (.ref dn), some (.ref pl), some (.ref dt), some (.ref Du), some (.ref Dr), some (.int p), some (.str n), some (.int m)] ∧ H' = H2 ∧ 1 ≤ m ∧ (∀ j : Int, 1 ≤ j → j < m → U' (nbn n j)) ∧ k = ((uk.length : Int) + 2 - m).toNat, ⟨_, m0, rfl, rfl, hm0, hb0, rfl⟩, ?_⟩
        rintro k σ' H2 ⟨m, rfl, rfl, hm, hb, rfl⟩
        have hmu := bound_of hK2 hb
        have hgu := DGet.k (k := (.inr (nbn n m) : Key)) h2
        refine ⟨_, rfl, _, rfl, n, m, rfl, hm, by lia, hnl, _, rfl, Du, _, rfl, hgu, _, rfl, ite2 (fun c1 => ?_) (fun c1 => ?_)⟩
        · refine ⟨fun σ' H3 => ∃ m' : Int, m' = m + 1 ∧ σ' = [some (.ref dn), some (.ref pl), some (.ref dt), some (.ref Du), some (.ref Dr), some (.int p), some (.str n), some (.int m')] ∧ H' = H3, fun σ' H3 hz => ?_, _, rfl, _, _, rfl, rfl, _, rfl, rfl, rfl⟩
          obtain ⟨m', rfl, rfl, rfl⟩ := hz
          refine ⟨_, ?_, m + 1, rfl, rfl, by lia, fun j g1 g2 => ?_, rfl⟩
          · lia
          · by_cases ej : j = m
            · rw [ej]; exact (hK2 _).mp c1
            · exact hb j g1 (by lia)
        · have hL : Lst U' n m := ⟨hm, fun z => c1 ((hK2 _).mpr z), hb⟩
          -- reached[name] = number
          refine ⟨_, rfl, _, rfl, _, rfl, Dr, _, rfl, DPut.k (k := .inr n) h3 (by rw [sizeLine_eq]; lia), ?_⟩
          have g1 : upd H' Dr (.dK (putK rk (.inr n) (.int m))) dn = some (.dK (puts kvs r)) := by rw [upd_ne nnr]; exact h1
          -- names[place]
          refine ⟨_, rfl, _, rfl, n, m, rfl, hm, by lia, hnl, _, rfl, _, rfl, dn, _, rfl, DPut.k (k := .inl (some p)) g1 (by rw [sizeLine_eq]; lia), ?_⟩
          have g2 : upd (upd H' Dr (.dK (putK rk (.inr n) (.int m)))) dn (.dK (putK (puts kvs r) (.inl (some p)) (.str (nbn n m)))) dn = some (.dK (putK (puts kvs r) (.inl (some p)) (.str (nbn n m)))) := upd_same
          have hg2 := DGet.k (k := (.inl (some p) : Key)) g2
          rw [valV_put, if_pos rfl] at hg2
          have g3 : upd (upd H' Dr (.dK (putK rk (.inr n) (.int m)))) dn (.dK (putK (puts kvs r) (.inl (some p)) (.str (nbn n m)))) Du = some (.dK uk) := by rw [upd_ne (Ne.symm nnu), upd_ne nur]; exact h2
          refine ⟨_, rfl, _, rfl, _, rfl, dn, .str (nbn n m), rfl, hg2, Du, _, rfl, DPut.k (k := .inr (nbn n m)) g3 (by rw [sizeLine_eq]; lia), ?_⟩
          refine ⟨_, _, _, r ++ [(p, nbn n m)], _, putK uk (.inr (nbn n m)) (.bl true), putK rk (.inr n) (.int m), rfl, ?_, ?_, upd_same, hK2.put _ _, ?_, ?_, hR.put hL, ?_, fun c o nc e => ?_⟩
          · rw [List.take_succ, ep]
            exact hNT.snoc hL
          · rw [upd_ne nnu, puts_snoc]; exact g2
          · have := length_putK uk (.inr (nbn n m)) (.bl true); lia
          · rw [upd_ne (Ne.symm nur), upd_ne (Ne.symm nnr), upd_same]
          · have := length_putK rk (.inr n) (.int m); lia
          · rw [upd_ne (ne_of_none e hDu), upd_ne nc, upd_ne (ne_of_none e hDrH)]
            exact hk c o nc e
      · rintro σ H' ⟨v5, v6, v7, r, U', uk, rk, rfl, hNT, h1, h2, hK2, hul, h3, hR, hrl, hk⟩
        rw [hal.1, List.take_length] at hNT
        exact q H' r U' hNT h1 hk
    · refine ⟨_, pss_cons (ps_set (i := 3) nd rfl (Or.inl rfl) (pe_callTy call_dcopy (by rfl) T.dict bt_dict' (pa_cons (pv 2) pa_nil)))
      (pss_cons (ps_set (i := 4) nd rfl (Or.inl rfl) pe_dnewK)
      (pss_one (ps_for PassesOwn.never rfl (pi_tup (pv 1)) (pg_tup rfl (pgs_cons (pg_name (i := 5) nd rfl (Or.inl rfl)) (pgs_cons (pg_name (i := 6) nd rfl (Or.inl rfl)) pgs_nil)))
      (pss_cons (ps_set (i := 7) nd rfl (Or.inl rfl) (pe_dget2 hu (pv 4) (pv 6) pe_int ⟨rfl, rfl, rfl, rfl⟩))
        (pss_cons (ps_while PassesOwn.never (pt_cmp (pc_din hu (pe_call GB hr (by rfl) mB FB.kp bB .nil pass0 (pa_cons (pv 6) (pa_cons (pv 7) pa_nil))) (pv 3)))
        (pss_one (ps_aug (i := 7) nd rfl (Or.inl rfl) pe_int iop_add)))
        (pss_cons (ps_dput hu (pv 4) (pv 6) (pv 7) rfl)
        (pss_cons (ps_dput hu (pv 0) (pv 5) (pe_call GB hr (by rfl) mB FB.kp bB .nil pass0 (pa_cons (pv 6) (pa_cons (pv 7) pa_nil))) rfl)
        (pss_one (ps_dput hu (pv 3) (pe_dget hu (pv 0) (pv 5) (fun _ _ => rfl)) pe_bl rfl))))))))), ?_⟩
      refine ⟨_, rfl, dt, tk, rfl, hdt, fun Du hDu => ?_⟩
      intro Dr hDr
      have s1 := same_upd (o := .dK tk) hDu
      have s2 := same_upd (o := .dK []) hDr
      have s12 := s1.trans s2
      have nur : Du ≠ Dr := ne_of_none (H := upd H Du (.dK tk)) upd_same hDr
      have hDrH : H Dr = none := s1.free hDr
      have nnu : dn ≠ Du := ne_of_none hdn hDu
      have nnr : dn ≠ Dr := ne_of_none hdn hDrH
      refine ⟨_, rfl, pl, rfl, ⟨_, SqT.of (s12 _ _ hpl1)⟩, for_tup (xs := pvs) (fun i σ H' => ∃ (v5 v6 v7 : Option V) (r : List (Int × Str)) (U' : Str → Prop) (uk rk : List (Key × V)), σ = [some (.ref dn), some (.ref pl), some (.ref dt), some (.ref Du), some (.ref Dr), v5, v6, v7] ∧ NT U (ps.take i) r U' ∧ H' dn = some (.dK (puts kvs r)) ∧ H' Du = some (.dK uk) ∧ Ks uk U' ∧ uk.length ≤ tk.length + i ∧ H' Dr = some (.dK rk) ∧ Rch rk U' ∧ rk.length ≤ i ∧ ∀ c o, c ≠ dn → H c = some o → H' c = some o)
        ⟨none, none, none, [], U, tk, [], rfl, .nil, s12 _ _ hdn, s2 _ _ upd_same, hKs, Nat.le_refl _, upd_same, Rch.nil, Nat.le_refl _, fun c o _ e => s12 _ _ e⟩ (fun i σ H' _ hP => by obtain ⟨_, _, _, _, _, _, _, _, _, _, _, _, _, _, _, _, k⟩ := hP; exact SqT.of (k _ _ (kind_ne hpl1 hdn (fun z => nomatch z)) hpl1)) ?_ ?_⟩
      · rintro i x σ H' hi ⟨v5, v6, v7, r, U', uk, rk, rfl, hNT, h1, h2, hK2, hul, h3, hR, hrl, hk⟩
        obtain ⟨⟨p, n⟩, ep, hp⟩ := hal.at hi
        have hil : i < ps.length := (List.getElem?_eq_some_iff.mp ep).1
        have hnl : n.length ≤ 100 := hps _ (List.mem_of_getElem? ep)
        obtain ⟨t, rfl, ht⟩ := hp
        have ht' := hk _ _ (kind_ne ht hdn (fun z => nomatch z)) ht
        have hrlen := hNT.len
        rw [List.length_take] at hrlen
        have hpul := puts_len kvs r
        refine ⟨t, _, rfl, SqT.of ht', rfl, _, _, rfl, _, _, rfl, rfl, ?_⟩
        -- where it begins
        have hgr := DGet.k (k := (.inr n : Key)) h3
        refine ⟨_, rfl, Dr, rfl, .inl ⟨_, .inl h3⟩, _, rfl, _, hgr, ?_⟩
        obtain ⟨m0, em0, hm0, hb0⟩ : ∃ m0 : Int, (valV rk (.inr n)).getD (.int 1) = .int m0 ∧ 1 ≤ m0 ∧ ∀ j : Int, 1 ≤ j → j < m0 → U' (nbn n j) := by
          cases ev : valV rk (.inr n) with
          | none => exact ⟨1, rfl, Int.le_refl _, fun j h1 h2 => by lia⟩
          | some v =>
            obtain ⟨m, rfl, h1, h2⟩ := hR n v ev
            exact ⟨m, rfl, h1, h2⟩
        rw [em0]
        refine ⟨fun k σ' H2 => ∃ m : Int, σ' = [some (.ref dn), some (.ref pl), some (.ref dt), some (.ref Du), some (.ref Dr), some (.int p), some (.str n), some (.int m)] ∧ H' = H2 ∧ 1 ≤ m ∧ (∀ j : Int, 1 ≤ j → j < m → U' (nbn n j)) ∧ k = ((uk.length : Int) + 2 - m).toNat, ⟨_, m0, rfl, rfl, hm0, hb0, rfl⟩, ?_⟩
        rintro k σ' H2 ⟨m, rfl, rfl, hm, hb, rfl⟩
        have hmu := bound_of hK2 hb
        have hgu := DGet.k (k := (.inr (nbn n m) : Key)) h2
        refine ⟨_, rfl, _, rfl, n, m, rfl, hm, by lia, hnl, _, rfl, Du, _, rfl, hgu, _, rfl, ite2 (fun c1 => ?_) (fun c1 => ?_)⟩
        · refine ⟨fun σ' H3 => ∃ m' : Int, m' = m + 1 ∧ σ' = [some (.ref dn), some (.ref pl), some (.ref dt), some (.ref Du), some (.ref Dr), some (.int p), some (.str n), some (.int m')] ∧ H' = H3, fun σ' H3 hz => ?_, _, rfl, _, _, rfl, rfl, _, rfl, rfl, rfl⟩
          obtain ⟨m', rfl, rfl, rfl⟩ := hz
          refine ⟨_, ?_, m + 1, rfl, rfl, by lia, fun j g1 g2 => ?_, rfl⟩
          · lia
          · by_cases ej : j = m
            · rw [ej]; exact (hK2 _).mp c1
            · exact hb j g1 (by lia)
        · have hL : Lst U' n m := ⟨hm, fun z => c1 ((hK2 _).mpr z), hb⟩
          -- reached[name] = number
          refine ⟨_, rfl, _, rfl, _, rfl, Dr, _, rfl, DPut.k (k := .inr n) h3 (by rw [sizeLine_eq]; lia), ?_⟩
          have g1 : upd H' Dr (.dK (putK rk (.inr n) (.int m))) dn = some (.dK (puts kvs r)) := by rw [upd_ne nnr]; exact h1
          -- names[place]
          refine ⟨_, rfl, _, rfl, n, m, rfl, hm, by lia, hnl, _, rfl, _, rfl, dn, _, rfl, DPut.k (k := .inl (some p)) g1 (by rw [sizeLine_eq]; lia), ?_⟩
          have g2 : upd (upd H' Dr (.dK (putK rk (.inr n) (.int m)))) dn (.dK (putK (puts kvs r) (.inl (some p)) (.str (nbn n m)))) dn = some (.dK (putK (puts kvs r) (.inl (some p)) (.str (nbn n m)))) := upd_same
          have hg2 := DGet.k (k := (.inl (some p) : Key)) g2
          rw [valV_put, if_pos rfl] at hg2
          have g3 : upd (upd H' Dr (.dK (putK rk (.inr n) (.int m)))) dn (.dK (putK (puts kvs r) (.inl (some p)) (.str (nbn n m)))) Du = some (.dK uk) := by rw [upd_ne (Ne.symm nnu), upd_ne nur]; exact h2
          refine ⟨_, rfl, _, rfl, _, rfl, dn, .str (nbn n m), rfl, hg2, Du, _, rfl, DPut.k (k := .inr (nbn n m)) g3 (by rw [sizeLine_eq]; lia), ?_⟩
          refine ⟨_, _, _, r ++ [(p, nbn n m)], _, putK uk (.inr (nbn n m)) (.bl true), putK rk (.inr n) (.int m), rfl, ?_, ?_, upd_same, hK2.put _ _, ?_, ?_, hR.put hL, ?_, fun c o nc e => ?_⟩
          · rw [List.take_succ, ep]
            exact hNT.snoc hL
          · rw [upd_ne nnu, puts_snoc]; exact g2
          · have := length_putK uk (.inr (nbn n m)) (.bl true); lia
          · rw [upd_ne (Ne.symm nur), upd_ne (Ne.symm nnr), upd_same]
          · have := length_putK rk (.inr n) (.int m); lia
          · rw [upd_ne (ne_of_none e hDu), upd_ne nc, upd_ne (ne_of_none e hDrH)]
            exact hk c o nc e
      · rintro σ H' ⟨v5, v6, v7, r, U', uk, rk, rfl, hNT, h1, h2, hK2, hul, h3, hR, hrl, hk⟩
        rw [hal.1, List.take_length] at hNT
        exact q H' r U' hNT h1 hk
end
end K75

set_option Elab.async false
set_option linter.all false
set_option maxRecDepth 100000
set_option maxHeartbeats 4000000
/-! k75: names_of. Own work. -/
namespace K75
open PySem L2 Builtin.Str
theorem some_of {α : Type} {us : List α} {n : Nat} (h : us.length = n + 1) : ∃ a r, us = a :: r ∧ r.length = n := by
  cases us with
  | nil => exact nomatch h
  | cons a r => exact ⟨a, r, rfl, Nat.succ.inj h⟩
theorem one_of {α : Type} {us : List α} (h : us.length = 1) : ∃ a, us = [a] := by
  obtain ⟨a, r, rfl, h1⟩ := some_of h
  obtain rfl := List.eq_nil_of_length_eq_zero h1
  exact ⟨a, rfl⟩
theorem three_of {α : Type} {us : List α} (h : us.length = 3) : ∃ a b c, us = [a, b, c] := by
  obtain ⟨a, r, rfl, h1⟩ := some_of h
  obtain ⟨b, r2, rfl, h2⟩ := some_of h1
  obtain ⟨c, rfl⟩ := one_of h2
  exact ⟨a, b, c, rfl⟩
def spNames : Sp := fun vs H Q _ => ∃ (l : Addr) (its : List It) (iv : List V), vs = [.ref l] ∧ H l = some (.lst iv) ∧ Al (ItIn H) its iv ∧ Its its ∧
  ∀ (H' : Hp) (D : Addr) (r : List (Int × Str)) (U' : Str → Prop) (kvs : List (Key × V)), NT (UI its) (tops its) r U' → FN (puts [] r) (cores its) kvs → H' D = some (.dK kvs) → Same H H' → H D = none → Q (.ref D) H'
theorem cores_snoc (its : List It) (it : It) : cores (its ++ [it]) = cores its ++ pre it.core := by
  unfold cores
  simp
theorem tops_snoc (its : List It) (it : It) : tops (its ++ [it]) = tops its ++ it.top.toList := by
  unfold tops
  rw [List.filterMap_append]
  congr 1
theorem core_len : ∀ {its : List It} {it : It}, it ∈ its → sz it.core ≤ (cores its).length
  | x :: its, it, h => by
    have e : cores (x :: its) = pre x.core ++ cores its := rfl
    rw [e, List.length_append, pre_len]
    rcases List.mem_cons.mp h with h | h
    · rw [h]; lia
    · have := core_len h; lia
theorem cores_take (its : List It) (i : Nat) : (cores (its.take i)).length ≤ (cores its).length := by
  have e : cores its = cores (its.take i) ++ cores (its.drop i) := by
    unfold cores
    rw [← List.flatMap_append, List.take_append_drop]
  rw [e, List.length_append]; lia
mutual
theorem pre_sz : ∀ {c d : Co}, d ∈ pre c → sz d ≤ sz c
  | .mk t ks, d, h => by
    unfold pre at h
    rcases List.mem_cons.mp h with e | h
    · rw [e]; exact Nat.le_refl _
    · have := pres_sz h
      simp only [sz]
      lia
theorem pres_sz : ∀ {cs : List Co} {d : Co}, d ∈ pres cs → sz d ≤ szs cs
  | [], d, h => by unfold pres at h; exact nomatch h
  | c :: cs, d, h => by
    unfold pres at h
    simp only [szs]
    rcases List.mem_append.mp h with h | h
    · have := pre_sz h; lia
    · have := pres_sz h; lia
end
theorem flat_len : ∀ {cs : List Co} {n : Nat}, (∀ d ∈ cs, (parms d).length ≤ n) → (cs.flatMap parms).length ≤ n * cs.length
  | [], n, _ => by simp
  | d :: cs, n, h => by
    have h1 := flat_len (cs := cs) (n := n) fun x hx => h x (List.mem_cons_of_mem _ hx)
    have h2 := h d (List.mem_cons_self ..)
    rw [List.flatMap_cons, List.length_append, List.length_cons, Nat.mul_succ]
    lia
theorem mem_cores {its : List It} {d : Co} : d ∈ cores its ↔ ∃ it ∈ its, d ∈ pre it.core := by
  unfold cores
  rw [List.mem_flatMap]
theorem mem_tops {its : List It} {x : Int × Str} : x ∈ tops its ↔ ∃ it ∈ its, it.top = some x := by
  unfold tops
  rw [List.mem_filterMap]
section
variable {P : Program} {w : World} {K : PySem.W.Frag} {mg : Str → Option Value} {base : Heap}
abbrev NNames : List Str := ["items", "cores", "item", "names", "tops", "core"]
theorem scNames : FnScope NNames ["items"] (defScope sNames) := ⟨rfl, rfl, rfl, by decide +kernel, rfl, by decide +kernel, by decide +kernel⟩
theorem lcNames1 : LcS (defScope sNames).names [(".0", .local), ("item", .local)] NNames [false, false, false, false, false, false] := ⟨by decide +kernel, by decide +kernel, by decide +kernel, by decide +kernel, by decide +kernel, rfl⟩
theorem ndNames1 : (["items", "cores", "item", "names", "tops", "core"] : List Str).Nodup := by decide +kernel
theorem ok_names {f fI fW fT fP fB : Addr} {fd fdI fdW fdT fdP fdB : FuncData} (F : Fun K "names_of" "names_of" sNames f fd) (T : Txt mg)
    (FI : Fun K "inner_cores" "inner_cores" sInner fI fdI) (bI : Binds K fdI ["core"] []) (mI : mg "inner_cores" = some (.ref fI))
    (FW : Fun K "cores_within" "cores_within" sWithin fW fdW) (bW : Binds K fdW ["core"] []) (mW : mg "cores_within" = some (.ref fW))
    (FT : Fun K "taken_in" "taken_in" sTaken fT fdT) (bT : Binds K fdT ["scope", "names"] []) (mT : mg "taken_in" = some (.ref fT))
    (FP : Fun K "put_names" "put_names" sPut fP fdP) (bP : Binds K fdP ["names", "places", "taken"] []) (mP : mg "put_names" = some (.ref fP))
    (FB : Fun K "numbered_name" "numbered_name" sNumbered fB fdB) (bB : Binds K fdB ["name", "number"] []) (mB : mg "numbered_name" = some (.ref fB)) : FnOk P w K mg base CX0 3 f fd ["items"] spNames := by
  have GW : FnOk P w K mg base CX0 2 fW fdW ["core"] spWithin := ok_within FW T FI bI mI
  have GT : FnOk P w K mg base CX0 2 fT fdT ["scope", "names"] spTaken := (ok_taken FT).mono (by decide)
  have GP : FnOk P w K mg base CX0 2 fP fdP ["names", "places", "taken"] spPut := ok_put FP T FB bB mB
  refine F.ok scNames (fun vs H Q E h => ?_) (fun cdv A outer s H vs Q E hr h => ?_)
  · obtain ⟨l, its, iv, rfl, _⟩ := h; rfl
  · obtain ⟨l, its, iv, rfl, hl, hal, hIts, q⟩ := h
    have nd := scNames.nd
    have z2 : 2 ≤ sizeLine := by rw [sizeLine_eq]; decide
    have hcl := hIts.csz
    have hsz4 : ∀ it ∈ its, sz it.core ≤ 100000 := fun it hi => by have := core_len hi; lia
    refine ⟨_, pss_cons (ps_set (i := 1) nd rfl (Or.inl rfl) (pe_lst pa_nil))
      (pss_cons (ps_for PassesOwn.never rfl (pi_list (pv 0)) (pg_name (i := 2) nd rfl (Or.inl rfl))
      (pss_one (ps_expr (pe_bm PySem.F.plainAttrs_list PySem.F.slot_list_extend PySem.F.type_list_extend mt_extend (pv 1) (pa_cons (pe_call GW hr (by rfl) mW FW.kp bW .nil pass0 (pa_cons (pe_ix ix_tup (pv 2) (pe_un un_neg pe_int) (fun _ _ => rfl)) pa_nil)) pa_nil)))))
      (pss_cons (ps_set (i := 3) nd rfl (Or.inl rfl) pe_dnewK)
      (pss_cons (ps_lc (i := 4) (ext := []) nd rfl rfl lcNames1 rfl (pi_list (pv 0))
          ⟨fun _ _ _ _ _ => (pg_name (i := 2) ndNames1 rfl (Or.inl rfl) (.inr rfl)), fun _ _ _ _ _ => (pts_one (pt_cmpR op_eq (pe_ix (ix_tup : IxR _ (rIxT K)) (pv 2) pe_int (fun _ _ => rfl)) pe_str (nomark _))), fun _ _ _ _ _ => (pe_tup (pa_cons (pe_ix (ix_tup : IxR _ (rIxT K)) (pv 2) pe_int (fun _ _ => rfl)) (pa_cons (pe_ix (ix_tup : IxR _ (rIxT K)) (pv 2) pe_int (fun _ _ => rfl)) pa_nil)))⟩)
      (pss_cons (ps_expr (pe_call GP hr (by rfl) mP FP.kp bP .nil pass0 (pa_cons (pv 3) (pa_cons (pv 4) (pa_cons (pe_call GT hr (by rfl) mT FT.kp bT .nil pass0 (pa_cons (pv 1) (pa_cons (pv 3) pa_nil))) pa_nil)))))
      (pss_cons (ps_for PassesOwn.never rfl (pi_list (pv 1)) (pg_name (i := 5) nd rfl (Or.inl rfl))
      (pss_one (ps_if (pt_cmpR op_eq (pe_ix ix_tup (pv 5) pe_int (fun _ _ => rfl)) pe_str (nomark _))
        (pss_one (ps_expr (pe_call GP hr (by rfl) mP FP.kp bP .nil pass0 (pa_cons (pv 3) (pa_cons (pe_ix ix_tup (pv 5) pe_int (fun _ _ => rfl)) (pa_cons (pe_call GT hr (by rfl) mT FT.kp bT .nil pass0 (pa_cons (pe_call GW hr (by rfl) mW FW.kp bW .nil pass0 (pa_cons (pe_ix ix_tup (pv 5) pe_int (fun _ _ => rfl)) pa_nil)) (pa_cons (pv 3) pa_nil))) pa_nil))))))
        pss_nil)))
      (pss_one (ps_ret (pv 3)))))))), ?_⟩
    refine ⟨Nat.zero_le _, fun C hC => ?_⟩
    have s1 := same_upd (o := .lst []) hC
    refine ⟨_, rfl, l, rfl, ⟨_, SqL.of (s1 _ _ hl)⟩, for_list (xs := iv) (fun i σ H' => (∃ v2, σ = [some (.ref l), some (.ref C), v2, none, none, none]) ∧ Same H H' ∧ ∃ xs, H' C = some (.lst xs) ∧ Al (CoIn H') (cores (its.take i)) xs)
      ⟨⟨_, rfl⟩, s1, [], upd_same, Al.nil⟩ (fun i σ H' _ hP => SqL.of (hP.2.1 _ _ hl)) ?_ ?_⟩
    · rintro i x σ H' hi ⟨⟨v2, rfl⟩, sH, xs, hCx, hcx⟩
      obtain ⟨it, eit, hit⟩ := hal.at hi
      have hmem := List.mem_of_getElem? eit
      have hil : i < its.length := (List.getElem?_eq_some_iff.mp eit).1
      obtain ⟨t, ys, cv, rfl, hsq, hat, hc⟩ := (hit.tup (Tup.of sH)).last (K := K)
      have hs4 := hsz4 it hmem
      refine ⟨_, rfl, .inl ⟨rfl, _, SqL.of hCx⟩, _, rfl, _, rfl, t, ys, _, cv, rfl, rfl, hsq, hat, cv, it.core, rfl, hc, by lia, fun H2 D zs s2 hD hD2 hz => ?_⟩
      have hC2 := s2 _ _ hCx
      have nDC : D ≠ C := Ne.symm (ne_of_none hCx hD)
      have hcl2 := cores_take its i
      have hpl := pre_len it.core
      refine ⟨C, D, xs, zs, rfl, rfl, hC2, hD2, by rw [hcx.1, hz.1, sizeLine_eq]; lia, ⟨_, rfl⟩, fun e o qe => ?_, xs ++ zs, upd_same, ?_⟩
      · rw [upd_ne (ne_of_none qe hC)]; exact s2 _ _ (sH _ _ qe)
      · rw [List.take_succ, eit]
        show Al _ (cores (its.take i ++ [it])) _
        rw [cores_snoc]
        have tk := Tup.lst (ys := xs ++ zs) hC2
        exact (hcx.mono fun _ _ r => (r.tup (Tup.of s2)).tup tk).append (hz.mono fun _ _ r => r.tup tk)
    · rintro σ H1 ⟨⟨v2, rfl⟩, sH1, xs, hCx, hcx⟩
      rw [hal.1, List.take_length] at hcx
      intro dn hdn
      have s2 := same_upd (o := .dK []) hdn
      have hdnH : H dn = none := sH1.free hdn
      have hC2 := s2 _ _ hCx
      have hcx2 := hcx.mono fun _ _ r => CoIn.tup (Tup.of s2) r
      have hdn2 : upd H1 dn (.dK []) dn = some (.dK []) := upd_same
      have sH2 := sH1.trans s2
      generalize upd H1 dn (.dK []) = H2 at hdn2 hC2 hcx2 sH2 ⊢
      refine ⟨_, rfl, l, rfl, ⟨_, SqL.of (sH2 _ _ hl)⟩, fun D hD => ?_⟩
      refine lc_lst (K := K) (a := l) (xs := iv) (fun k ys σ' H' => (∃ v, σ' = [none, none, v, none, none, none]) ∧ Same H2 H' ∧ H' D = some (.lst ys) ∧ Al (PaIn H') (tops (its.take k)) ys)
        ⟨⟨_, rfl⟩, same_upd hD, upd_same, Al.nil⟩ (fun k ys σ' H' _ hP => SqL.of (hP.2.1 _ _ (sH2 _ _ hl))) ?_ ?_
      · rintro k x ys σ' H' hx ⟨⟨v, rfl⟩, sH, hDy, hpa⟩
        unfold gName
        have hk := (List.getElem?_eq_some_iff.mp hx).1
        obtain ⟨it, eit, hit⟩ := hal.at hx
        have hit' := hit.tup (Tup.of (sH2.trans sH))
        have htk : tops (its.take (k + 1)) = tops (its.take k) ++ it.top.toList := by rw [List.take_succ, eit]; exact tops_snoc _ _
        have hyl : ys.length ≤ 200 := by
          rw [hpa.1]
          have h1 := tops_len (its.take k)
          have h2 := hIts.len
          rw [List.length_take] at h1
          lia
        cases it with
        | defi p n c =>
          obtain ⟨t, cv, rfl, ht, hc⟩ := hit'
          refine ⟨_, rfl, t, _, _, _, rfl, rfl, SqT.of ht, rfl, rfl, true, rfl, iteT ?_⟩
          refine ⟨_, rfl, t, _, _, _, rfl, rfl, SqT.of ht, rfl, _, rfl, t, _, _, _, rfl, rfl, SqT.of ht, rfl, z2, fun u hu => ?_⟩
          have s3 := same_upd (o := .tup [.int p, .str n]) hu
          have hD3 := s3 _ _ hDy
          refine ⟨hD3, by rw [sizeLine_eq]; lia, Beh.of hk ⟨⟨_, rfl⟩, fun e o qe => ?_, upd_same, ?_⟩⟩
          · rw [upd_ne (ne_of_none qe hD)]; exact s3 _ _ (sH _ _ qe)
          · rw [htk]
            have tk := Tup.lst (ys := ys ++ [.ref u]) hD3
            exact (hpa.mono fun _ _ r => (r.tup (Tup.of s3)).tup tk).snoc ⟨u, rfl, tk _ _ upd_same⟩
        | shw c =>
          obtain ⟨t, cv, rfl, ht, hc⟩ := hit'
          refine ⟨_, rfl, t, _, _, _, rfl, rfl, SqT.of ht, rfl, rfl, false, rfl, iteF ?_⟩
          refine Beh.of hk ⟨⟨_, rfl⟩, sH, hDy, ?_⟩
          rw [htk]
          simpa [It.top] using hpa
      · rintro ys σ' H3 ⟨_, s3, hDy, hpa⟩
        rw [hal.1, List.take_length] at hpa
        have hC3 := s3 _ _ hC2
        have hdn3 := s3 _ _ hdn2
        have hcx3 := hcx2.mono fun _ _ r => CoIn.tup (Tup.of s3) r
        have sH3 := sH2.trans s3
        have htl := tops_len its
        have hil := hIts.len
        -- put_names(names, tops, taken_in(cores, names))
        refine ⟨_, rfl, _, rfl, _, rfl, _, rfl, C, dn, cores its, xs, [], rfl, hC3, hcx3, hdn3, Strs.nil, by lia, fun H4 dt tk s4 hdt hdt4 hKs htkl => ?_⟩
        have hKs' : Ks tk (UI its) := hKs.iff fun y => by
          constructor
          · rintro ⟨d, hd, z | ⟨p, ks, e, z⟩⟩
            · exact ⟨d, hd, z⟩
            · rw [valV_nil] at z; exact nomatch z
          · rintro ⟨d, hd, z⟩
            exact ⟨d, hd, .inl z⟩
        refine ⟨dn, D, dt, tops its, ys, [], tk, UI its, rfl, s4 _ _ hdn3, hdt4, hKs', Nat.zero_le _, by lia, by lia, fun x hx => ?_, .inl ⟨s4 _ _ hDy, hpa.mono fun _ _ r => r.tup (Tup.of s4)⟩, fun H5 r U' hNT h5 k5 => ?_⟩
        · exact hIts.tnm x.1 x.2 hx
        have hC4 := s4 _ _ hC3
        have hdn4 := s4 _ _ hdn3
        have hC5 := k5 _ _ (kind_ne hC4 hdn4 (fun z => nomatch z)) hC4
        have t5 : Tup H4 H5 := fun e zs qe => k5 _ _ (kind_ne qe hdn4 (fun z => nomatch z)) qe
        have hcx5 := hcx3.mono fun _ _ r => (r.tup (Tup.of s4)).tup t5
        have sH5 : Same H H5 := fun e o qe => k5 _ _ (ne_of_none qe hdnH) (s4 _ _ (sH3 _ _ qe))
        have hrl := hNT.len
        have hpl := puts_len [] r
        have hst := Strs.puts r Strs.nil
        -- the fns
        refine ⟨_, rfl, C, rfl, ⟨_, SqL.of hC5⟩, for_list (xs := xs) (fun i σ H' => (∃ v5, σ = [some (.ref l), some (.ref C), v2, some (.ref dn), some (.ref D), v5]) ∧ Same H H' ∧ H' C = some (.lst xs) ∧ Al (CoIn H') (cores its) xs ∧ ∃ kk, H' dn = some (.dK kk) ∧ FN (puts [] r) ((cores its).take i) kk)
          ⟨⟨_, rfl⟩, sH5, hC5, hcx5, _, h5, .nil⟩ (fun i σ H' _ hP => SqL.of hP.2.2.1) ?_ ?_⟩
        · rintro i x σ H' hi ⟨⟨v5, rfl⟩, sH, gC, gx, kk, gn, gF⟩
          obtain ⟨d, ed, hd⟩ := gx.at hi
          have hdm := List.mem_of_getElem? ed
          obtain ⟨it, hitm, hdp⟩ := mem_cores.mp hdm
          obtain ⟨t, ks⟩ := d
          have hdsz := pre_sz hdp
          have hs4' := hsz4 it hitm
          have etk : (cores its).take (i + 1) = (cores its).take i ++ [Co.mk t ks] := by rw [List.take_succ, ed]; rfl
          have hkl : kk.length ≤ 2100000 := by
            have h1 := gF.len
            have h2 : (((cores its).take i).flatMap parms).length ≤ 20 * ((cores its).take i).length := flat_len fun d hd => hIts.pln d (List.mem_of_mem_take hd)
            have h3 : ((cores its).take i).length ≤ (cores its).length := by rw [List.length_take]; lia
            simp only [List.length_nil] at hpl
            lia
          have hstk := gF.strs hst
          have skip : (∀ ps' ks', Co.mk t ks ≠ .mk (.fn ps') ks') → FN (puts [] r) ((cores its).take (i + 1)) kk := fun hn => by
            rw [etk]
            exact gF.append (.skip hn .nil)
          obtain ⟨a, us, rfl, hat, hks⟩ := hd.cut
          cases t with
          | fn ps =>
            obtain ⟨u, pv', b, rfl, ha, hu, hps⟩ := hat
            have hk1 : ks.length = 1 := hks.1.symm
            obtain ⟨kb, rfl⟩ := one_of hk1
            obtain ⟨b', bs', eb, hb, _⟩ := hks.uncons
            cases eb
            simp only [sz, szs] at hdsz
            have hpln : ps.length ≤ 20 := hIts.pln _ hdm
            refine ⟨_, rfl, a, _, _, _, rfl, rfl, SqT.of ha, rfl, rfl, true, rfl, iteT ?_⟩
            refine ⟨_, rfl, _, rfl, a, _, _, _, rfl, rfl, SqT.of ha, rfl, _, rfl, a, _, _, _, rfl, rfl, SqT.of ha, rfl, b, kb, rfl, hb, by lia, fun H6 D6 zs s6 hD6 hD66 hz6 => ?_⟩
            have hlk : (pre kb).length ≤ 100000 := by rw [pre_len]; lia
            refine ⟨_, rfl, D6, dn, pre kb, zs, kk, rfl, hD66, hz6, s6 _ _ gn, hstk, hlk, fun H7 dt7 tk7 s7 hdt7 hdt77 hKs7 htk7 => ?_⟩
            have s67 := s6.trans s7
            refine ⟨dn, u, dt7, ps, pv', kk, tk7, _, rfl, s67 _ _ gn, hdt77, hKs7, by lia, by lia, by lia, (fun x hx => hIts.pnm _ hdm x hx), .inr ⟨s67 _ _ hu, hps.mono fun _ _ r => r.tup (Tup.of s67)⟩, fun H8 r8 U8 hNT8 h8 k8 => ?_⟩
            have g7 := s67 _ _ gC
            have t8 : Tup H' H8 := fun e zs' qe => k8 _ _ (kind_ne (s67 _ _ qe) (s67 _ _ gn) (fun z => nomatch z)) (s67 _ _ qe)
            refine ⟨⟨_, rfl⟩, fun e o qe => k8 _ _ (ne_of_none qe hdnH) (s67 _ _ (sH _ _ qe)), k8 _ _ (kind_ne g7 (s67 _ _ gn) (fun z => nomatch z)) g7, gx.mono fun _ _ r => r.tup t8, _, h8, ?_⟩
            rw [etk]
            exact gF.append (.fn hNT8 .nil)
          | num z =>
            obtain ⟨e, ha⟩ := hat
            exact ⟨_, rfl, a, _, _, _, rfl, rfl, SqT.of ha, rfl, rfl, false, rfl, iteF ⟨⟨_, rfl⟩, sH, gC, gx, kk, gn, skip (fun ps' ks' z => by injection z with z1 z2; exact nomatch z1)⟩⟩
          | free n =>
            obtain ⟨e, ha⟩ := hat
            exact ⟨_, rfl, a, _, _, _, rfl, rfl, SqT.of ha, rfl, rfl, false, rfl, iteF ⟨⟨_, rfl⟩, sH, gC, gx, kk, gn, skip (fun ps' ks' z => by injection z with z1 z2; exact nomatch z1)⟩⟩
          | seen p =>
            obtain ⟨e, ha⟩ := hat
            exact ⟨_, rfl, a, _, _, _, rfl, rfl, SqT.of ha, rfl, rfl, false, rfl, iteF ⟨⟨_, rfl⟩, sH, gC, gx, kk, gn, skip (fun ps' ks' z => by injection z with z1 z2; exact nomatch z1)⟩⟩
          | call =>
            obtain ⟨u, f', as, e, ha, hu⟩ := hat
            exact ⟨_, rfl, a, _, _, _, rfl, rfl, SqT.of ha, rfl, rfl, false, rfl, iteF ⟨⟨_, rfl⟩, sH, gC, gx, kk, gn, skip (fun ps' ks' z => by injection z with z1 z2; exact nomatch z1)⟩⟩
          | pick =>
            obtain ⟨x', y', z', e, ha⟩ := hat
            exact ⟨_, rfl, a, _, _, _, rfl, rfl, SqT.of ha, rfl, rfl, false, rfl, iteF ⟨⟨_, rfl⟩, sH, gC, gx, kk, gn, skip (fun ps' ks' z => by injection z with z1 z2; exact nomatch z1)⟩⟩
          | now =>
            obtain ⟨x', e, ha⟩ := hat
            exact ⟨_, rfl, a, _, _, _, rfl, rfl, SqT.of ha, rfl, rfl, false, rfl, iteF ⟨⟨_, rfl⟩, sH, gC, gx, kk, gn, skip (fun ps' ks' z => by injection z with z1 z2; exact nomatch z1)⟩⟩
        · rintro σ H' ⟨⟨v5, rfl⟩, sH, gC, gx, kk, gn, gF⟩
          rw [gx.1, List.take_length] at gF
          exact ⟨_, rfl, q H' dn r U' kk hNT gF gn sH hdnH⟩
end
end K75

set_option Elab.async false
set_option linter.all false
set_option maxRecDepth 100000
set_option maxHeartbeats 4000000
/-! The classes of trees: how they are made, what their fields hold. Own work (made of a template for each statement that reaches them). -/
namespace K75
open PySem L2 TR
abbrev sTI : Stmt := inClass (top 10) 0
abbrev sWI : Stmt := inClass (top 11) 0
abbrev sFI : Stmt := inClass (top 12) 0
abbrev sRI : Stmt := inClass (top 13) 0
theorem maxI_deeps : ∀ (ts : List Tr), maxI (ts.map fun t => (deep t : Int)) 0 = (deeps ts : Int) := by
  have key : ∀ (ts : List Tr) (z : Nat), (ts.map fun t => (deep t : Int)).foldl (fun a b => if b > a then b else a) (z : Int) = ((max z (deeps ts) : Nat) : Int) := by
    intro ts
    induction ts with
    | nil => intro z; simp [deeps]
    | cons p r ih =>
      intro z
      simp only [List.map_cons, List.foldl_cons, deeps]
      by_cases h : (deep p : Int) > (z : Int)
      · rw [if_pos h, ih]; congr 1; lia
      · rw [if_neg h, ih]; congr 1; lia
  intro ts
  cases ts with
  | nil => rfl
  | cons p r =>
    show (r.map fun t => (deep t : Int)).foldl _ (deep p : Int) = _
    rw [key]; simp [deeps]
theorem sum_many (ts : List Tr) : (ts.map fun t => (many t : Int)).sum = (manys ts : Int) := by
  induction ts with
  | nil => rfl
  | cons p r ih => simp only [List.map_cons, List.sum_cons, manys, ih]; lia
/-! ### what is asked of the classes -/
structure TC (K : PySem.W.Frag) (C : Addr) : Prop where
  cl : Cls K C
  nA : NoAttr K C "at"
  nM : NoAttr K C "many"
  nD : NoAttr K C "deep"
  ha : PySem.W.findIn K (.ref C) "__class__" = some (some (.builtin "object.__class__"))
  hm : PySem.W.mroIn K C (.type "object") = some true
structure Tcs (K : PySem.W.Frag) (mg : Str → Option Value) (c : C4) : Prop where
  tw : TC K c.W
  tf : TC K c.F
  tr : TC K c.R
  nWn : NoAttr K c.W "name"
  nWb : NoAttr K c.W "bits"
  nFn : NoAttr K c.F "number"
  nRp : NoAttr K c.R "parts"
  mgT : mg "Tree" = some (.ref c.T)
  mgW : mg "Word" = some (.ref c.W)
  mgF : mg "Figure" = some (.ref c.F)
  mgR : mg "Row" = some (.ref c.R)
  hn : PySem.W.specialIn K (.builtin "object.__class__") "__get__" = some (some (.builtin "getset_descriptor.__get__"))
  htk : PySem.W.takesIn K (.builtin "object.__class__") = some true
  iWW : PySem.W.kitOne K (.ref c.W) (.ref c.W) = some true
  iFW : PySem.W.kitOne K (.ref c.F) (.ref c.W) = some false
  iRW : PySem.W.kitOne K (.ref c.R) (.ref c.W) = some false
  iWF : PySem.W.kitOne K (.ref c.W) (.ref c.F) = some false
  iFF : PySem.W.kitOne K (.ref c.F) (.ref c.F) = some true
  iRF : PySem.W.kitOne K (.ref c.R) (.ref c.F) = some false
  iWR : PySem.W.kitOne K (.ref c.W) (.ref c.R) = some false
  iFR : PySem.W.kitOne K (.ref c.F) (.ref c.R) = some false
  iRR : PySem.W.kitOne K (.ref c.R) (.ref c.R) = some true
  iWT : PySem.W.kitOne K (.ref c.W) (.ref c.T) = some true
  iFT : PySem.W.kitOne K (.ref c.F) (.ref c.T) = some true
  iRT : PySem.W.kitOne K (.ref c.R) (.ref c.T) = some true
  list : mg "list" = none
  max : mg "max" = none
  sum : mg "sum" = none
/-! ### fields -/
theorem fW_many {n : Str} {a : Int} {b : Nat} : (fW n a b).lookup ("many" : Str) = some (.int 1) := by rfl
theorem fW_deep {n : Str} {a : Int} {b : Nat} : (fW n a b).lookup ("deep" : Str) = some (.int 0) := by rfl
theorem fW_name {n : Str} {a : Int} {b : Nat} : (fW n a b).lookup ("name" : Str) = some (.str n) := by rfl
theorem fF_many {z a : Int} : (fF z a).lookup ("many" : Str) = some (.int 1) := by rfl
theorem fF_deep {z a : Int} : (fF z a).lookup ("deep" : Str) = some (.int 0) := by rfl
theorem fF_num {z a : Int} : (fF z a).lookup ("number" : Str) = some (.int z) := by rfl
theorem fR_many {l : Addr} {m d : Nat} {a : Int} : (fR l m d a).lookup ("many" : Str) = some (.int m) := by rfl
theorem fR_deep {l : Addr} {m d : Nat} {a : Int} : (fR l m d a).lookup ("deep" : Str) = some (.int d) := by rfl
theorem fR_parts {l : Addr} {m d : Nat} {a : Int} : (fR l m d a).lookup ("parts" : Str) = some (.ref l) := by rfl
/-! ### promises of the program -/
def spTI (K : PySem.W.Frag) : Sp := fun vs H Q _ => ∃ (p C dx : Addr) (a m d : Int), vs = [.ref p, .int a, .int m, .int d] ∧ H p = some (.ins C dx []) ∧ TC K C ∧ Q .non (upd H p (.ins C dx (f3 a m d)))
def spWI (c : C4) : Sp := fun vs H Q _ => ∃ (p dx : Addr) (n : Str) (a : Int) (b : Nat), vs = [.ref p, .str n, .int a, .int b] ∧ H p = some (.ins c.W dx []) ∧ Q .non (upd H p (.ins c.W dx (fW n a b)))
def spFI (c : C4) : Sp := fun vs H Q _ => ∃ (p dx : Addr) (z a : Int), vs = [.ref p, .int z, .int a] ∧ H p = some (.ins c.F dx []) ∧ Q .non (upd H p (.ins c.F dx (fF z a)))
def spRI (c : C4) : Sp := fun vs H Q _ => ∃ (p dx l : Addr) (us : List V) (ts : List Tr) (a : Int), vs = [.ref p, .ref l, .int a] ∧ H p = some (.ins c.R dx []) ∧ H l = some (.lst us) ∧ TrsIn c All H ts us ∧ ts.length ≤ 1000 ∧
  ∀ (H' : Hp) (l2 : Addr), (∀ b o, b ≠ p → H b = some o → H' b = some o) → H' p = some (.ins c.R dx (fR l2 (1 + manys ts) (deeps ts + 1) a)) → H l2 = none → H' l2 = some (.lst us) → Q .non H'
/-- the free addresses -/
abbrev Free (H : Hp) : Addr → Prop := fun q => H q = none
section
variable {P : Program} {w : World} {K : PySem.W.Frag} {mg : Str → Option Value} {base : Heap} {c : C4}
theorem scTI : FnScope ["self", "at", "many", "deep"] ["self", "at", "many", "deep"] (defScope sTI) := ⟨rfl, rfl, rfl, by decide +kernel, rfl, by decide +kernel, by decide +kernel⟩
theorem ok_ti {f : Addr} {fd : FuncData} (F : Fun K "__init__" "Tree.__init__" sTI f fd) : FnOk P w K mg base CX0 1 f fd ["self", "at", "many", "deep"] (spTI K) := by
  refine F.ok scTI (fun vs H Q E h => ?_) (fun cdv A outer s H vs Q E hr h => ?_)
  · obtain ⟨p, C, dx, a, m, d, rfl, _⟩ := h; rfl
  · obtain ⟨p, C, dx, a, m, d, rfl, hp, tc, q⟩ := h
    refine ⟨_, pss_cons (ps_fld (pv 0) (pv 1) rfl) (pss_cons (ps_fld (pv 0) (pv 2) rfl) (pss_one (ps_fld (pv 0) (pv 3) rfl))), ?_⟩
    refine ⟨_, rfl, _, rfl, p, C, dx, [], rfl, hp, tc.cl, tc.nA, (by show 0 < 1000; decide), ?_⟩
    rw [putF_nil]
    refine ⟨_, rfl, _, rfl, p, C, dx, _, rfl, upd_same, tc.cl, tc.nM, (by show 1 < 1000; decide), ?_⟩
    rw [put_many, upd_upd]
    refine ⟨_, rfl, _, rfl, p, C, dx, _, rfl, upd_same, tc.cl, tc.nD, (by show 2 < 1000; decide), ?_⟩
    rw [put_deep, upd_upd]
    exact q
theorem scWI : FnScope ["self", "name", "at", "bits"] ["self", "name", "at", "bits"] (defScope sWI) := ⟨rfl, rfl, rfl, by decide +kernel, rfl, by decide +kernel, by decide +kernel⟩
theorem ok_wi {f fT T0 : Addr} {fd fdT : FuncData} (F : FunD K "__init__" "Word.__init__" sWI f fd T0) (T : Tcs K mg c) (FT : Fun K "__init__" "Tree.__init__" sTI fT fdT) (bT : Binds K fdT ["self", "at", "many", "deep"] []) (cT : ClsFn K c.T "__init__" fT) :
    FnOk P w K mg base CX0 2 f fd ["self", "name", "at", "bits"] (spWI c) := by
  have GT : FnOk P w K mg base CX0 1 fT fdT ["self", "at", "many", "deep"] (spTI K) := ok_ti FT
  refine F.ok scWI (fun vs H Q E h => ?_) (fun cdv A outer s H vs Q E hr h => ?_)
  · obtain ⟨p, dx, n, a, b, rfl, _⟩ := h; rfl
  · obtain ⟨p, dx, n, a, b, rfl, hp, q⟩ := h
    refine ⟨_, pss_cons (ps_expr (pe_clsfn (by rfl) T.mgT cT GT hr bT .nil pass0 (pa_cons (pv 0) (pa_cons (pv 2) (pa_cons pe_int (pa_cons pe_int pa_nil))))))
      (pss_cons (ps_fld (pv 0) (pv 1) rfl) (pss_one (ps_fld (pv 0) (pv 3) rfl))), ?_⟩
    refine ⟨_, rfl, _, rfl, p, c.W, dx, a, 1, 0, rfl, hp, T.tw, ?_⟩
    refine ⟨_, rfl, _, rfl, p, c.W, dx, _, rfl, upd_same, T.tw.cl, T.nWn, (by show 3 < 1000; decide), ?_⟩
    rw [put_x (by decide +kernel) (by decide +kernel) (by decide +kernel), upd_upd]
    refine ⟨_, rfl, _, rfl, p, c.W, dx, _, rfl, upd_same, T.tw.cl, T.nWb, (by show 4 < 1000; decide), ?_⟩
    rw [put_bits, upd_upd]
    exact q
theorem scFI : FnScope ["self", "number", "at"] ["self", "number", "at"] (defScope sFI) := ⟨rfl, rfl, rfl, by decide +kernel, rfl, by decide +kernel, by decide +kernel⟩
theorem ok_fi {f fT : Addr} {fd fdT : FuncData} (F : Fun K "__init__" "Figure.__init__" sFI f fd) (T : Tcs K mg c) (FT : Fun K "__init__" "Tree.__init__" sTI fT fdT) (bT : Binds K fdT ["self", "at", "many", "deep"] []) (cT : ClsFn K c.T "__init__" fT) :
    FnOk P w K mg base CX0 2 f fd ["self", "number", "at"] (spFI c) := by
  have GT : FnOk P w K mg base CX0 1 fT fdT ["self", "at", "many", "deep"] (spTI K) := ok_ti FT
  refine F.ok scFI (fun vs H Q E h => ?_) (fun cdv A outer s H vs Q E hr h => ?_)
  · obtain ⟨p, dx, z, a, rfl, _⟩ := h; rfl
  · obtain ⟨p, dx, z, a, rfl, hp, q⟩ := h
    refine ⟨_, pss_cons (ps_expr (pe_clsfn (by rfl) T.mgT cT GT hr bT .nil pass0 (pa_cons (pv 0) (pa_cons (pv 2) (pa_cons pe_int (pa_cons pe_int pa_nil))))))
      (pss_one (ps_fld (pv 0) (pv 1) rfl)), ?_⟩
    refine ⟨_, rfl, _, rfl, p, c.F, dx, a, 1, 0, rfl, hp, T.tf, ?_⟩
    refine ⟨_, rfl, _, rfl, p, c.F, dx, _, rfl, upd_same, T.tf.cl, T.nFn, (by show 3 < 1000; decide), ?_⟩
    rw [put_x (by decide +kernel) (by decide +kernel) (by decide +kernel), upd_upd]
    exact q
/-! ### what a tree's fields hold -/
theorem fld_many {t : Tr} {v : V} {H : Hp} (T : Tcs K mg c) (x : TrIn c All H t v) : ∃ p C dx fs, v = .ref p ∧ H p = some (.ins C dx fs) ∧ Cls K C ∧ NoAttr K C "many" ∧ fs.lookup ("many" : Str) = some (.int (many t)) := by
  cases t with
  | word n a b =>
    simp only [TrIn] at x
    obtain ⟨p, dx, e, _, h⟩ := x
    exact ⟨p, _, dx, _, e, h, T.tw.cl, T.tw.nM, fW_many⟩
  | fig z a =>
    simp only [TrIn] at x
    obtain ⟨p, dx, e, _, h⟩ := x
    exact ⟨p, _, dx, _, e, h, T.tf.cl, T.tf.nM, fF_many⟩
  | row ps a =>
    simp only [TrIn] at x
    obtain ⟨p, dx, l, vs, e, _, h, _⟩ := x
    exact ⟨p, _, dx, _, e, h, T.tr.cl, T.tr.nM, by rw [fR_many]; simp only [many]⟩
theorem fld_deep {t : Tr} {v : V} {H : Hp} (T : Tcs K mg c) (x : TrIn c All H t v) : ∃ p C dx fs, v = .ref p ∧ H p = some (.ins C dx fs) ∧ Cls K C ∧ NoAttr K C "deep" ∧ fs.lookup ("deep" : Str) = some (.int (deep t)) := by
  cases t with
  | word n a b =>
    simp only [TrIn] at x
    obtain ⟨p, dx, e, _, h⟩ := x
    exact ⟨p, _, dx, _, e, h, T.tw.cl, T.tw.nD, fW_deep⟩
  | fig z a =>
    simp only [TrIn] at x
    obtain ⟨p, dx, e, _, h⟩ := x
    exact ⟨p, _, dx, _, e, h, T.tf.cl, T.tf.nD, fF_deep⟩
  | row ps a =>
    simp only [TrIn] at x
    obtain ⟨p, dx, l, vs, e, _, h, _⟩ := x
    exact ⟨p, _, dx, _, e, h, T.tr.cl, T.tr.nD, by rw [fR_deep]; simp only [deep]⟩
theorem take_snoc {α : Type} {xs : List α} {k : Nat} {x : α} (h : xs[k]? = some x) : xs.take (k + 1) = xs.take k ++ [x] := by rw [List.take_succ, h]; rfl
/-! ### Row.__init__ -/
theorem scRI : FnScope ["self", "parts", "at", "many", "deep"] ["self", "parts", "at"] (defScope sRI) := ⟨rfl, rfl, rfl, by decide +kernel, rfl, by decide +kernel, by decide +kernel⟩
theorem lcRI : LcS (defScope sRI).names [(".0", .local), ("part", .local)] ["self", "parts", "at", "many", "deep"] [false, false, false, false, false] :=
  ⟨by decide +kernel, by decide +kernel, by decide +kernel, by decide +kernel, by decide +kernel, rfl⟩
theorem ndRI : (["self", "parts", "at", "many", "deep", "part"] : List Str).Nodup := by decide +kernel
theorem ok_ri {f fT : Addr} {fd fdT : FuncData} (F : Fun K "__init__" "Row.__init__" sRI f fd) (T : Tcs K mg c) (FT : Fun K "__init__" "Tree.__init__" sTI fT fdT) (bT : Binds K fdT ["self", "at", "many", "deep"] []) (cT : ClsFn K c.T "__init__" fT) :
    FnOk P w K mg base CX0 2 f fd ["self", "parts", "at"] (spRI c) := by
  have GT : FnOk P w K mg base CX0 1 fT fdT ["self", "at", "many", "deep"] (spTI K) := ok_ti FT
  refine F.ok scRI (fun vs H Q E h => ?_) (fun cdv A outer s H vs Q E hr h => ?_)
  · obtain ⟨p, dx, l, us, ts, a, rfl, _⟩ := h; rfl
  · obtain ⟨p, dx, l, us, ts, a, rfl, hp, hl, hts, hlen, q⟩ := h
    have nd := scRI.nd
    refine ⟨_, pss_cons (ps_set (i := 3) nd rfl (Or.inl rfl) (pe_op op_add pe_int (pe_callB (call_sumI rfl) (by rfl) T.sum bt_sum (pa_cons (pe_lc (ext := ["part"]) lcRI rfl (pi_list (pv 1))
          ⟨fun _ _ _ _ _ => pg_name (i := 5) ndRI rfl (Or.inl rfl), fun _ _ _ _ _ => pts_nil, fun _ _ _ _ _ => (pe_fld (pv 5) rfl : PE _ _ (tFld K (tVar 5) ("many" : Str)))⟩) pa_nil))))
      (pss_cons (ps_set (i := 4) nd rfl (Or.inl rfl) (pe_op op_add pe_int (pe_maxD rfl (by rfl) T.max (pa_cons (pe_lc (ext := ["part"]) lcRI rfl (pi_list (pv 1))
          ⟨fun _ _ _ _ _ => pg_name (i := 5) ndRI rfl (Or.inl rfl), fun _ _ _ _ _ => pts_nil, fun _ _ _ _ _ => (pe_fld (pv 5) rfl : PE _ _ (tFld K (tVar 5) ("deep" : Str)))⟩) pa_nil))))
      (pss_cons (ps_expr (pe_clsfn (by rfl) T.mgT cT GT hr bT .nil pass0 (pa_cons (pv 0) (pa_cons (pv 2) (pa_cons (pv 3) (pa_cons (pv 4) pa_nil))))))
      (pss_one (ps_fld (pv 0) (pe_callTy call_list_of (by rfl) T.list bt_list (pa_cons (pv 1) pa_nil)) rfl)))), ?_⟩
    have hul : us.length = ts.length := hts.length
    have hsz : us.length ≤ sizeLine := by rw [sizeLine_eq]; lia
    -- many
    refine ⟨_, rfl, l, rfl, ⟨_, SqL.of hl⟩, fun D hD => ?_⟩
    refine lc_grow (xs := us) (fun k ys H1 => ys = (ts.take k).map fun t => V.int (many t)) hD (SqL.of hl) hsz rfl (fun k x v ys H1 R hx hy hS hDD hP hR => ?_) (fun ys H1 hy hS hDD hP => ?_)
    · obtain ⟨t, ht, htr⟩ := hts.get hx
      obtain ⟨p', C, dx', fs, ev, hp', cl, na, hlk⟩ := fld_many T (htr.same hS)
      refine ⟨_, rfl, p', C, dx', fs, _, ev, hp', cl, na, hlk, hR _ _ (Same.refl _) ?_⟩
      rw [take_snoc ht, List.map_append, hP]; rfl
    have hys : ys = (ts.map fun t => (many t : Int)).map V.int := by
      rw [hP, hul, List.take_length, List.map_map]; rfl
    refine ⟨D, ts.map fun t => (many t : Int), rfl, SqL.of (by rw [hDD, hys]), _, _, rfl, rfl, ?_⟩
    rw [sum_many]
    have hl1 := hS _ _ hl
    have hp1 := hS _ _ hp
    -- deep
    refine ⟨_, rfl, l, rfl, ⟨_, SqL.of hl1⟩, fun D2 hD2 => ?_⟩
    refine lc_grow (xs := us) (fun k ys H2 => ys = (ts.take k).map fun t => V.int (deep t)) hD2 (SqL.of hl1) hsz rfl (fun k x v ys H2 R hx hy hS2 hDD2 hP2 hR => ?_) (fun ys2 H2 hy2 hS2 hDD2 hP2 => ?_)
    · obtain ⟨t, ht, htr⟩ := hts.get hx
      obtain ⟨p', C, dx', fs, ev, hp', cl, na, hlk⟩ := fld_deep T (htr.same (hS.trans hS2))
      refine ⟨_, rfl, p', C, dx', fs, _, ev, hp', cl, na, hlk, hR _ _ (Same.refl _) ?_⟩
      rw [take_snoc ht, List.map_append, hP2]; rfl
    have hys2 : ys2 = (ts.map fun t => (deep t : Int)).map V.int := by
      rw [hP2, hul, List.take_length, List.map_map]; rfl
    refine ⟨D2, ts.map fun t => (deep t : Int), rfl, SqL.of (by rw [hDD2, hys2]), _, _, rfl, rfl, ?_⟩
    rw [maxI_deeps]
    have hl2 := hS2 _ _ hl1
    have hp2 := hS2 _ _ hp1
    have hSS := hS.trans hS2
    -- Tree.__init__
    refine ⟨_, rfl, _, rfl, _, rfl, _, rfl, p, c.R, dx, a, _, _, rfl, hp2, T.tr, ?_⟩
    have npl : l ≠ p := ne_of hl hp (by intro z; cases z)
    -- parts
    refine ⟨_, rfl, l, us, rfl, .inl (SqL.of (by rw [upd_ne npl]; exact hl2)), fun l2 hl2n => ?_⟩
    have np2 : l2 ≠ p := fun z => by rw [z, upd_same] at hl2n; cases hl2n
    refine ⟨_, rfl, p, c.R, dx, _, rfl, (by rw [upd_ne np2.symm, upd_same]), T.tr.cl, T.nRp, (by show 3 < 1000; decide), ?_⟩
    rw [put_x (by decide +kernel) (by decide +kernel) (by decide +kernel)]
    have hl2H : H2 l2 = none := by rw [upd_ne np2] at hl2n; exact hl2n
    refine q _ l2 (fun b o hb e => ?_) ?_ (hSS.free hl2H) ?_
    · have nb : b ≠ l2 := fun z => by rw [z, hSS.free hl2H] at e; cases e
      rw [upd_ne hb, upd_ne nb, upd_ne hb]
      exact hSS _ _ e
    · rw [upd_same]
      unfold fR
      simp only [Int.natCast_add, Int.natCast_one]
      congr 4
      all_goals first | rfl | (simp only [V.int.injEq, Prod.mk.injEq, List.cons.injEq, true_and, and_true]; lia)
    · rw [upd_ne np2, upd_same]
theorem tyW {n : Str} {a : Int} {b : Nat} {v : V} {H : Hp} (T : Tcs K mg c) (x : TrIn c All H (.word n a b) v) : TyOf K H v (.ref c.W) := by
  simp only [TrIn] at x
  obtain ⟨p, dx, rfl, _, h⟩ := x
  exact .ins h T.tw.cl T.tw.ha T.hn T.htk T.tw.hm
theorem tyF {z a : Int} {v : V} {H : Hp} (T : Tcs K mg c) (x : TrIn c All H (.fig z a) v) : TyOf K H v (.ref c.F) := by
  simp only [TrIn] at x
  obtain ⟨p, dx, rfl, _, h⟩ := x
  exact .ins h T.tf.cl T.tf.ha T.hn T.htk T.tf.hm
theorem tyR {ps : List Tr} {a : Int} {v : V} {H : Hp} (T : Tcs K mg c) (x : TrIn c All H (.row ps a) v) : TyOf K H v (.ref c.R) := by
  simp only [TrIn] at x
  obtain ⟨p, dx, l, vs, rfl, _, h, _⟩ := x
  exact .ins h T.tr.cl T.tr.ha T.hn T.htk T.tr.hm
theorem made_same {H : Hp} {x dx : Addr} {o : HO} {o' : HO} (hx : H x = none) (hd : H dx = none) : Same H (upd (upd H dx o) x o') := fun b u e => by
  rw [upd_ne (ne_of_none e hx), upd_ne (ne_of_none e hd)]; exact e
/-- the makers of the classes -/
structure Mks (K : PySem.W.Frag) (c : C4) (fW fF fR : Addr) : Prop where
  w : Mk K c.W fW
  f : Mk K c.F fF
  r : Mk K c.R fR
theorem row_made2 {N : Addr → Prop} {H : Hp} {l x dx : Addr} {us : List V} {ts : List Tr} {a : Int} {S : Hp → Prop} (hN : ∀ b, H b = none → N b) (hl : H l = some (.lst us)) (hts : TrsIn c N H ts us) (hlen : ts.length ≤ 1000)
    (nx : H x = none) (ndx : H dx = none) (q : ∀ (H' : Hp), Same H H' → TrIn c N H' (.row ts a) (.ref x) → S H') :
    spRI c (.ref x :: ([.ref l, .int a] ++ [])) (upd (upd H dx (.own x)) x (.ins c.R dx [])) (fun v H2 => v = .non ∧ S H2) E0 := by
  have hM := made_same (o := .own x) (o' := .ins c.R dx []) nx ndx
  refine ⟨x, dx, l, us, ts, a, rfl, upd_same, hM _ _ hl, hts.mono fun b o _ e => ⟨trivial, hM _ _ e⟩, hlen, fun H' l2 hk hx hl2 hl2' => ⟨rfl, ?_⟩⟩
  have hS' : Same H H' := fun b o e => hk b o (ne_of_none e nx) (hM _ _ e)
  refine q _ hS' ?_
  simp only [TrIn]
  exact ⟨x, dx, l2, us, rfl, hN _ nx, hx, hN _ (hM.free hl2), hl2', hlen, hts.mono fun b o n e => ⟨n, hS' _ _ e⟩⟩
theorem deeps_get {ts : List Tr} {i : Nat} {t : Tr} (h : ts[i]? = some t) : deep t ≤ deeps ts := deep_le_of_mem (List.mem_of_getElem? h)
end
end K75

set_option Elab.async false
set_option linter.all false
set_option maxRecDepth 100000
set_option maxHeartbeats 4000000
/-! A token counted at a def's entry stays counted: statements behind others. Own work. -/
namespace L2
open PySem PySem.Spec PyProof.Rows
section
variable {X : Cx} {st : Stmt} {rest : List Stmt} {t u : TS} {e : Expr} {te : TE} {pos : Pos}
/-- a statement that doesn't ask for tokens, ahead of those that do -/
theorem psst_skip (h1 : PS X st t) (h2 : PSsT X rest u) : PSsT X (st :: rest) (tSeq t u) := by
  intro pins s σ H D hk I h
  refine wpAny_execs_cons (thn (wpAny_mono (wpAny_toks_of hk (h1 pins s σ H { D with nx := u D } I h)) (fun _ _ z => z) fun _ _ z => z.2) ?_)
  rintro f s1 ⟨hk1, q⟩
  cases f with
  | next =>
    obtain ⟨σ', H', I', q⟩ := q
    exact h2 pins s1 σ' H' D hk1 I' q
  | ret v => exact q
  | brk => exact q
  | cont => exact q
theorem psst_one (h1 : PST X st t) : PSsT X [st] t := by
  intro pins s σ H D hk I h
  refine wpAny_execs_cons (thn (h1 pins s σ H D hk I h) fun f s1 q => ?_)
  cases f with
  | next => exact wpAny_execs_nil q
  | ret v => exact q
  | brk => exact q
  | cont => exact q
theorem pst_ret (he : PET X e te) : PST X (.Return (some e) pos) (tRet te) := by
  intro pins s σ H D hk I h
  refine wpAny_Return_some (thn (he pins s σ H _ hk I h) ?_)
  rintro v s1 ⟨x, H1, I1, r1, q1⟩
  exact ⟨x, σ, H1, I1, r1, q1⟩
end
end L2

set_option Elab.async false
set_option linter.all false
set_option maxRecDepth 100000
set_option maxHeartbeats 4000000
/-! replace of any text, as lists of numbers: from the left, each occurrence. Own work. -/
namespace TX
/-- from the left: y exchanged for z; the first number tells how many signs are still of the last y -/
def repG (y z : List Nat) : Nat → List Nat → List Nat
  | _, [] => []
  | s + 1, _ :: r => repG y z s r
  | 0, k :: r => if y.isPrefixOf (k :: r) = true then z ++ repG y z (y.length - 1) r else k :: repG y z 0 r
theorem repG_skip {y z : List Nat} : ∀ (n : Nat) (l : List Nat), repG y z n l = repG y z 0 (l.drop n)
  | 0, l => rfl
  | n + 1, [] => by simp [repG]
  | n + 1, k :: r => by
    show repG y z n r = _
    rw [repG_skip n r]; rfl
theorem repG_at {y z l : List Nat} (hy : y ≠ []) (h : y.isPrefixOf l = true) : repG y z 0 l = z ++ repG y z 0 (l.drop y.length) := by
  cases l with
  | nil =>
    cases y with
    | nil => exact absurd rfl hy
    | cons a b => cases h
  | cons k r =>
    show (if y.isPrefixOf (k :: r) = true then _ else _) = _
    rw [if_pos h, repG_skip]
    cases y with
    | nil => exact absurd rfl hy
    | cons a b => simp
theorem repG_not {y z r : List Nat} {k : Nat} (h : y.isPrefixOf (k :: r) = false) : repG y z 0 (k :: r) = k :: repG y z 0 r := by
  show (if y.isPrefixOf (k :: r) = true then _ else _) = _
  rw [if_neg (by rw [h]; exact Bool.false_ne_true)]
/-- no occurrence from a up to b -/
theorem repG_free {y z l : List Nat} : ∀ (n a : Nat), a + n ≤ l.length → (∀ k, a ≤ k → k < a + n → y.isPrefixOf (l.drop k) = false) → repG y z 0 (l.drop a) = (l.drop a).take n ++ repG y z 0 (l.drop (a + n))
  | 0, a, _, _ => by simp
  | n + 1, a, h, hn => by
    have e : l.drop a = l[a] :: l.drop (a + 1) := List.drop_eq_getElem_cons (by lia)
    have h0 := hn a (Nat.le_refl _) (by lia)
    have ih := repG_free (y := y) (z := z) n (a + 1) (by lia) fun k h1 h2 => hn k (by lia) (by lia)
    rw [e] at h0 ⊢
    rw [repG_not h0, ih, List.take_succ_cons, show a + 1 + n = a + (n + 1) by lia]
    rfl
end TX
namespace L2
open PySem Builtin Builtin.Str StrLaws
theorem at_pre {x y : Str} {i : Nat} (hy : 1 ≤ y.length) : At x y x.length i ↔ (cpl y).isPrefixOf ((cpl x).drop i) = true := by
  unfold At
  rw [StrLaws.subAt_eq, List.isPrefixOf_iff_prefix, List.prefix_iff_eq_take, cpl_len]
  show (i + y.length ≤ x.length ∧ (((cpl x).drop i).take y.length == cpl y) = true) ↔ _
  rw [beq_iff_eq]
  constructor
  · rintro ⟨_, h⟩; exact h.symm
  · intro h
    refine ⟨?_, h.symm⟩
    have h1 := congrArg List.length h
    rw [List.length_take, List.length_drop, cpl_len, cpl_len] at h1
    lia
theorem at_not {x y : Str} {i : Nat} (hy : 1 ≤ y.length) (h : ¬ At x y x.length i) : (cpl y).isPrefixOf ((cpl x).drop i) = false := by
  cases e : (cpl y).isPrefixOf ((cpl x).drop i) with
  | false => rfl
  | true => exact absurd ((at_pre hy).mpr e) h
theorem sub_cpl (x : Str) (i j : Nat) : cpl (strSub x i j) = ((cpl x).drop i).take (j - i) := StrLaws.strSub_toList x i j
theorem parts_rep {x y z : Str} (hy : 1 ≤ y.length) : ∀ (cuts : List Nat) (a f : Nat), a ≤ x.length → ChainG x y x.length a cuts f → (∀ k, f ≤ k → ¬ At x y x.length k) → cpl (Str.join z (partsFrom x y.length a cuts)) = TX.repG (cpl y) (cpl z) 0 ((cpl x).drop a)
  | [], a, f, ha, h, hn => by
    have e : f = a := h
    subst e
    show cpl (strSub x f x.length) = _
    have hl := cpl_len x
    rw [sub_cpl, TX.repG_free (x.length - f) f (by lia) (fun k h1 _ => at_not hy (hn k h1)), show f + (x.length - f) = (cpl x).length by lia, List.drop_length]
    simp [TX.repG]
  | d :: r, a, f, ha, h, hn => by
    obtain ⟨h1, h2, h3, h4⟩ := h
    have hl := cpl_len x
    have hd : d + y.length ≤ x.length := h2.1
    have ih := parts_rep (z := z) hy r (d + y.length) f hd h4 hn
    obtain ⟨p, q, e⟩ := StrLaws.partsFrom_ne x y.length (d + y.length) r
    show cpl (Str.join z (strSub x a d :: partsFrom x y.length (d + y.length) r)) = _
    rw [e] at ih ⊢
    show cpl (strSub x a d ++ z ++ Str.join z (p :: q)) = _
    rw [cpl_cat, cpl_cat, ih, sub_cpl, TX.repG_free (d - a) a (by lia) (fun k k1 k2 => at_not hy (h3 k k1 (by lia))), show a + (d - a) = d by lia,
      TX.repG_at (by intro z; have := cpl_len y; rw [z] at this; rw [List.length_nil] at this; lia) ((at_pre hy).mp h2), List.drop_drop, cpl_len, List.append_assoc]
theorem replace_rep {x y z : Str} (hy : 1 ≤ y.length) : cpl (Txt.replace x y z) = TX.repG (cpl y) (cpl z) 0 (cpl x) := by
  obtain ⟨f, hG, hn⟩ := StrLaws.occ_tight x y hy
  have h := parts_rep (z := z) hy _ 0 f (Nat.zero_le _) hG hn
  rw [List.drop_zero] at h
  rw [← h]
  unfold Txt.replace
  split
  · rename_i hc
    have hy0 : (y.length == 0) = false := beq_false_of_ne (by lia)
    rw [hy0, Bool.false_and, Bool.or_false] at hc
    rw [List.isEmpty_iff.mp hc]
    show cpl x = cpl (strSub x 0 x.length)
    rw [sub_cpl]
    have hl := cpl_len x
    rw [List.drop_zero, List.take_of_length_le (by lia)]
  · rw [StrLaws.glued_eq_join, StrLaws.partsBetween_eq]
end L2

set_option Elab.async false
set_option linter.all false
set_option maxRecDepth 100000
set_option maxHeartbeats 4000000
/-! Signs put into one text: joined with blanks, then the blanks at brackets taken out. Own work. -/
namespace TX
/-- joined with blanks (prev: a sign stands ahead) -/
def js (ahead : Bool) : List (List Nat) → List Nat
  | [] => []
  | l :: r => (if ahead = true then [32] else []) ++ (l ++ js true r)
/-- no blank behind an opening bracket -/
def m1 (blank : Bool) : List (List Nat) → List Nat
  | [] => []
  | l :: r => (if blank = true then [32] else []) ++ (l ++ m1 (decide (l ≠ [40])) r)
/-- and none ahead of a closing one -/
def lt (blank : Bool) : List (List Nat) → List Nat
  | [] => []
  | l :: r => (if (blank && decide (l ≠ [41])) = true then [32] else []) ++ (l ++ lt (decide (l ≠ [40])) r)
theorem repG_copy {c : Nat} {y z : List Nat} : ∀ {l rest : List Nat}, c ∉ l → repG (c :: y) z 0 (l ++ rest) = l ++ repG (c :: y) z 0 rest
  | [], rest, _ => rfl
  | k :: r, rest, h => by
    have hk : k ≠ c := fun e => h (e ▸ List.mem_cons_self)
    have e : (c :: y).isPrefixOf (k :: (r ++ rest)) = false := by
      show (c == k && _) = false
      rw [beq_false_of_ne (fun e => hk e.symm)]; rfl
    show repG (c :: y) z 0 (k :: (r ++ rest)) = _
    rw [repG_not e, repG_copy fun q => h (List.mem_cons_of_mem _ q)]
    rfl
theorem sign_free40 {l : List Nat} (h : SignC l) (hn : l ≠ [40]) : (40 : Nat) ∉ l := by
  rcases h with e | e | ⟨h, _⟩
  · exact absurd e hn
  · rw [e]; decide
  · exact fun q => (h _ q).2.2.1 rfl
theorem sign_free32 {l : List Nat} (h : SignC l) : (32 : Nat) ∉ l := by
  rcases h with e | e | ⟨h, _⟩
  · rw [e]; decide
  · rw [e]; decide
  · exact fun q => (h _ q).1 rfl
theorem first_rep : ∀ (ls : List (List Nat)) (b : Bool), (∀ l ∈ ls, SignC l) → repG [40, 32] [40] 0 (js b ls) = m1 b ls
  | [], b, _ => rfl
  | l :: r, b, h => by
    have hl := h l List.mem_cons_self
    have ih := fun b => first_rep r b fun x hx => h x (List.mem_cons_of_mem _ hx)
    have hb : (40 : Nat) ∉ (if b = true then [32] else [] : List Nat) := by cases b <;> decide
    show repG [40, 32] [40] 0 ((if b = true then [32] else []) ++ (l ++ js true r)) = (if b = true then [32] else []) ++ (l ++ m1 (decide (l ≠ [40])) r)
    rw [repG_copy hb]
    congr 1
    by_cases e : l = [40]
    · subst e
      rw [show decide (([40] : List Nat) ≠ [40]) = false from by decide]
      cases r with
      | nil => decide
      | cons m r' =>
        have e1 : js true (m :: r') = 32 :: js false (m :: r') := rfl
        rw [e1]
        show repG [40, 32] [40] 0 (40 :: 32 :: js false (m :: r')) = 40 :: m1 false (m :: r')
        rw [repG_at (by decide) (by simp [List.isPrefixOf])]
        show [40] ++ repG [40, 32] [40] 0 (js false (m :: r')) = _
        rw [ih false]; rfl
    · rw [decide_eq_true e, repG_copy (sign_free40 hl e), ih true]
theorem second_rep : ∀ (ls : List (List Nat)) (b : Bool), (∀ l ∈ ls, SignC l) → repG [32, 41] [41] 0 (m1 b ls) = lt b ls
  | [], b, _ => rfl
  | l :: r, b, h => by
    have hl := h l List.mem_cons_self
    have ih := fun b => second_rep r b fun x hx => h x (List.mem_cons_of_mem _ hx)
    show repG [32, 41] [41] 0 ((if b = true then [32] else []) ++ (l ++ m1 (decide (l ≠ [40])) r)) = (if (b && decide (l ≠ [41])) = true then [32] else []) ++ (l ++ lt (decide (l ≠ [40])) r)
    have hcopy : repG [32, 41] [41] 0 (l ++ m1 (decide (l ≠ [40])) r) = l ++ lt (decide (l ≠ [40])) r := by rw [repG_copy (sign_free32 hl), ih]
    cases b with
    | false => exact hcopy
    | true =>
      by_cases e : l = [41]
      · subst e
        rw [show (true && decide (([41] : List Nat) ≠ [41])) = false from by decide]
        show repG [32, 41] [41] 0 (32 :: 41 :: m1 (decide (([41] : List Nat) ≠ [40])) r) = 41 :: lt (decide (([41] : List Nat) ≠ [40])) r
        rw [repG_at (by decide) (by simp [List.isPrefixOf])]
        show [41] ++ repG [32, 41] [41] 0 (m1 (decide (([41] : List Nat) ≠ [40])) r) = _
        rw [ih]; rfl
      · rw [decide_eq_true e]
        obtain ⟨k, l', el⟩ : ∃ k l', l = k :: l' := by
          cases l with
          | nil => rcases hl with z | z | ⟨_, z⟩
                   · cases z
                   · cases z
                   · exact absurd rfl z
          | cons k l' => exact ⟨k, l', rfl⟩
        have hk : k ≠ 41 := by
          intro z
          rcases hl with w | w | ⟨w, _⟩
          · rw [el, z] at w; cases w
          · exact e w
          · exact (w 41 (by rw [el, z]; exact List.mem_cons_self)).2.2.2 rfl
        show repG [32, 41] [41] 0 (32 :: (l ++ m1 (decide (l ≠ [40])) r)) = 32 :: (l ++ lt (decide (l ≠ [40])) r)
        rw [repG_not ?_, hcopy]
        rw [el]
        show (32 == 32 && (41 == k && _)) = false
        rw [beq_false_of_ne (fun z => hk z.symm)]; rfl
end TX
namespace L2
open PySem
theorem join_js : ∀ (ls : List (List Nat)), cpl (Str.join " " (ls.map ofL)) = TX.js false ls
  | [] => rfl
  | [l] => by
    show cpl (ofL l) = [] ++ (l ++ [])
    rw [cpl_ofL]; simp
  | l :: m :: r => by
    have ih := join_js (m :: r)
    show cpl (ofL l ++ " " ++ Str.join " " ((m :: r).map ofL)) = [] ++ (l ++ ([32] ++ _))
    rw [cpl_cat, cpl_cat, cpl_ofL, ih, List.append_assoc]
    rfl
theorem shown_text (ls : List (List Nat)) (h : ∀ l ∈ ls, TX.SignC l) : cpl (Txt.replace (Txt.replace (Str.join " " (ls.map ofL)) "( " "(") " )" ")") = TX.lt false ls := by
  rw [replace_rep (by decide), replace_rep (by decide), join_js]
  show TX.repG [32, 41] [41] 0 (TX.repG [40, 32] [40] 0 (TX.js false ls)) = _
  rw [TX.first_rep ls false h, TX.second_rep ls false h]
end L2

set_option Elab.async false
set_option linter.all false
set_option maxRecDepth 100000
set_option maxHeartbeats 4000000
set_option exponentiation.threshold 3000
/-! Trees as signs and as texts. Own work. -/
namespace SH
open PySem L2 TR
mutual
def signsT : Tr → List (List Nat)
  | .word n _ _ => [cpl n]
  | .fig z _ => [cpl (Str.ofString (toString z))]
  | .row ps _ => [40] :: (signsTs ps ++ [[41]])
def signsTs : List Tr → List (List Nat)
  | [] => []
  | t :: r => signsT t ++ signsTs r
end
/-- a text of letters -/
def Pl (n : Str) : Prop := TX.Plain (cpl n) ∧ cpl n ≠ []
mutual
def okT : Tr → Prop
  | .word n _ _ => Pl n ∧ n.length ≤ 100
  | .fig z _ => -(10 ^ 60) < z ∧ z < 10 ^ 60
  | .row ps _ => okTs ps
def okTs : List Tr → Prop
  | [] => True
  | t :: r => okT t ∧ okTs r
end
def sgV (ls : List (List Nat)) : List V := ls.map fun l => .str (ofL l)
theorem signsTs_append : ∀ (a b : List Tr), signsTs (a ++ b) = signsTs a ++ signsTs b
  | [], b => by simp only [List.nil_append, signsTs]
  | t :: r, b => by simp only [List.cons_append, signsTs, signsTs_append r b, List.append_assoc]
theorem signsTs_one (t : Tr) : signsTs [t] = signsT t := by simp only [signsTs, List.append_nil]
theorem okTs_mem : ∀ {ts : List Tr}, okTs ts ↔ ∀ t ∈ ts, okT t
  | [] => by simp [okTs]
  | t :: r => by simp [okTs, okTs_mem (ts := r)]
theorem okTs_get {ts : List Tr} {i : Nat} {t : Tr} (h : okTs ts) (e : ts[i]? = some t) : okT t := okTs_mem.mp h t (List.mem_of_getElem? e)
theorem signs_take {ts : List Tr} {i : Nat} {t : Tr} (e : ts[i]? = some t) : signsTs (ts.take (i + 1)) = signsTs (ts.take i) ++ signsT t := by
  rw [List.take_succ, e, signsTs_append]
  show _ ++ signsTs [t] = _
  rw [signsTs_one]
theorem signs_le {ts : List Tr} {i : Nat} {t : Tr} (e : ts[i]? = some t) : (signsTs (ts.take i)).length + (signsT t).length ≤ (signsTs ts).length := by
  have h1 := signs_take e
  have h2 : signsTs ts = signsTs (ts.take (i + 1)) ++ signsTs (ts.drop (i + 1)) := by rw [← signsTs_append, List.take_append_drop]
  rw [h2, h1, List.length_append, List.length_append]
  lia
/-! ### numbers -/
def digs (m : Nat) : List Nat := (Nat.toDigits 10 m).map Char.toNat
theorem cpl_num (m : Nat) : cpl (Str.ofString (toString ((m : Nat) : Int))) = digs m := PySem.W.KIN.signs_num m
theorem digs_fig {m c : Nat} (h : c ∈ digs m) : 48 ≤ c ∧ c ≤ 57 := by
  obtain ⟨ch, hch, e⟩ := List.mem_map.mp h
  have r := Nat.isDigit_of_mem_toDigits (by decide) (by decide) hch
  rw [← e]
  simp [Char.isDigit] at r
  have h1 : (48 : Nat) ≤ ch.val.toNat := r.1
  have h2 : ch.val.toNat ≤ 57 := r.2
  exact ⟨h1, h2⟩
theorem digs_len {m k : Nat} (hk : 1 ≤ k) (h : m < 10 ^ k) : 1 ≤ (digs m).length ∧ (digs m).length ≤ k := by
  unfold digs
  rw [List.length_map]
  exact ⟨PyProof.Rows.tDigits_len_ge 10 m, PyProof.Rows.digits10_le hk h⟩
theorem digs_plain (m : Nat) : TX.Plain (digs m) := fun k hk => by
  have := digs_fig hk
  refine ⟨?_, ?_, ?_, ?_⟩ <;> lia
theorem neg_text (m : Nat) (h : 0 < m) : cpl (Str.ofString (toString (-(m : Int)))) = 45 :: digs m := by
  have e := PyProof.Rows.toString_neg (n := -(m : Int)) (by lia)
  rw [e, show (0 - -(m : Int)) = (m : Int) by lia, ← cpl_num]
  show (Str.ofString ("-" ++ toString (m : Int))).cps.toList = 45 :: (Str.ofString (toString (m : Int))).cps.toList
  rw [PyProof.Rows.signs_ofString, PyProof.Rows.signs_ofString, String.toList_append, List.map_append]
  rfl
theorem num_text {z : Int} (h1 : -(10 ^ 60) < z) (h2 : z < 10 ^ 60) : Pl (Str.ofString (toString z)) ∧ (Str.ofString (toString z)).length ≤ 61 := by
  unfold Pl
  by_cases h0 : 0 ≤ z
  · obtain ⟨m, rfl⟩ := Int.eq_ofNat_of_zero_le h0
    have hm : m < 10 ^ 60 := by exact_mod_cast h2
    have hl := digs_len (by decide) hm
    rw [← cpl_len, cpl_num m]
    exact ⟨⟨digs_plain m, fun z => by rw [z] at hl; exact absurd hl.1 (by decide)⟩, by lia⟩
  · obtain ⟨m, hm⟩ : ∃ m : Nat, z = -(m : Int) := ⟨(-z).toNat, by lia⟩
    subst hm
    have hm : m < 10 ^ 60 := by
      have : (m : Int) < 10 ^ 60 := by lia
      exact_mod_cast this
    have hl := digs_len (by decide) hm
    rw [← cpl_len, neg_text m (by lia)]
    refine ⟨⟨fun k hk => ?_, fun z => nomatch z⟩, by rw [List.length_cons]; lia⟩
    rcases List.mem_cons.mp hk with e | hk
    · rw [e]; decide
    · exact digs_plain m k hk
theorem log_abs {i : Int} (h0 : -(10 ^ 60) < i) (h : i < 10 ^ 60) : i.natAbs.log2 < 1920 := by
  by_cases e : i.natAbs = 0
  · rw [e]; decide
  · rw [Nat.log2_lt e]
    have h1 : (i.natAbs : Int) < ((10 ^ 60 : Nat) : Int) := by
      have : ((10 ^ 60 : Nat) : Int) = (10 : Int) ^ 60 := by norm_cast
      rw [this]
      lia
    have h2 : i.natAbs < 10 ^ 60 := by exact_mod_cast h1
    exact Nat.lt_trans h2 (by decide)
mutual
theorem signs_ok : ∀ {t : Tr}, okT t → ∀ l ∈ signsT t, TX.SignC l ∧ l.length ≤ 100
  | .word n a b, h, l, hl => by
    rw [okT] at h
    rw [signsT] at hl
    rw [List.mem_singleton.mp hl]
    exact ⟨.inr (.inr h.1), by rw [cpl_len]; exact h.2⟩
  | .fig z a, h, l, hl => by
    rw [okT] at h
    rw [signsT] at hl
    rw [List.mem_singleton.mp hl]
    have := num_text h.1 h.2
    exact ⟨.inr (.inr this.1), by rw [cpl_len]; lia⟩
  | .row ps a, h, l, hl => by
    rw [okT] at h
    rw [signsT] at hl
    rcases List.mem_cons.mp hl with e | hl
    · rw [e]; exact ⟨.inl rfl, by decide⟩
    · rcases List.mem_append.mp hl with hl | hl
      · exact signs_oks h l hl
      · rw [List.mem_singleton.mp hl]; exact ⟨.inr (.inl rfl), by decide⟩
theorem signs_oks : ∀ {ts : List Tr}, okTs ts → ∀ l ∈ signsTs ts, TX.SignC l ∧ l.length ≤ 100
  | [], h, l, hl => by rw [signsTs] at hl; cases hl
  | t :: r, h, l, hl => by
    rw [okTs] at h
    rw [signsTs] at hl
    rcases List.mem_append.mp hl with hl | hl
    · exact signs_ok h.1 l hl
    · exact signs_oks h.2 l hl
end
theorem sgV_append (a b : List (List Nat)) : sgV (a ++ b) = sgV a ++ sgV b := by unfold sgV; rw [List.map_append]
theorem sgV_len (a : List (List Nat)) : (sgV a).length = a.length := by unfold sgV; rw [List.length_map]
/-! ### texts -/
mutual
def tt : Tr → List Nat
  | .word n _ _ => cpl n
  | .fig z _ => cpl (Str.ofString (toString z))
  | .row ps _ => 40 :: (TX.js false (tts ps) ++ [41])
def tts : List Tr → List (List Nat)
  | [] => []
  | t :: r => tt t :: tts r
end
theorem lt_sign {b : Bool} {l : List Nat} {rest : List (List Nat)} (h : TX.Plain l ∧ l ≠ []) : TX.lt b (l :: rest) = (if b = true then [32] else []) ++ (l ++ TX.lt true rest) := by
  have n1 : l ≠ [40] := fun e => (h.1 40 (by rw [e]; exact List.mem_singleton.mpr rfl)).2.2.1 rfl
  have n2 : l ≠ [41] := fun e => (h.1 41 (by rw [e]; exact List.mem_singleton.mpr rfl)).2.2.2 rfl
  show (if (b && decide (l ≠ [41])) = true then [32] else []) ++ (l ++ TX.lt (decide (l ≠ [40])) rest) = _
  rw [decide_eq_true n1, decide_eq_true n2, Bool.and_true]
mutual
theorem lt_tree : ∀ {t : Tr}, okT t → ∀ (b : Bool) (rest : List (List Nat)), TX.lt b (signsT t ++ rest) = (if b = true then [32] else []) ++ (tt t ++ TX.lt true rest)
  | .word n a c, h, b, rest => by
    rw [okT] at h
    rw [signsT, tt]
    exact lt_sign h.1
  | .fig z a, h, b, rest => by
    rw [okT] at h
    rw [signsT, tt]
    exact lt_sign (num_text h.1 h.2).1
  | .row ps a, h, b, rest => by
    rw [okT] at h
    rw [signsT, tt]
    show (if (b && decide (([40] : List Nat) ≠ [41])) = true then [32] else []) ++ ([40] ++ TX.lt (decide (([40] : List Nat) ≠ [40])) ((signsTs ps ++ [[41]]) ++ rest)) = _
    rw [show decide (([40] : List Nat) ≠ [41]) = true from by decide, show decide (([40] : List Nat) ≠ [40]) = false from by decide, Bool.and_true, List.append_assoc, show ([[41]] ++ rest : List (List Nat)) = [41] :: rest from rfl, lt_trees h false rest]
    simp
theorem lt_trees : ∀ {ts : List Tr}, okTs ts → ∀ (b : Bool) (rest : List (List Nat)), TX.lt b (signsTs ts ++ ([41] :: rest)) = TX.js b (tts ts) ++ (41 :: TX.lt true rest)
  | [], h, b, rest => by
    rw [signsTs, tts]
    show (if (b && decide (([41] : List Nat) ≠ [41])) = true then [32] else []) ++ ([41] ++ TX.lt (decide (([41] : List Nat) ≠ [40])) rest) = [] ++ (41 :: TX.lt true rest)
    rw [show decide (([41] : List Nat) ≠ [41]) = false from by decide, show decide (([41] : List Nat) ≠ [40]) = true from by decide, Bool.and_false]
    rfl
  | t :: r, h, b, rest => by
    rw [okTs] at h
    rw [signsTs, tts, List.append_assoc, lt_tree h.1, lt_trees h.2]
    show _ = ((if b = true then [32] else []) ++ (tt t ++ TX.js true (tts r))) ++ _
    simp
end
/-- a tree's text -/
theorem text_is {t : Tr} (h : okT t) : TX.lt false (signsT t) = tt t := by
  have := lt_tree h false []
  rw [List.append_nil] at this
  rw [this]
  show [] ++ (tt t ++ []) = _
  simp
end SH

set_option Elab.async false
set_option linter.all false
set_option maxRecDepth 100000
set_option maxHeartbeats 4000000
set_option exponentiation.threshold 3000
/-! Trees shown as texts: put_signs, shown_all, shown. Own work (made of a template). -/
namespace K75
open PySem L2 TR SH
abbrev sShown : Stmt := top 15
abbrev sShownAll : Stmt := top 16
abbrev sPutSigns : Stmt := top 17
/-! ### put_signs -/
structure Nms (mg : Str → Option Value) : Prop where
  isi : mg "isinstance" = none
  str : mg "str" = none
def spPutS (c : C4) (d : Nat) : Sp := fun vs H Q _ => ∃ (v : V) (t : Tr) (D : Addr) (ls : List (List Nat)), vs = [v, .ref D] ∧ H D = some (.lst (sgV ls)) ∧ TrIn c (fun b => b ≠ D) H t v ∧ deep t ≤ d ∧ okT t ∧ ls.length + (signsT t).length ≤ 60010 ∧
  ∀ (H' : Hp), (∀ b o, b ≠ D → H b = some o → H' b = some o) → H' D = some (.lst (sgV (ls ++ signsT t))) → Q .non H'
def spNo : Sp := fun _ _ _ _ => False
section
variable {P : Program} {w : World} {K : PySem.W.Frag} {mg : Str → Option Value} {base : Heap} {c : C4}
theorem fn_no {k : Nat} {f : Addr} {fd : FuncData} {ps : List Str} : FnOk P w K mg base CX0 k f fd ps spNo := ⟨fun _ _ _ _ h => h.elim, fun _ _ _ _ _ _ _ _ _ _ _ _ _ h => h.elim⟩
theorem scPutS : FnScope ["tree", "signs", "part"] ["tree", "signs"] (defScope sPutSigns) := ⟨rfl, rfl, rfl, by decide +kernel, rfl, by decide +kernel, by decide +kernel⟩
theorem puts_step {d : Nat} {f : Addr} {fd : FuncData} {sp : Sp} (F : Fun K "put_signs" "put_signs" sPutSigns f fd) (T : Tcs K mg c) (X : Nms mg)
    (GM : FnOk P w K mg base CX0 d f fd ["tree", "signs"] sp) (bM : Binds K fd ["tree", "signs"] []) (mM : mg "put_signs" = some (.ref f))
    (hsp : ∀ e, d = e + 1 → sp = spPutS c e) : FnOk P w K mg base CX0 (d + 1) f fd ["tree", "signs"] (spPutS c d) := by
  refine F.ok scPutS (fun vs H Q E h => ?_) (fun cdv A outer s H vs Q E hr h => ?_)
  · obtain ⟨v, t, D, ls, rfl, _⟩ := h; rfl
  · obtain ⟨v, t, D, ls, rfl, hD, ht, hd, hok, hlen, q⟩ := h
    have nd := scPutS.nd
    have app := fun (e : Expr) => e
    refine ⟨_, pss_one (ps_if (pt_val (pe_callB call_isI (by rfl) X.isi bt_isinstance (pa_cons (pv 0) (pa_cons (pe_glob (v := .ref c.R) (by rfl) T.mgR rfl) pa_nil))))
        (pss_cons (ps_expr (pe_bm PySem.F.plainAttrs_list PySem.F.slot_list_append PySem.F.type_list_append mt_append (pv 1) (pa_cons pe_str pa_nil)))
        (pss_cons (ps_for PassesOwn.never rfl (pi_list (pe_fld (pv 0) rfl : PE _ _ (tFld K (tVar 0) ("parts" : Str)))) (pg_name (i := 2) nd rfl (Or.inl rfl))
          (pss_one (ps_expr (pe_call GM hr (by rfl) mM F.kp bM .nil pass0 (pa_cons (pv 2) (pa_cons (pv 1) pa_nil))))))
        (pss_one (ps_expr (pe_bm PySem.F.plainAttrs_list PySem.F.slot_list_append PySem.F.type_list_append mt_append (pv 1) (pa_cons pe_str pa_nil))))))
        (pss_one (ps_if (pt_val (pe_callB call_isI (by rfl) X.isi bt_isinstance (pa_cons (pv 0) (pa_cons (pe_glob (v := .ref c.W) (by rfl) T.mgW rfl) pa_nil))))
          (pss_one (ps_expr (pe_bm PySem.F.plainAttrs_list PySem.F.slot_list_append PySem.F.type_list_append mt_append (pv 1) (pa_cons (pe_fld (pv 0) rfl : PE _ _ (tFld K (tVar 0) ("name" : Str))) pa_nil))))
          (pss_one (ps_expr (pe_bm PySem.F.plainAttrs_list PySem.F.slot_list_append PySem.F.type_list_append mt_append (pv 1) (pa_cons (pe_callTy call_str_int (by rfl) X.str bt_str (pa_cons (pe_fld (pv 0) rfl : PE _ _ (tFld K (tVar 0) ("number" : Str))) pa_nil)) pa_nil))))))), ?_⟩
    have htA : TrIn c All H t v := ht.mono fun b o _ e => ⟨trivial, e⟩
    have hll := sgV_len ls
    cases t with
    | word n a b =>
      have tw := tyW T htA
      simp only [TrIn] at ht
      obtain ⟨p, dx, rfl, hn, h⟩ := ht
      simp only [signsT] at q hlen
      rw [List.length_singleton] at hlen
      refine ⟨_, rfl, _, .ref c.R, _, _, false, rfl, rfl, tw, T.iWR, _, rfl, iteF ?_⟩
      refine ⟨_, rfl, _, .ref c.W, _, _, true, rfl, rfl, tw, T.iWW, _, rfl, iteT ?_⟩
      refine ⟨_, rfl, .inl ⟨rfl, _, SqL.of hD⟩, _, rfl, p, c.W, dx, _, _, rfl, h, T.tw.cl, T.nWn, fW_name, D, _, _, rfl, rfl, hD, by rw [hll, sizeLine_eq]; lia, ?_⟩
      refine q _ (fun b o nb e => by rw [upd_ne nb]; exact e) ?_
      rw [upd_same, sgV_append]
      show some (HO.lst (sgV ls ++ [V.str n])) = some (HO.lst (sgV ls ++ [V.str (ofL (cpl n))]))
      rw [ofL_cpl]
    | fig z a =>
      have tw := tyF T htA
      simp only [TrIn] at ht
      obtain ⟨p, dx, rfl, hn, h⟩ := ht
      simp only [signsT] at q hlen
      simp only [okT] at hok
      rw [List.length_singleton] at hlen
      refine ⟨_, rfl, _, .ref c.R, _, _, false, rfl, rfl, tw, T.iFR, _, rfl, iteF ?_⟩
      refine ⟨_, rfl, _, .ref c.W, _, _, false, rfl, rfl, tw, T.iFW, _, rfl, iteF ?_⟩
      refine ⟨_, rfl, .inl ⟨rfl, _, SqL.of hD⟩, _, rfl, p, c.F, dx, _, _, rfl, h, T.tf.cl, T.nFn, fF_num, z, rfl, log_abs hok.1 hok.2, D, _, _, rfl, rfl, hD, by rw [hll, sizeLine_eq]; lia, ?_⟩
      refine q _ (fun b o nb e => by rw [upd_ne nb]; exact e) ?_
      rw [upd_same, sgV_append]
      show some (HO.lst (sgV ls ++ [V.str (Str.ofString (toString z))])) = some (HO.lst (sgV ls ++ [V.str (ofL (cpl (Str.ofString (toString z))))]))
      rw [ofL_cpl]
    | row ps a =>
      have tw := tyR T htA
      simp only [TrIn] at ht
      obtain ⟨p, dx, l, us, rfl, hn, h, hnl, hl, hpl, hts⟩ := ht
      simp only [okT] at hok
      simp only [deep] at hd
      simp only [signsT] at q hlen
      rw [List.length_cons, List.length_append, List.length_singleton] at hlen
      have hul : us.length = ps.length := hts.length
      refine ⟨_, rfl, _, .ref c.R, _, _, true, rfl, rfl, tw, T.iRR, _, rfl, iteT ?_⟩
      refine ⟨_, rfl, .inl ⟨rfl, _, SqL.of hD⟩, D, _, _, rfl, rfl, hD, by rw [hll, sizeLine_eq]; lia, ?_⟩
      refine ⟨_, rfl, p, c.R, dx, _, _, rfl, (by rw [upd_ne hn]; exact h), T.tr.cl, T.nRp, fR_parts, l, rfl, ⟨_, SqL.of (by rw [upd_ne hnl]; exact hl)⟩, ?_⟩
      refine for_list (K := K) (a := l) (xs := us) (fun i σ H' => (∃ v2, σ = [some (.ref p), some (.ref D), v2]) ∧ (∀ b o, b ≠ D → H b = some o → H' b = some o) ∧ H' D = some (.lst (sgV (ls ++ ([40] :: signsTs (ps.take i))))))
        ⟨⟨_, rfl⟩, fun b o nb e => by rw [upd_ne nb]; exact e, ?_⟩ (fun i σ H' _ ⟨_, hk, _⟩ => SqL.of (hk _ _ hnl hl)) ?_ ?_
      · rw [upd_same, sgV_append]
        simp only [List.take_zero, signsTs]
        rfl
      · rintro i x σ H' hi ⟨⟨v2, rfl⟩, hk, hw⟩
        obtain ⟨t, ht, htr⟩ := hts.get hi
        have hdt : deep t ≤ deeps ps := deeps_get ht
        have hle := signs_le ht
        obtain ⟨e, he⟩ : ∃ e, d = e + 1 := ⟨d - 1, by lia⟩
        have hs := hsp e he
        subst hs
        refine ⟨_, rfl, _, rfl, x, t, D, _, rfl, hw, htr.mono (fun b o n e => ⟨n, hk b o n e⟩), by lia, okTs_get hok ht, by rw [List.length_append, List.length_cons]; lia, fun H2 hk2 h2 => ?_⟩
        refine ⟨⟨_, rfl⟩, fun b o nb e => hk2 b o nb (hk b o nb e), ?_⟩
        rw [h2, signs_take ht, List.append_assoc]
        rfl
      · rintro σ H' ⟨⟨v2, rfl⟩, hk, hw⟩
        rw [hul, List.take_length] at hw
        refine ⟨_, rfl, .inl ⟨rfl, _, SqL.of hw⟩, D, _, _, rfl, rfl, hw, by rw [sgV_len, List.length_append, List.length_cons, sizeLine_eq]; lia, ?_⟩
        refine q _ (fun b o nb e => by rw [upd_ne nb]; exact hk b o nb e) ?_
        rw [upd_same]
        have e : ls ++ [40] :: (signsTs ps ++ [[41]]) = (ls ++ [40] :: signsTs ps) ++ [[41]] := by simp
        rw [e, sgV_append (ls ++ [40] :: signsTs ps)]
        rfl
theorem ok_putS {f : Addr} {fd : FuncData} (F : Fun K "put_signs" "put_signs" sPutSigns f fd) (T : Tcs K mg c) (X : Nms mg) (bM : Binds K fd ["tree", "signs"] []) (mM : mg "put_signs" = some (.ref f)) : ∀ d, FnOk P w K mg base CX0 (d + 1) f fd ["tree", "signs"] (spPutS c d)
  | 0 => puts_step (sp := spNo) F T X fn_no bM mM fun e h => by lia
  | d + 1 => puts_step (sp := spPutS c d) F T X (ok_putS F T X bM mM d) bM mM fun e h => by
    obtain rfl : e = d := by lia
    rfl
/-! ### shown_all, shown -/
def spShownAll (c : C4) : Sp := fun vs H Q _ => ∃ (A : Addr) (us : List V) (ts : List Tr), vs = [.ref A] ∧ H A = some (.lst us) ∧ TrsIn c All H ts us ∧ deeps ts ≤ 61 ∧ okTs ts ∧ (signsTs ts).length ≤ 60000 ∧ ∀ (H' : Hp) (z : Str), Same H H' → cpl z = TX.lt false (signsTs ts) → Q (.str z) H'
def spShown (c : C4) : Sp := fun vs H Q _ => ∃ (v : V) (t : Tr), vs = [v] ∧ TrIn c All H t v ∧ deep t ≤ 61 ∧ okT t ∧ (signsT t).length ≤ 60000 ∧ ∀ (H' : Hp) (z : Str), Same H H' → cpl z = TX.lt false (signsT t) → Q (.str z) H'
theorem scShownAll : FnScope ["trees", "signs", "tree"] ["trees"] (defScope sShownAll) := ⟨rfl, rfl, rfl, by decide +kernel, rfl, by decide +kernel, by decide +kernel⟩
theorem repG_le0 {y z : List Nat} (hz : z.length ≤ y.length) : ∀ (n : Nat) (l : List Nat), (TX.repG y z n l).length ≤ (l.drop n).length
  | n, [] => by simp [TX.repG]
  | n + 1, k :: r => by
    have := repG_le0 hz n r
    show (TX.repG y z n r).length ≤ _
    rw [List.drop_succ_cons]; exact this
  | 0, k :: r => by
    have h1 := repG_le0 hz (y.length - 1) r
    have h2 := repG_le0 hz 0 r
    rw [List.length_drop] at h1 h2
    show (if y.isPrefixOf (k :: r) = true then z ++ TX.repG y z (y.length - 1) r else k :: TX.repG y z 0 r).length ≤ _
    rw [List.drop_zero, List.length_cons]
    split
    · rename_i hp
      have hpl : y.length ≤ (k :: r).length := (List.isPrefixOf_iff_prefix.mp hp).length_le
      rw [List.length_cons] at hpl
      rw [List.length_append]
      lia
    · rw [List.length_cons]; lia
theorem repG_le {y z : List Nat} (hz : z.length ≤ y.length) (n : Nat) (l : List Nat) : (TX.repG y z n l).length ≤ l.length + y.length := by
  have := repG_le0 hz n l
  rw [List.length_drop] at this
  lia
theorem ok_shownAll {f fP : Addr} {fd fdP : FuncData} (F : Fun K "shown_all" "shown_all" sShownAll f fd) (T : Tcs K mg c) (X : Nms mg) (FP : Fun K "put_signs" "put_signs" sPutSigns fP fdP) (bP : Binds K fdP ["tree", "signs"] []) (mP : mg "put_signs" = some (.ref fP)) :
    FnOk P w K mg base CX0 63 f fd ["trees"] (spShownAll c) := by
  have GP : FnOk P w K mg base CX0 62 fP fdP ["tree", "signs"] (spPutS c 61) := ok_putS FP T X bP mP 61
  refine F.okT scShownAll rfl (fun vs H Q E h => ?_) (fun cdv A outer s H vs Q E hr h => ?_)
  · obtain ⟨A, us, ts, rfl, _⟩ := h; rfl
  · obtain ⟨A0, us, ts, rfl, hA, hts, hd, hok, hlen, q⟩ := h
    have nd := scShownAll.nd
    refine ⟨_, psst_skip (ps_set (i := 1) nd rfl (Or.inl rfl) (pe_lst pa_nil))
      (psst_skip (ps_for PassesOwn.never rfl (pi_list (pv 0)) (pg_name (i := 2) nd rfl (Or.inl rfl))
        (pss_one (ps_expr (pe_call GP hr (by rfl) mP FP.kp bP .nil pass0 (pa_cons (pv 2) (pa_cons (pv 1) pa_nil))))))
      (psst_one (pst_ret (pet_replace (by decide) (pet_replace (by decide) (PE.t (pe_bm PySem.F.plainAttrs_str PySem.F.slot_str_join PySem.F.type_str_join mt_join pe_str (pa_cons (pv 1) pa_nil)))))))), ?_⟩
    have hul : us.length = ts.length := hts.length
    refine ⟨Nat.zero_le _, fun D hD => ?_⟩
    have s1 := same_upd (o := .lst []) hD
    refine ⟨_, rfl, A0, rfl, ⟨_, SqL.of (s1 _ _ hA)⟩, for_list (K := K) (a := A0) (xs := us) (fun i σ H' => (∃ v2, σ = [some (.ref A0), some (.ref D), v2]) ∧ Same H H' ∧ H' D = some (.lst (sgV (signsTs (ts.take i)))))
      ⟨⟨_, rfl⟩, s1, by rw [upd_same]; simp only [List.take_zero, signsTs]; rfl⟩ (fun i σ H' _ ⟨_, e, _⟩ => SqL.of (e _ _ hA)) ?_ ?_⟩
    · rintro i x σ H' hi ⟨⟨v2, rfl⟩, hS, hw⟩
      obtain ⟨t, ht, htr⟩ := hts.get hi
      have hdt : deep t ≤ deeps ts := deeps_get ht
      have hle := signs_le ht
      refine ⟨_, rfl, _, rfl, x, t, D, _, rfl, hw, htr.mono (fun b o _ e => ⟨ne_of_none e hD, hS b o e⟩), by lia, okTs_get hok ht, by lia, fun H2 hk2 h2 => ?_⟩
      refine ⟨⟨_, rfl⟩, fun b o e => hk2 b o (ne_of_none e hD) (hS b o e), ?_⟩
      rw [h2, signs_take ht]
    · rintro σ H' ⟨⟨v2, rfl⟩, hS, hw⟩
      rw [hul, List.take_length] at hw
      have hgood := signs_oks hok
      have hxs : sgV (signsTs ts) = ((signsTs ts).map ofL).map V.str := by unfold sgV; simp only [List.map_map]; rfl
      have hshort : ∀ y ∈ (signsTs ts).map ofL, y.length ≤ 100 := fun y hy => by
        obtain ⟨l, hl, rfl⟩ := List.mem_map.mp hy
        rw [← cpl_len, cpl_ofL]; exact (hgood l hl).2
      have hcount : ((signsTs ts).map ofL).length ≤ 60000 := by rw [List.length_map]; exact hlen
      have htl : (Str.join " " ((signsTs ts).map ofL)).length ≤ 6060000 := by
        have h1 := StrLaws.join_length_le " " ((signsTs ts).map ofL)
        have h2 := StrLaws.sumLen_le ((signsTs ts).map ofL) hshort
        have h3 : (" " : Str).length = 1 := rfl
        rw [h3] at h1
        lia
      have hj := join_js (signsTs ts)
      have hsign : ∀ l ∈ signsTs ts, TX.SignC l := fun l hl => (hgood l hl).1
      have h1 : (Txt.replace (Str.join " " ((signsTs ts).map ofL)) "( " "(").length ≤ 6060002 := by
        rw [← cpl_len, replace_rep (by decide)]
        have := repG_le (y := cpl "( ") (z := cpl "(") (by decide) 0 (cpl (Str.join " " ((signsTs ts).map ofL)))
        rw [cpl_len] at this
        have e2 : (cpl ("( " : Str)).length = 2 := by decide
        lia
      refine ⟨rfl, _, rfl, " ", D, (signsTs ts).map ofL, rfl, rfl, by rw [← hxs]; exact SqL.of hw, joinOk_of hshort (by show _ * 100 + _ * 1 ≤ _; lia), _, rfl, ?_, _, rfl, ?_, ?_⟩
      · show (Str.join " " ((signsTs ts).map ofL)).length + ((Str.join " " ((signsTs ts).map ofL)).length + 1) * 1 ≤ _; lia
      · show (Txt.replace (Str.join " " ((signsTs ts).map ofL)) "( " "(").length + ((Txt.replace (Str.join " " ((signsTs ts).map ofL)) "( " "(").length + 1) * 1 ≤ _; lia
      · exact q _ _ hS (shown_text (signsTs ts) hsign)
theorem scShown : FnScope ["tree"] ["tree"] (defScope sShown) := ⟨rfl, rfl, rfl, by decide +kernel, rfl, by decide +kernel, by decide +kernel⟩
theorem ok_shown {f fA fP : Addr} {fd fdA fdP : FuncData} (F : Fun K "shown" "shown" sShown f fd) (T : Tcs K mg c) (X : Nms mg) (FP : Fun K "put_signs" "put_signs" sPutSigns fP fdP) (bP : Binds K fdP ["tree", "signs"] []) (mP : mg "put_signs" = some (.ref fP))
    (FA : Fun K "shown_all" "shown_all" sShownAll fA fdA) (bA : Binds K fdA ["trees"] []) (mA : mg "shown_all" = some (.ref fA)) :
    FnOk P w K mg base CX0 64 f fd ["tree"] (spShown c) := by
  have GA : FnOk P w K mg base CX0 63 fA fdA ["trees"] (spShownAll c) := ok_shownAll FA T X FP bP mP
  refine F.ok scShown (fun vs H Q E h => ?_) (fun cdv A outer s H vs Q E hr h => ?_)
  · obtain ⟨v, t, rfl, _⟩ := h; rfl
  · obtain ⟨v, t, rfl, ht, hd, hok, hlen, q⟩ := h
    refine ⟨_, pss_one (ps_ret (pe_call GA hr (by rfl) mA FA.kp bA .nil pass0 (pa_cons (pe_lst (pa_cons (pv 0) pa_nil)) pa_nil))), ?_⟩
    refine ⟨_, rfl, (by show 1 ≤ sizeLine; rw [sizeLine_eq]; decide), fun p hp => ?_⟩
    have s1 := same_upd (o := .lst [v]) hp
    refine ⟨p, [v], [t], rfl, upd_same, ?_, ?_, ?_, by rw [signsTs_one]; exact hlen, fun H' z s2 hz => q H' z (s1.trans s2) (by rw [hz, signsTs_one])⟩
    · simp only [TrsIn]
      exact ⟨v, [], rfl, ht.same s1, rfl⟩
    · simp only [deeps]; lia
    · simp only [okTs]; exact ⟨hok, trivial⟩
end
end K75

set_option Elab.async false
set_option linter.all false
set_option maxRecDepth 100000
set_option maxHeartbeats 4000000
set_option exponentiation.threshold 3000
/-! k75: names given, cores as trees: the mathematics. Own work. -/
namespace K75
open PySem L2 Builtin.Str TR SH
abbrev vN (kvs : List (Key × V)) (p : Int) : Option V := valV kvs (.inl (some p))
mutual
def dp : Co → Nat
  | .mk _ ks => 1 + dps ks
def dps : List Co → Nat
  | [] => 0
  | k :: ks => max (dp k) (dps ks)
end
theorem dp_mk (t : Tg) (ks : List Co) : dp (.mk t ks) = 1 + dps ks := by rw [dp]
theorem dps_append : ∀ (xs ys : List Co), dps (xs ++ ys) = max (dps xs) (dps ys)
  | [], ys => by simp [dps]
  | x :: xs, ys => by
    show dps (x :: (xs ++ ys)) = _
    rw [dps, dps, dps_append xs ys]
    lia
theorem dp_kid : ∀ {ks : List Co} {k : Co}, k ∈ ks → dp k ≤ dps ks
  | x :: ks, k, h => by
    rw [dps]
    rcases List.mem_cons.mp h with h | h
    · rw [h]; lia
    · have := dp_kid h; lia
/-- signs of a core -/
def sgT : Tg → Nat
  | .num _ => 1
  | .free _ => 1
  | .seen _ => 1
  | .fn ps => 5 + ps.length
  | .call => 2
  | .pick => 3
  | .now => 3
mutual
def sg : Co → Nat
  | .mk t ks => sgT t + sgs ks
def sgs : List Co → Nat
  | [] => 0
  | k :: ks => sg k + sgs ks
end
theorem sg_mk (t : Tg) (ks : List Co) : sg (.mk t ks) = sgT t + sgs ks := by rw [sg]
theorem sgs_append : ∀ (xs ys : List Co), sgs (xs ++ ys) = sgs xs + sgs ys
  | [], ys => by simp [sgs]
  | x :: xs, ys => by
    show sgs (x :: (xs ++ ys)) = _
    rw [sgs, sgs, sgs_append xs ys]
    lia
theorem sgs_one (c : Co) : sgs [c] = sg c := by rw [sgs, sgs]; lia
theorem sgT_pos : ∀ t, 1 ≤ sgT t
  | .num _ => Nat.le_refl _
  | .free _ => Nat.le_refl _
  | .seen _ => Nat.le_refl _
  | .fn ps => by show 1 ≤ 5 + ps.length; lia
  | .call => by decide
  | .pick => by decide
  | .now => by decide
mutual
theorem sz_le : ∀ c : Co, sz c ≤ sg c
  | .mk t ks => by
    rw [sz_mk, sg_mk]
    have := szs_le ks
    have := sgT_pos t
    lia
theorem szs_le : ∀ cs : List Co, szs cs ≤ sgs cs
  | [] => by rw [szs, sgs]; lia
  | c :: cs => by
    rw [szs, sgs]
    have := sz_le c
    have := szs_le cs
    lia
end
/-! ### names -/
/-- a name of the law's, a name given -/
def Nm0 (n : Str) : Prop := Pl n ∧ n.length ≤ 34
def Nm (n : Str) : Prop := Pl n ∧ n.length ≤ 100
theorem Nm0.nm {n : Str} (h : Nm0 n) : Nm n := ⟨h.1, Nat.le_trans h.2 (by decide)⟩
theorem pl_cat {a b : Str} (ha : Pl a) (hb : Pl b) : Pl (a ++ b) := by
  unfold Pl at ha hb ⊢
  rw [cpl_cat]
  refine ⟨fun k hk => ?_, fun e => ha.2 (List.append_eq_nil_iff.mp e).1⟩
  rcases List.mem_append.mp hk with h | h
  · exact ha.1 k h
  · exact hb.1 k h
theorem nbn_nm {n : Str} {m : Int} (h : Nm0 n) (h1 : 1 ≤ m) (h2 : m < 10 ^ 60) : Nm (nbn n m) := by
  unfold nbn
  split
  · exact h.nm
  · have ht := num_text (z := m) (by have : (0 : Int) < 10 ^ 60 := by decide
                                     lia) h2
    refine ⟨pl_cat h.1 ht.1, ?_⟩
    rw [str_cat_len]
    have := h.2
    have := ht.2
    lia
/-- what is used lies in a list -/
def Cov (U : Str → Prop) (n : Nat) : Prop := ∃ L : List Str, L.length ≤ n ∧ ∀ x, U x → x ∈ L
theorem Lst.le {U : Str → Prop} {n : Str} {m : Int} {k : Nat} (h : Lst U n m) (hc : Cov U k) : m ≤ (k : Int) + 1 := by
  obtain ⟨L, hL, hU⟩ := hc
  apply Classical.byContradiction
  intro hm
  have h1 := pig ((List.range (k + 1)).map fun j : Nat => nbn n (1 + (j : Int))) L ?_ ?_
  · rw [List.length_map, List.length_range] at h1
    lia
  · refine List.Pairwise.map _ (fun (a b : Nat) (hab : a ≠ b) e => hab ?_) List.nodup_range
    have := nbn_inj (by lia) (by lia) e
    lia
  · intro x hx
    obtain ⟨j, hj, rfl⟩ := List.mem_map.mp hx
    rw [List.mem_range] at hj
    exact hU _ (h.2.2 _ (by lia) (by lia))
theorem Cov.more {U : Str → Prop} {k : Nat} (h : Cov U k) (y : Str) : Cov (fun x => x = y ∨ U x) (k + 1) := by
  obtain ⟨L, hL, hU⟩ := h
  refine ⟨y :: L, by rw [List.length_cons]; lia, fun x hx => ?_⟩
  rcases hx with rfl | hx
  · exact List.mem_cons_self ..
  · exact List.mem_cons_of_mem _ (hU x hx)
theorem NT.nms {U0 : Str → Prop} {ps r : List (Int × Str)} {U : Str → Prop} {k : Nat} (h : NT U0 ps r U) (hk : k + ps.length ≤ 1000000) (hc : Cov U0 k) (hn : ∀ x ∈ ps, Nm0 x.2) : (∀ x ∈ r, Nm x.2) ∧ Cov U (k + ps.length) := by
  induction h with
  | nil => exact ⟨(fun x hx => nomatch hx), hc⟩
  | @snoc ps0 r0 U1 p0 n0 m0 h hm ih =>
    rw [List.length_append, List.length_singleton] at hk
    obtain ⟨h1, h2⟩ := ih (by lia) fun x hx => hn x (List.mem_append_left _ hx)
    have hle := hm.le h2
    refine ⟨fun x hx => ?_, ?_⟩
    · rcases List.mem_append.mp hx with hx | hx
      · exact h1 x hx
      · rw [List.mem_singleton.mp hx]
        refine nbn_nm (hn (p0, n0) (List.mem_append_right _ (List.mem_singleton.mpr rfl))) hm.1 ?_
        have : (1000002 : Int) < 10 ^ 60 := by decide
        lia
    · rw [List.length_append, List.length_singleton, ← Nat.add_assoc]
      exact h2.more _
theorem NT.fst {U0 : Str → Prop} {ps r : List (Int × Str)} {U : Str → Prop} (h : NT U0 ps r U) : r.map (·.1) = ps.map (·.1) := by
  induction h with
  | nil => rfl
  | snoc h hm ih => rw [List.map_append, List.map_append, ih]; rfl
/-- names that are good -/
def GoodK (kvs : List (Key × V)) : Prop := ∀ p v, vN kvs p = some v → ∃ n, v = .str n ∧ Nm n
def Has (kvs : List (Key × V)) (p : Int) : Prop := ∃ n, vN kvs p = some (.str n) ∧ Nm n
theorem GoodK.nil : GoodK [] := fun p v e => by
  unfold vN at e
  rw [valV_nil] at e; exact nomatch e
theorem GoodK.puts : ∀ {r : List (Int × Str)} {kvs : List (Key × V)}, GoodK kvs → (∀ x ∈ r, Nm x.2) → GoodK (puts kvs r)
  | [], kvs, h, _ => h
  | x :: r, kvs, h, hr => by
    show GoodK (K75.puts (putK kvs (.inl (some x.1)) (.str x.2)) r)
    refine GoodK.puts (fun p v e => ?_) fun y hy => hr y (List.mem_cons_of_mem _ hy)
    unfold vN at e
    rw [valV_put] at e
    split at e
    · exact ⟨x.2, (Option.some.inj e).symm, hr x (List.mem_cons_self ..)⟩
    · exact h p v e
theorem Has.putK {kvs : List (Key × V)} {p q : Int} {n : Str} (h : Has kvs p) (hn : Nm n) : Has (putK kvs (.inl (some q)) (.str n)) p := by
  unfold Has vN
  rw [valV_put]
  by_cases e : (Sum.inl (some p) : Key) = .inl (some q)
  · rw [if_pos e]; exact ⟨n, rfl, hn⟩
  · rw [if_neg e]; exact h
theorem Has.puts : ∀ {r : List (Int × Str)} {kvs : List (Key × V)} {p : Int}, Has kvs p → (∀ x ∈ r, Nm x.2) → Has (puts kvs r) p
  | [], kvs, p, h, _ => h
  | x :: r, kvs, p, h, hr => by
    show Has (K75.puts (L2.putK kvs (.inl (some x.1)) (.str x.2)) r) p
    exact Has.puts (h.putK (hr x (List.mem_cons_self ..))) fun y hy => hr y (List.mem_cons_of_mem _ hy)
theorem Has.new : ∀ {r : List (Int × Str)} {kvs : List (Key × V)} {p : Int}, p ∈ r.map (·.1) → (∀ x ∈ r, Nm x.2) → Has (K75.puts kvs r) p
  | x :: r, kvs, p, h, hr => by
    show Has (K75.puts (L2.putK kvs (.inl (some x.1)) (.str x.2)) r) p
    rw [List.map_cons] at h
    rcases List.mem_cons.mp h with e | h
    · subst e
      refine Has.puts ?_ fun y hy => hr y (List.mem_cons_of_mem _ hy)
      unfold Has vN
      rw [valV_put, if_pos rfl]
      exact ⟨x.2, rfl, hr x (List.mem_cons_self ..)⟩
    · exact Has.new h fun y hy => hr y (List.mem_cons_of_mem _ hy)
/-- the name that a core takes -/
def nmK (kvs : List (Key × V)) : Co → Option Str
  | .mk (.free n) _ => some n
  | .mk (.fn _) _ => some "fn"
  | .mk .pick _ => some "pick"
  | .mk .now _ => some "now"
  | .mk (.seen p) _ => match vN kvs p with
    | some (.str x) => some x
    | _ => none
  | _ => none
theorem nmS_K {kvs : List (Key × V)} {d : Co} {x : Str} (h : nmS kvs d x) : nmK kvs d = some x := by
  rcases h with h | ⟨p, ks, rfl, h⟩
  · obtain ⟨t, ks⟩ := d
    cases t <;> first | exact h | exact nomatch h
  · show (match vN kvs p with | some (.str x) => some x | _ => none) = _
    rw [show vN kvs p = some (.str x) from h]
theorem cov_pre (kvs : List (Key × V)) (cs : List Co) : Cov (fun x => ∃ e ∈ cs, nmS kvs e x) cs.length :=
  ⟨cs.filterMap (nmK kvs), List.length_filterMap_le .., fun x ⟨e, he, hx⟩ => List.mem_filterMap.mpr ⟨e, he, nmS_K hx⟩⟩
theorem cov_UI (its : List It) : Cov (UI its) (cores its).length :=
  ⟨(cores its).filterMap nm, List.length_filterMap_le .., fun x ⟨e, he, hx⟩ => List.mem_filterMap.mpr ⟨e, he, hx⟩⟩
theorem FN.good {k k' : List (Key × V)} {cs : List Co} (h : FN k cs k') : (∀ d ∈ cs, sz d ≤ 100000 ∧ (∀ x ∈ parms d, Nm0 x.2) ∧ (parms d).length ≤ 20) → GoodK k → GoodK k' ∧ (∀ p, Has k p → Has k' p) ∧ ∀ d ∈ cs, ∀ x ∈ parms d, Has k' x.1 := by
  induction h with
  | nil => exact fun _ g => ⟨g, fun _ h => h, fun d hd => nomatch hd⟩
  | @skip k k' d cs hd h ih =>
    intro hw g
    obtain ⟨h1, h2, h3⟩ := ih (fun e he => hw e (List.mem_cons_of_mem _ he)) g
    refine ⟨h1, h2, fun e he x hx => ?_⟩
    rcases List.mem_cons.mp he with rfl | he
    · obtain ⟨t, ks⟩ := e
      cases t with
      | fn ps => exact absurd rfl (hd ps ks)
      | _ => exact nomatch hx
    · exact h3 e he x hx
  | @fn k k' ps r b U cs hn h ih =>
    intro hw g
    obtain ⟨w1, w2, w3⟩ := hw _ (List.mem_cons_self ..)
    have w3' : ps.length ≤ 20 := w3
    rw [sz_mk, szs, szs] at w1
    have hpl := pre_len b
    obtain ⟨hr, _⟩ := hn.nms (k := (pre b).length) (by lia) (cov_pre k (pre b)) w2
    obtain ⟨h1, h2, h3⟩ := ih (fun e he => hw e (List.mem_cons_of_mem _ he)) (g.puts hr)
    refine ⟨h1, fun p hp => h2 p (hp.puts hr), fun e he x hx => ?_⟩
    rcases List.mem_cons.mp he with rfl | he
    · refine h2 _ (Has.new ?_ hr)
      rw [hn.fst]
      exact List.mem_map.mpr ⟨x, hx, rfl⟩
    · exact h3 e he x hx
theorem FN.uniq {k k1 : List (Key × V)} {cs : List Co} (h : FN k cs k1) : ∀ {k2 : List (Key × V)}, FN k cs k2 → k1 = k2 := by
  induction h with
  | nil => intro k2 h2; cases h2; rfl
  | skip hd h ih =>
    intro k2 h2
    cases h2 with
    | skip _ h2 => exact ih h2
    | fn _ _ => exact absurd rfl (hd _ _)
  | @fn k k' ps r b U cs hn h ih =>
    intro k2 h2
    cases h2 with
    | skip hd h2 => exact absurd rfl (hd ps [b])
    | fn hn2 h2 =>
      obtain ⟨e, _⟩ := NT.uniq (fun _ => Iff.rfl) hn hn2 rfl
      subst e
      exact ih h2
/-! ### cores that are well made -/
def scG (Γ : List Int) : Tg → List Int
  | .fn ps => ps.map (·.1) ++ Γ
  | _ => Γ
def wfT (Γ : List Int) : Tg → List Co → Prop
  | .num z, _ => -(10 ^ 60) < z ∧ z < 10 ^ 60
  | .free n, _ => Nm0 n
  | .seen p, _ => p ∈ Γ
  | .fn ps, ks => ps.length ≤ 8 ∧ (∀ x ∈ ps, Nm0 x.2) ∧ ks.length = 1
  | .call, ks => ks.length ≤ 4 ∧ 1 ≤ ks.length
  | .pick, ks => ks.length = 3
  | .now, ks => ks.length = 1
mutual
def Wf (Γ : List Int) : Co → Prop
  | .mk t ks => wfT Γ t ks ∧ Wfs (scG Γ t) ks
def Wfs (Γ : List Int) : List Co → Prop
  | [] => True
  | k :: ks => Wf Γ k ∧ Wfs Γ ks
end
theorem Wfs.append {Γ : List Int} : ∀ {xs ys : List Co}, Wfs Γ xs → Wfs Γ ys → Wfs Γ (xs ++ ys)
  | [], ys, _, h => h
  | x :: xs, ys, h, g => by
    unfold Wfs at h
    show Wfs Γ (x :: (xs ++ ys))
    unfold Wfs
    exact ⟨h.1, Wfs.append h.2 g⟩
/-- all that is told by a place has a name -/
def ndT (kvs : List (Key × V)) : Tg → Prop
  | .num z => -(10 ^ 60) < z ∧ z < 10 ^ 60
  | .free n => Nm n
  | .seen p => Has kvs p
  | .fn ps => ps.length ≤ 8 ∧ ∀ x ∈ ps, Has kvs x.1
  | _ => True
mutual
def Nd (kvs : List (Key × V)) : Co → Prop
  | .mk t ks => ndT kvs t ∧ ks.length ≤ 4 ∧ Nds kvs ks
def Nds (kvs : List (Key × V)) : List Co → Prop
  | [] => True
  | k :: ks => Nd kvs k ∧ Nds kvs ks
end
theorem Nds.mem {kvs : List (Key × V)} : ∀ {ks : List Co} {k : Co}, Nds kvs ks → k ∈ ks → Nd kvs k
  | x :: ks, k, h, hk => by
    unfold Nds at h
    rcases List.mem_cons.mp hk with e | hk
    · rw [e]; exact h.1
    · exact Nds.mem h.2 hk
mutual
theorem Wf.nd {kvs : List (Key × V)} : ∀ {c : Co} {Γ : List Int} {v : V} {H : Hp}, CoIn H c v → Wf Γ c → (∀ p ∈ Γ, Has kvs p) → (∀ d ∈ pre c, ∀ x ∈ parms d, Has kvs x.1) → Nd kvs c
  | .mk t ks, Γ, v, H, hco, h, hΓ, hp => by
    unfold Wf at h
    unfold Nd
    unfold CoIn at hco
    obtain ⟨a, vs, e, hat, hks⟩ := hco
    have hkl := hks.al.1
    have hsub : ∀ d ∈ pres ks, ∀ x ∈ parms d, Has kvs x.1 := fun d hd => hp d (by rw [pre_eq]; exact List.mem_cons_of_mem _ hd)
    have hself := hp (.mk t ks) (by rw [pre_eq]; exact List.mem_cons_self ..)
    refine ⟨?_, ?_, Wfs.nds hks h.2 ?_ hsub⟩
    · cases t with
      | num z => exact h.1
      | free n => exact Nm0.nm h.1
      | seen p => exact hΓ p h.1
      | fn ps => exact ⟨h.1.1, hself⟩
      | _ => trivial
    · cases t with
      | num z => rw [← hkl, hat.1]; decide
      | free n => rw [← hkl, hat.1]; decide
      | seen p => rw [← hkl, hat.1]; decide
      | fn ps => have := h.1.2.2; lia
      | call => exact h.1.1
      | pick => have h1 : ks.length = 3 := h.1; lia
      | now => have h1 : ks.length = 1 := h.1; lia
    · cases t with
      | fn ps =>
        intro p hp'
        rcases List.mem_append.mp hp' with g | g
        · obtain ⟨x, hx, rfl⟩ := List.mem_map.mp g
          exact hself x hx
        · exact hΓ p g
      | _ => exact hΓ
theorem Wfs.nds {kvs : List (Key × V)} : ∀ {ks : List Co} {Γ : List Int} {vs : List V} {H : Hp}, CosIn H ks vs → Wfs Γ ks → (∀ p ∈ Γ, Has kvs p) → (∀ d ∈ pres ks, ∀ x ∈ parms d, Has kvs x.1) → Nds kvs ks
  | [], Γ, vs, H, _, _, _, _ => by unfold Nds; trivial
  | k :: ks, Γ, vs, H, hco, h, hΓ, hp => by
    unfold Wfs at h
    unfold Nds
    unfold CosIn at hco
    obtain ⟨x, xs, e, h1, h2⟩ := hco
    rw [pres_cons] at hp
    exact ⟨Wf.nd h1 h.1 hΓ fun d hd => hp d (List.mem_append_left _ hd), Wfs.nds h2 h.2 hΓ fun d hd => hp d (List.mem_append_right _ hd)⟩
end
mutual
theorem Wf.parms {Γ : List Int} : ∀ {c d : Co}, Wf Γ c → d ∈ pre c → (∀ x ∈ K75.parms d, Nm0 x.2) ∧ (K75.parms d).length ≤ 20
  | .mk t ks, d, h, hd => by
    unfold Wf at h
    rw [pre_eq] at hd
    rcases List.mem_cons.mp hd with rfl | hd
    · cases t with
      | fn ps => exact ⟨h.1.2.1, by have := h.1.1; show ps.length ≤ 20; lia⟩
      | _ => exact ⟨(fun x hx => nomatch hx), by show ([] : List (Int × Str)).length ≤ 20; decide⟩
    · exact Wfs.parms h.2 hd
theorem Wfs.parms {Γ : List Int} : ∀ {cs : List Co} {d : Co}, Wfs Γ cs → d ∈ pres cs → (∀ x ∈ K75.parms d, Nm0 x.2) ∧ (K75.parms d).length ≤ 20
  | [], d, h, hd => by rw [pres] at hd; exact nomatch hd
  | c :: cs, d, h, hd => by
    unfold Wfs at h
    rw [pres_cons] at hd
    rcases List.mem_append.mp hd with hd | hd
    · exact Wf.parms h.1 hd
    · exact Wfs.parms h.2 hd
end
/-! ### trees -/
def nameK (kvs : List (Key × V)) (p : Int) : Str := match vN kvs p with
  | some (.str n) => n
  | _ => ""
theorem Has.name {kvs : List (Key × V)} {p : Int} (h : Has kvs p) : vN kvs p = some (.str (nameK kvs p)) ∧ Nm (nameK kvs p) := by
  obtain ⟨n, e, hn⟩ := h
  have : nameK kvs p = n := by unfold nameK; rw [e]
  rw [this]
  exact ⟨e, hn⟩
abbrev wd (n : Str) : Tr := .word n 0 0
def headT (kvs : List (Key × V)) : Tg → List Tr
  | .fn ps => [wd "fn", .row (ps.map fun x => wd (nameK kvs x.1)) 0]
  | .pick => [wd "pick"]
  | .now => [wd "now"]
  | _ => []
mutual
def treeC (kvs : List (Key × V)) : Co → Tr
  | .mk t ks => match t with
    | .num z => .fig z 0
    | .free n => wd n
    | .seen p => wd (nameK kvs p)
    | t => .row (headT kvs t ++ treeCs kvs ks) 0
def treeCs (kvs : List (Key × V)) : List Co → List Tr
  | [] => []
  | k :: ks => treeC kvs k :: treeCs kvs ks
end
theorem treeCs_map (kvs : List (Key × V)) : ∀ ks : List Co, treeCs kvs ks = ks.map (treeC kvs)
  | [] => by rw [treeCs]; rfl
  | k :: ks => by rw [treeCs, treeCs_map kvs ks]; rfl
def rowT : Tg → Bool
  | .num _ => false
  | .free _ => false
  | .seen _ => false
  | _ => true
theorem treeC_row (kvs : List (Key × V)) {t : Tg} (h : rowT t = true) (ks : List Co) : treeC kvs (.mk t ks) = .row (headT kvs t ++ ks.map (treeC kvs)) 0 := by
  cases t with
  | num z => exact nomatch h
  | free z => exact nomatch h
  | seen z => exact nomatch h
  | _ => simp only [treeC, treeCs_map]
theorem okTs_append {a b : List Tr} (h : okTs a) (g : okTs b) : okTs (a ++ b) := by
  rw [okTs_mem] at h g ⊢
  intro t ht
  rcases List.mem_append.mp ht with ht | ht
  · exact h t ht
  · exact g t ht
theorem ok_wd {n : Str} (h : Nm n) : okT (wd n) := by rw [okT]; exact h
theorem nm_of {n : Str} (h : n.length ≤ 100 := by decide) (h1 : ∀ k ∈ cpl n, k ≠ 32 ∧ k ≠ 10 ∧ k ≠ 40 ∧ k ≠ 41 := by decide) (h2 : cpl n ≠ [] := by decide) : Nm n := ⟨⟨h1, h2⟩, h⟩
theorem ok_row {ts : List Tr} {a : Int} (h : okTs ts) : okT (.row ts a) := by rw [okT]; exact h
theorem ok_cons {t : Tr} {ts : List Tr} (h : okT t) (g : okTs ts) : okTs (t :: ts) := by rw [okTs]; exact ⟨h, g⟩
theorem ok_nil : okTs [] := by rw [okTs]; trivial
theorem ok_nms {kvs : List (Key × V)} {ps : List (Int × Str)} (h : ∀ x ∈ ps, Has kvs x.1) : okTs (ps.map fun x => wd (nameK kvs x.1)) := okTs_mem.mpr fun t ht => by
  obtain ⟨x, hx, rfl⟩ := List.mem_map.mp ht
  exact ok_wd (h x hx).name.2
theorem ok_head {kvs : List (Key × V)} {t : Tg} (h : ndT kvs t) : okTs (headT kvs t) := by
  cases t with
  | fn ps => exact ok_cons (ok_wd nm_of) (ok_cons (ok_row (ok_nms h.2)) ok_nil)
  | pick => exact ok_cons (ok_wd nm_of) ok_nil
  | now => exact ok_cons (ok_wd nm_of) ok_nil
  | _ => exact ok_nil
mutual
theorem ok_treeC {kvs : List (Key × V)} : ∀ {c : Co}, Nd kvs c → okT (treeC kvs c)
  | .mk t ks, h => by
    unfold Nd at h
    by_cases hr : rowT t = true
    · rw [treeC_row kvs hr]
      refine ok_row (okTs_append (ok_head h.1) ?_)
      rw [← treeCs_map]
      exact ok_treeCs h.2.2
    · cases t with
      | num z => rw [treeC, okT]; exact h.1
      | free n => rw [treeC]; exact ok_wd h.1
      | seen p => rw [treeC]; exact ok_wd (Has.name h.1).2
      | _ => exact absurd rfl hr
theorem ok_treeCs {kvs : List (Key × V)} : ∀ {cs : List Co}, Nds kvs cs → okTs (treeCs kvs cs)
  | [], h => by rw [treeCs]; exact ok_nil
  | c :: cs, h => by
    unfold Nds at h
    rw [treeCs]
    exact ok_cons (ok_treeC h.1) (ok_treeCs h.2)
end
theorem deeps_append (a b : List Tr) : deeps (a ++ b) = max (deeps a) (deeps b) := by
  induction a with
  | nil => simp [deeps]
  | cons x a ih => rw [List.cons_append, deeps, deeps, ih]; lia
theorem deeps_words {α : Type} (f : α → Str) : ∀ l : List α, deeps (l.map fun x => wd (f x)) = 0
  | [] => by simp [deeps]
  | x :: l => by rw [List.map_cons, deeps, deeps_words f l, deep]; rfl
theorem deep_head (kvs : List (Key × V)) (t : Tg) : deeps (headT kvs t) ≤ 1 := by
  cases t with
  | fn ps => simp only [headT, deeps, deep]; rw [deeps_words fun x : Int × Str => nameK kvs x.1]; decide
  | pick => simp [headT, deeps, deep]
  | now => simp [headT, deeps, deep]
  | _ => simp [headT, deeps]
mutual
theorem deep_treeC (kvs : List (Key × V)) : ∀ c : Co, deep (treeC kvs c) ≤ dp c + 1
  | .mk t ks => by
    rw [dp_mk]
    by_cases hr : rowT t = true
    · rw [treeC_row kvs hr, deep, deeps_append, ← treeCs_map]
      have := deep_treeCs kvs ks
      have := deep_head kvs t
      lia
    · cases t with
      | num z => rw [treeC, deep]; lia
      | free n => rw [treeC, deep]; lia
      | seen p => rw [treeC, deep]; lia
      | _ => exact absurd rfl hr
theorem deep_treeCs (kvs : List (Key × V)) : ∀ cs : List Co, deeps (treeCs kvs cs) ≤ dps cs + 1
  | [] => by rw [treeCs, deeps]; lia
  | c :: cs => by
    rw [treeCs, deeps, dps]
    have := deep_treeC kvs c
    have := deep_treeCs kvs cs
    lia
end
theorem signs_words {α : Type} (f : α → Str) : ∀ l : List α, (signsTs (l.map fun x => wd (f x))).length = l.length
  | [] => by simp [signsTs]
  | x :: l => by rw [List.map_cons, signsTs, List.length_append, signs_words f l, signsT, List.length_cons, List.length_cons, List.length_nil]; lia
theorem signs_row (ts : List Tr) (a : Int) : (signsT (.row ts a)).length = 2 + (signsTs ts).length := by
  rw [signsT, List.length_cons, List.length_append, List.length_singleton]; lia
theorem sg_head (kvs : List (Key × V)) {t : Tg} (h : rowT t = true) : 2 + (signsTs (headT kvs t)).length = sgT t := by
  cases t with
  | fn ps =>
    simp only [headT, signsTs, List.length_append, signs_row, List.length_nil]
    rw [signs_words fun x : Int × Str => nameK kvs x.1]
    simp only [signsT, List.length_cons, List.length_nil, sgT]
    lia
  | call => rfl
  | pick => rfl
  | now => rfl
  | _ => exact nomatch h
mutual
theorem sg_treeC (kvs : List (Key × V)) : ∀ c : Co, (signsT (treeC kvs c)).length ≤ sg c
  | .mk t ks => by
    rw [sg_mk]
    by_cases hr : rowT t = true
    · rw [treeC_row kvs hr, signs_row, signsTs_append, List.length_append, ← treeCs_map]
      have := sg_treeCs kvs ks
      have := sg_head kvs hr
      lia
    · cases t with
      | num z => rw [treeC, signsT]; show 1 ≤ 1 + _; lia
      | free n => rw [treeC, signsT]; show 1 ≤ 1 + _; lia
      | seen p => rw [treeC, signsT]; show 1 ≤ 1 + _; lia
      | _ => exact absurd rfl hr
theorem sg_treeCs (kvs : List (Key × V)) : ∀ cs : List Co, (signsTs (treeCs kvs cs)).length ≤ sgs cs
  | [] => by rw [treeCs, signsTs, sgs]; exact Nat.le_refl _
  | c :: cs => by
    rw [treeCs, signsTs, sgs, List.length_append]
    have := sg_treeC kvs c
    have := sg_treeCs kvs cs
    lia
end
/-! ### items -/
def treeI (kvs : List (Key × V)) : It → Tr
  | .defi p n c => .row [wd "def", wd (nameK kvs p), treeC kvs c] 0
  | .shw c => .row [wd "show", treeC kvs c] 0
def treeW (kvs : List (Key × V)) (its : List It) : Tr := .row ([wd "part", wd "main"] ++ its.map (treeI kvs)) 0
/-- items that are well made -/
structure Wfi (its : List It) : Prop where
  len : its.length ≤ 150
  wf : ∀ it ∈ its, Wf ((tops its).map (·.1)) it.core
  nm : ∀ x ∈ tops its, Nm0 x.2
  dp : ∀ it ∈ its, dp it.core ≤ 6
  sg : ((its.map fun it => sg it.core).sum) ≤ 3000
theorem cores_le : ∀ (its : List It), (cores its).length ≤ (its.map fun it => sg it.core).sum
  | [] => by simp [cores]
  | x :: its => by
    have e : cores (x :: its) = pre x.core ++ cores its := rfl
    rw [e, List.length_append, pre_len, List.map_cons, List.sum_cons]
    have := cores_le its
    have := sz_le x.core
    lia
theorem Wfi.its {its : List It} (h : Wfi its) : Its its := by
  have hc := cores_le its
  have hs := h.sg
  refine ⟨by have := h.len; lia, by lia, fun p n hx => ?_, fun d hd => ?_, fun d hd => ?_⟩
  · have := (h.nm _ hx).2
    show n.length ≤ 100
    exact Nat.le_trans this (by decide)
  · obtain ⟨it, hit, hdp⟩ := mem_cores.mp hd
    intro x hx
    have := ((Wf.parms (h.wf it hit) hdp).1 x hx).2
    lia
  · obtain ⟨it, hit, hdp⟩ := mem_cores.mp hd
    exact (Wf.parms (h.wf it hit) hdp).2
/-- names of items -/
def Nam (its : List It) (kvs : List (Key × V)) : Prop := ∃ r U, NT (UI its) (tops its) r U ∧ FN (puts [] r) (cores its) kvs
theorem Nam.uniq {its : List It} {k k' : List (Key × V)} (h : Nam its k) (h' : Nam its k') : k = k' := by
  obtain ⟨r, U, h1, h2⟩ := h
  obtain ⟨r', U', g1, g2⟩ := h'
  obtain ⟨e, _⟩ := NT.uniq (fun _ => Iff.rfl) h1 g1 rfl
  subst e
  exact h2.uniq g2
theorem Nam.has {its : List It} {k : List (Key × V)} (hN : Nam its k) (h : Wfi its) : (∀ x ∈ tops its, Has k x.1) ∧ ∀ d ∈ cores its, ∀ x ∈ parms d, Has k x.1 := by
  obtain ⟨r, U, h1, h2⟩ := hN
  have hi := h.its
  have hl := h.len
  have htl := tops_len its
  obtain ⟨hr, _⟩ := h1.nms (k := (cores its).length) (by have := hi.csz; lia) (cov_UI its) h.nm
  obtain ⟨g1, g2, g3⟩ := h2.good (fun d hd => by
    obtain ⟨it, hit, hdp⟩ := mem_cores.mp hd
    have h3 := Wf.parms (h.wf it hit) hdp
    have h4 := core_len hit
    have h5 := pre_sz hdp
    exact ⟨by have := hi.csz; lia, h3.1, h3.2⟩) (GoodK.nil.puts hr)
  refine ⟨fun x hx => g2 _ (Has.new ?_ hr), g3⟩
  rw [h1.fst]
  exact List.mem_map.mpr ⟨x, hx, rfl⟩
theorem Nam.nd {its : List It} {k : List (Key × V)} (hN : Nam its k) (h : Wfi its) {H : Hp} {iv : List V} (hal : Al (ItIn H) its iv) : ∀ it ∈ its, Nd k it.core := fun it hit => by
  obtain ⟨h1, h2⟩ := hN.has h
  obtain ⟨i, hi, e⟩ := List.getElem_of_mem hit
  obtain ⟨v, _, hv⟩ := hal.2 i it (by rw [List.getElem?_eq_getElem hi, e])
  obtain ⟨t, xs, cv, _, _, _, hc⟩ := ItIn.last (K := default) hv
  refine Wf.nd hc (h.wf it hit) (fun p hp => ?_) fun d hd => h2 d (mem_cores.mpr ⟨it, hit, hd⟩)
  obtain ⟨x, hx, rfl⟩ := List.mem_map.mp hp
  exact h1 x hx
/-- items that can be written -/
structure Wri (its : List It) : Prop where
  ok : Its its
  len : its.length ≤ 150
  sg : ((its.map fun it => sg it.core).sum) ≤ 3000
  all : ∀ kvs, Nam its kvs → ∀ it ∈ its, Nd kvs it.core ∧ (∀ x, it.top = some x → Has kvs x.1) ∧ dp it.core ≤ 6
theorem Wfi.wri {its : List It} (h : Wfi its) {H : Hp} {iv : List V} (hal : Al (ItIn H) its iv) : Wri its :=
  ⟨h.its, h.len, h.sg, fun kvs hN it hit => ⟨hN.nd h hal it hit, fun x hx => (hN.has h).1 x (mem_tops.mpr ⟨it, hit, hx⟩), h.dp it hit⟩⟩
end K75

set_option Elab.async false
set_option linter.all false
set_option maxRecDepth 100000
set_option maxHeartbeats 4000000
/-! The rules once more, behind structures: Lean's elaborator does not look into these, so that suites with long lists written out are read fast. Own work. -/
namespace Z
open PySem L2
structure E (X : Cx) (e : Expr) (t : TE) : Prop where h : PE X e t
structure T (X : Cx) (e : Expr) (t : TT) : Prop where h : PT X e t
structure W (X : Cx) (e : Expr) (t : TT) : Prop where h : PW X e t
structure A (X : Cx) (es : List Expr) (t : TA) : Prop where h : PA X es t
structure S (X : Cx) (st : Stmt) (t : TS) : Prop where h : PS X st t
structure Ss (X : Cx) (sts : List Stmt) (t : TS) : Prop where h : PSs X sts t
structure O (X : Cx) (e : Option Expr) (t : TO) : Prop where h : PO X e t
section
variable {X : Cx} {st : Stmt} {rest : List Stmt} {t u : TS} {a b e : Expr} {es : List Expr} {ta tb te : TE} {tA tB' : TT} {tt : TA} {pos p p2 : Pos}
theorem suite (h : Ss X rest t) : PSs X rest t := h.h
theorem pss_cons (h1 : S X st t) (h2 : Ss X rest u) : Ss X (st :: rest) (tSeq t u) := ⟨L2.pss_cons h1.h h2.h⟩
theorem pss_one (h1 : S X st t) : Ss X [st] t := ⟨L2.pss_one h1.h⟩
theorem pss_nil : Ss X [] tNext := ⟨L2.pss_nil⟩
theorem ps_if {c : Expr} {xs ys : List Stmt} {tc : TT} (hc : T X c tc) (ha : Ss X xs t) (hb : Ss X ys u) : S X (.If c xs ys pos) (tIfS tc t u) := ⟨L2.ps_if hc.h ha.h hb.h⟩
theorem ps_ret (he : E X e te) : S X (.Return (some e) pos) (tRet te) := ⟨L2.ps_ret he.h⟩
theorem ps_set {i : Nat} {x : Str} {pos' : Pos} (hN : X.N.Nodup) (hi : X.N[i]? = some x) (hx : Loc X.env.scope x) (he : E X e te) (hs : swapsWith e (some (.Name x pos')) pos.line X.env = pure false := by rfl) (hf : X.fn x = true ∨ X.env.scope.names.lookup x = some .local := by first | exact .inl rfl | exact .inr rfl | assumption) :
    S X (.Assign [.Name x pos'] e pos) (tAsg te (gName i)) := ⟨L2.ps_set hN hi hx he.h hs hf⟩
theorem pt_cmpR {op : CmpOp} {r : R2} (ho : OpR X (compareOp op) r) (ha : E X a ta) (hb : E X b tb) (hm : behindInMarks op b = false) : T X (.Compare a [op] [b] pos) (tTest (tOp r ta tb)) := ⟨L2.pt_cmpR ho ha.h hb.h hm⟩
theorem pe_cmpR {op : CmpOp} {r : R2} (ho : OpR X (compareOp op) r) (ha : E X a ta) (hb : E X b tb) (hm : behindInMarks op b = false) : E X (.Compare a [op] [b] pos) (tOp r ta tb) := ⟨L2.pe_cmpR ho ha.h hb.h hm⟩
theorem pt (h : W X e tA) : T X e tA := ⟨h.h.pt⟩
theorem pw_or1 (ha : T X a tA) : W X (.BoolOp .Or [a] pos) tA := ⟨L2.pw_or1 ha.h⟩
theorem pw_or {r : List Expr} (ha : T X a tA) (hb : W X (.BoolOp .Or (b :: r) pos) tB') : W X (.BoolOp .Or (a :: b :: r) pos) (tOr tA tB') := ⟨L2.pw_or ha.h hb.h⟩
theorem pe_tup {x1} (h : A X es tt) : E X (.Tuple es x1 pos) (tTup tt) := ⟨L2.pe_tup h.h⟩
theorem pe_lst (h : A X es tt) : E X (.List es pos) (tLst tt) := ⟨L2.pe_lst h.h⟩
theorem pa_cons (ha : E X e te) (hr : A X es tt) (hs : starEach (e :: es) X.env = (false, eval e X.env) :: starEach es X.env := by rfl) : A X (e :: es) (tCons te tt) := ⟨L2.pa_cons ha.h hr.h hs⟩
theorem pa_nil : A X [] tNil := ⟨L2.pa_nil⟩
theorem pa_strs {xs : List Str} (h : strsOf es = some xs) : A X es (tStrs xs) := ⟨L2.pa_strs h⟩
theorem pe_str {x j} : E X (.Constant (.str x) j pos) (tC (.str x)) := ⟨L2.pe_str⟩
theorem pe_int {i j} : E X (.Constant (.int i) j pos) (tC (.int i)) := ⟨L2.pe_int⟩
theorem pe_bl {b j} : E X (.Constant (.bool b) j pos) (tC (.bl b)) := ⟨L2.pe_bl⟩
theorem pe_op {op : Operator} {r : R2} (ho : OpR X (binaryOp op) r) (ha : E X a ta) (hb : E X b tb) : E X (.BinOp a op b pos) (tOp r ta tb) := ⟨L2.pe_op ho ha.h hb.h⟩
theorem pv (i : Nat) {x : Str} (hN : X.N[i]? = some x := by rfl) (hv : Vis X.env.scope x := by first | exact Or.inl rfl | exact Or.inr (Or.inl rfl) | exact Or.inr (Or.inr rfl)) (hd : (x == ("__debug__" : Str)) = false := by decide)
    (hcd : (x == ("__classdict__" : Str)) = false := by decide) : E X (.Name x pos) (tVar i) := ⟨L2.pv i hN hv hd hcd⟩
theorem pe_ix {r : R2} (hr : IxR X r) (ha : E X a ta) (hb : E X b tb) (hs : PlainIx b) : E X (.Subscript a b pos) (tOp r ta tb) := ⟨L2.pe_ix hr ha.h hb.h hs⟩
theorem po_none : O X none tNoPart := ⟨L2.po_none⟩
theorem po_some (h : E X e te) : O X (some e) (tPart te) := ⟨L2.po_some h.h⟩
theorem pe_slice {lo hi : Option Expr} {tl th : TO} {r : V → Option Int → Option Int → Hp → VK → Prop} (hr : SlR X r) (he : E X e te) (hl : O X lo tl) (hu : O X hi th) : E X (.Subscript e (.Slice lo hi none p2) pos) (tSl r te tl th) := ⟨L2.pe_slice hr he.h hl.h hu.h⟩
theorem pe_call {CX : CXT} {k : Nat} {f : Addr} {fd : FuncData} {ps : List Str} {sp : Sp} {dvs : List V} {ds : List Value} {EE : XK} {x : Str} (F : FnOk X.prog X.w X.K X.mg X.base CX k f fd ps sp) (hr : Room k X.A) (hg : Gl X x) (hm : X.mg x = some (.ref f)) (hk : PySem.W.keepIn X.K (.ref f) = true) (hb : Binds X.K fd ps ds) (hd : Vals dvs ds) (hx : Passes CX X EE)
    (ha : A X (e :: es) tt) (hdb : (x == ("__debug__" : Str)) = false := by decide) (he : starEach (e :: es) X.env = (false, eval e X.env) :: starEach es X.env := by rfl) (hpl : (backTo pos (starEach es X.env)).any (·.1) = false := by rfl) :
    E X (.Call (.Name x p) (e :: es) [] pos) (tCall sp dvs EE tt) := ⟨L2.pe_call F hr hg hm hk hb hd hx ha.h hdb he hpl⟩
end
end Z

set_option Elab.async false
set_option linter.all false
set_option maxRecDepth 100000
set_option maxHeartbeats 4000000
set_option exponentiation.threshold 3000
/-! k75: trees of cores: row_of, word_of, head_trees, core_tree. Own work. -/
namespace K75
open PySem L2 Builtin.Str TR SH
def spWordOf (c : C4) : Sp := fun vs H Q _ => ∃ (n : Str), vs = [.str n] ∧ ∀ (H' : Hp) (x : V), Same H H' → TrIn c (Free H) H' (wd n) x → Q x H'
def spRowOf (c : C4) : Sp := fun vs H Q _ => ∃ (l : Addr) (us : List V) (ts : List Tr) (N : Addr → Prop), vs = [.ref l] ∧ H l = some (.lst us) ∧ TrsIn c N H ts us ∧ (∀ b, H b = none → N b) ∧ ts.length ≤ 1000 ∧ ∀ (H' : Hp) (x : V), Same H H' → TrIn c N H' (.row ts 0) x → Q x H'
def spHead (c : C4) : Sp := fun vs H Q _ => ∃ (v : V) (t : Tg) (ks : List Co) (dn : Addr) (kvs : List (Key × V)), vs = [v, .ref dn] ∧ CoIn H (.mk t ks) v ∧ rowT t = true ∧ H dn = some (.dK kvs) ∧ ndT kvs t ∧
  ∀ (H' : Hp) (D : Addr) (us : List V), Same H H' → H D = none → H' D = some (.lst us) → TrsIn c (Free H) H' (headT kvs t) us → Q (.ref D) H'
def spTreeC (c : C4) (d : Nat) : Sp := fun vs H Q _ => ∃ (v : V) (co : Co) (dn : Addr) (kvs : List (Key × V)), vs = [v, .ref dn] ∧ CoIn H co v ∧ H dn = some (.dK kvs) ∧ Nd kvs co ∧ dp co ≤ d ∧
  ∀ (H' : Hp) (x : V), Same H H' → TrIn c (Free H) H' (treeC kvs co) x → Q x H'
/-- free, and not this one -/
def Fd (H : Hp) (D : Addr) : Addr → Prop := fun b => H b = none ∧ b ≠ D
theorem trs_append {c : C4} {N : Addr → Prop} {H : Hp} : ∀ {ts us : List Tr} {vs ws : List V}, TrsIn c N H ts vs → TrsIn c N H us ws → TrsIn c N H (ts ++ us) (vs ++ ws)
  | [], us, vs, ws, h, g => by rw [TrsIn] at h; rw [h]; exact g
  | t :: ts, us, vs, ws, h, g => by
    rw [TrsIn] at h
    obtain ⟨v, vs', rfl, h1, h2⟩ := h
    show TrsIn c N H (t :: (ts ++ us)) (v :: (vs' ++ ws))
    rw [TrsIn]
    exact ⟨v, _, rfl, h1, trs_append h2 g⟩
theorem trs_nil {c : C4} {N : Addr → Prop} {H : Hp} : TrsIn c N H [] [] := by rw [TrsIn]
theorem trs_cons {c : C4} {N : Addr → Prop} {H : Hp} {t : Tr} {v : V} {ts : List Tr} {vs : List V} (h : TrIn c N H t v) (g : TrsIn c N H ts vs) : TrsIn c N H (t :: ts) (v :: vs) := by
  rw [TrsIn]; exact ⟨v, vs, rfl, h, g⟩
theorem trs_grow {c : C4} {H H1 H2 : Hp} {D : Addr} {ts : List Tr} {t : Tr} {ys : List V} {y : V} (hD : H1 D = some (.lst ys)) (s : Same H H1) (s2 : Same H1 H2) (h : TrsIn c (Fd H D) H1 ts ys) (g : TrIn c (Free H1) H2 t y) :
    TrsIn c (Fd H D) (upd H2 D (.lst (ys ++ [y]))) (ts ++ [t]) (ys ++ [y]) := by
  refine TrsIn.snoc (g.mono fun b o n e => ?_) (h.mono fun b o n e => ⟨n, by rw [upd_ne n.2]; exact s2 _ _ e⟩)
  have nb : b ≠ D := fun z => by rw [z] at n; rw [show H1 D = none from n] at hD; exact nomatch hD
  exact ⟨⟨s.free n, nb⟩, by rw [upd_ne nb]; exact e⟩
section
variable {P : Program} {w : World} {K : PySem.W.Frag} {mg : Str → Option Value} {base : Heap} {c : C4}
theorem scWordOf : FnScope ["name"] ["name"] (defScope sWordOf) := ⟨rfl, rfl, rfl, by decide +kernel, rfl, by decide +kernel, by decide +kernel⟩
theorem ok_wordOf {f fW fF fR : Addr} {fd fdW : FuncData} {t0 : Tok} (F : Fun K "word_of" "word_of" sWordOf f fd) (T : Tcs K mg c) (M : Mks K c fW fF fR)
    (GW : FnOk P w K mg base CX0 2 fW fdW ["self", "name", "at", "bits"] (spWI c)) (bW : Binds K fdW ["self", "name", "at", "bits"] [.int 0 t0]) : FnOk P w K mg base CX0 4 f fd ["name"] (spWordOf c) := by
  refine F.ok scWordOf (fun vs H Q E h => ?_) (fun cdv A outer s H vs Q E hr h => ?_)
  · obtain ⟨n, rfl, _⟩ := h; rfl
  · obtain ⟨n, rfl, q⟩ := h
    refine ⟨_, pss_one (ps_ret (pe_make M.w GW hr (by rfl) T.mgW bW (dvs := [.int 0]) (.cons ⟨t0, rfl⟩ .nil) pass0 (pa_cons (pv 0) (pa_cons pe_int pa_nil)))), ?_⟩
    refine ⟨_, rfl, ?_⟩
    intro x dx nx ndx nex
    refine ⟨x, dx, n, 0, 0, rfl, upd_same, rfl, ?_⟩
    rw [upd_upd]
    refine q _ _ (made_same nx ndx) ?_
    simp only [TrIn]
    exact ⟨x, dx, rfl, nx, upd_same⟩
theorem scRowOf : FnScope ["parts"] ["parts"] (defScope sRowOf) := ⟨rfl, rfl, rfl, by decide +kernel, rfl, by decide +kernel, by decide +kernel⟩
theorem ok_rowOf {f fW fF fR : Addr} {fd fdR : FuncData} (F : Fun K "row_of" "row_of" sRowOf f fd) (T : Tcs K mg c) (M : Mks K c fW fF fR)
    (GR : FnOk P w K mg base CX0 2 fR fdR ["self", "parts", "at"] (spRI c)) (bR : Binds K fdR ["self", "parts", "at"] []) : FnOk P w K mg base CX0 4 f fd ["parts"] (spRowOf c) := by
  refine F.ok scRowOf (fun vs H Q E h => ?_) (fun cdv A outer s H vs Q E hr h => ?_)
  · obtain ⟨l, us, ts, N, rfl, _⟩ := h; rfl
  · obtain ⟨l, us, ts, N, rfl, hl, hts, hN, hlen, q⟩ := h
    refine ⟨_, pss_one (ps_ret (pe_make M.r GR hr (by rfl) T.mgR bR .nil pass0 (pa_cons (pv 0) (pa_cons pe_int pa_nil)))), ?_⟩
    refine ⟨_, rfl, ?_⟩
    intro x dx nx ndx nex
    exact row_made2 hN hl hts hlen nx ndx fun H' s2 h2 => q H' _ s2 h2
theorem scHead : FnScope ["core", "names"] ["core", "names"] (defScope sHeadTrees) := ⟨rfl, rfl, rfl, by decide +kernel, rfl, by decide +kernel, by decide +kernel⟩
theorem lcHeadTrees1 : LcS (defScope sHeadTrees).names [(".0", .local), ("param", .local), ("word_of", .globalImplicit), ("names", .free)] ["core", "names"] [false, true] := ⟨by decide +kernel, by decide +kernel, by decide +kernel, by decide +kernel, by decide +kernel, rfl⟩
theorem ndHeadTrees1 : (["core", "names", "param"] : List Str).Nodup := by decide +kernel
theorem ok_headT {f fD fO : Addr} {fd fdD fdO : FuncData} (F : Fun K "head_trees" "head_trees" sHeadTrees f fd)
    (GD : FnOk P w K mg base CX0 4 fD fdD ["name"] (spWordOf c)) (FD : Fun K "word_of" "word_of" sWordOf fD fdD) (bD : Binds K fdD ["name"] []) (mD : mg "word_of" = some (.ref fD))
    (GO : FnOk P w K mg base CX0 4 fO fdO ["parts"] (spRowOf c)) (FO : Fun K "row_of" "row_of" sRowOf fO fdO) (bO : Binds K fdO ["parts"] []) (mO : mg "row_of" = some (.ref fO)) : FnOk P w K mg base CX0 5 f fd ["core", "names"] (spHead c) := by
  refine F.ok scHead (fun vs H Q E h => ?_) (fun cdv A outer s H vs Q E hr h => ?_)
  · obtain ⟨v, t, ks, dn, kvs, rfl, _⟩ := h; rfl
  · obtain ⟨v, t, ks, dn, kvs, rfl, hco, hrt, hdn, hnd, q⟩ := h
    have hu := hu_of hr
    refine ⟨_, pss_cons (ps_if (pt_cmpR op_eq (pe_ix ix_tup (pv 0) pe_int (fun _ _ => rfl)) pe_str (nomark _))
      (pss_one (ps_ret (pe_lst pa_nil)))
      pss_nil)
      (pss_cons (ps_if (pt_cmpR op_eq (pe_ix ix_tup (pv 0) pe_int (fun _ _ => rfl)) pe_str (nomark _))
      (pss_one (ps_ret (pe_lst (pa_cons (pe_call GD hr (by rfl) mD FD.kp bD .nil pass0 (pa_cons pe_str pa_nil)) (pa_cons (pe_call GO hr (by rfl) mO FO.kp bO .nil pass0 (pa_cons (pe_lc (ext := ["param"]) lcHeadTrees1 rfl (pi_tup (pe_ix ix_tup (pv 0) pe_int (fun _ _ => rfl)))
          ⟨fun _ _ _ _ _ => (pg_name (i := 2) ndHeadTrees1 rfl (Or.inl rfl) (.inr rfl)), fun _ _ _ _ _ => pts_nil, fun _ _ _ _ _ => (pe_call GD hr (by rfl) mD FD.kp bD .nil pass0 (pa_cons (pe_dget hu (pv 1) (pe_ix (ix_tup : IxR _ (rIxT K)) (pv 2) pe_int (fun _ _ => rfl)) (fun _ _ => rfl)) pa_nil))⟩) pa_nil)) pa_nil)))))
      pss_nil)
      (pss_one (ps_ret (pe_lst (pa_cons (pe_call GD hr (by rfl) mD FD.kp bD .nil pass0 (pa_cons (pe_ix ix_tup (pv 0) pe_int (fun _ _ => rfl)) pa_nil)) pa_nil))))), ?_⟩
    have z1 : 1 ≤ sizeLine := by rw [sizeLine_eq]; decide
    have z2 : 2 ≤ sizeLine := by rw [sizeLine_eq]; decide
    obtain ⟨a, us, rfl, hat, hks⟩ := hco.cut
    cases t with
    | num z => exact nomatch hrt
    | free z => exact nomatch hrt
    | seen z => exact nomatch hrt
    | call =>
      obtain ⟨u, f', as, e, ha, hu'⟩ := hat
      refine ⟨_, rfl, a, _, _, _, rfl, rfl, SqT.of ha, rfl, rfl, true, rfl, iteT ?_⟩
      refine ⟨Nat.zero_le _, fun D hD => ?_⟩
      exact q _ D [] (same_upd hD) hD upd_same trs_nil
    | pick =>
      obtain ⟨x1, x2, x3, e, ha⟩ := hat
      refine ⟨_, rfl, a, _, _, _, rfl, rfl, SqT.of ha, rfl, rfl, false, rfl, iteF ?_⟩
      refine ⟨_, rfl, a, _, _, _, rfl, rfl, SqT.of ha, rfl, rfl, false, rfl, iteF ?_⟩
      refine ⟨_, rfl, a, _, _, _, rfl, rfl, SqT.of ha, rfl, "pick", rfl, fun H1 x s1 hx => ⟨z1, fun D hD => ?_⟩⟩
      have s2 := same_upd (o := .lst [x]) hD
      exact q _ D [x] (s1.trans s2) (s1.free hD) upd_same (trs_cons (hx.same s2) trs_nil)
    | now =>
      obtain ⟨x1, e, ha⟩ := hat
      refine ⟨_, rfl, a, _, _, _, rfl, rfl, SqT.of ha, rfl, rfl, false, rfl, iteF ?_⟩
      refine ⟨_, rfl, a, _, _, _, rfl, rfl, SqT.of ha, rfl, rfl, false, rfl, iteF ?_⟩
      refine ⟨_, rfl, a, _, _, _, rfl, rfl, SqT.of ha, rfl, "now", rfl, fun H1 x s1 hx => ⟨z1, fun D hD => ?_⟩⟩
      have s2 := same_upd (o := .lst [x]) hD
      exact q _ D [x] (s1.trans s2) (s1.free hD) upd_same (trs_cons (hx.same s2) trs_nil)
    | fn ps =>
      obtain ⟨u, pv', b, e, ha, hu', hps⟩ := hat
      have hpl : ps.length ≤ 8 := hnd.1
      refine ⟨_, rfl, a, _, _, _, rfl, rfl, SqT.of ha, rfl, rfl, false, rfl, iteF ?_⟩
      refine ⟨_, rfl, a, _, _, _, rfl, rfl, SqT.of ha, rfl, rfl, true, rfl, iteT ?_⟩
      refine ⟨"fn", rfl, fun H1 x s1 hx => ?_⟩
      refine ⟨_, rfl, a, _, _, _, rfl, rfl, SqT.of (s1 _ _ ha), rfl, u, rfl, ⟨_, SqT.of (s1 _ _ hu')⟩, fun D hD => ?_⟩
      refine lc_tpl (K := K) (a := u) (xs := pv') (fun k ys σ' H' => (∃ v, σ' = [none, some (.ref dn), v]) ∧ Same H1 H' ∧ H' D = some (.lst ys) ∧ TrsIn c (Fd H1 D) H' ((ps.take k).map fun x => wd (nameK kvs x.1)) ys)
        ⟨⟨_, rfl⟩, same_upd hD, upd_same, trs_nil⟩ (fun k ys σ' H' _ hP => SqT.of (hP.2.1 _ _ (s1 _ _ hu'))) ?_ ?_
      · rintro k x' ys σ' H' hx' ⟨⟨v, rfl⟩, sH, hDy, hts⟩
        unfold gName
        refine yes_if ?_
        have hk := (List.getElem?_eq_some_iff.mp hx').1
        obtain ⟨⟨p, n⟩, ep, hp⟩ := hps.at hx'
        obtain ⟨t0, rfl, ht0⟩ := hp
        have hHas := (hnd.2 _ (List.mem_of_getElem? ep)).name
        have sT := s1.trans sH
        have hg := DGet.k (k := (.inl (some p) : Key)) (sT _ _ hdn)
        rw [show valV kvs (.inl (some p)) = some (.str (nameK kvs p)) from hHas.1] at hg
        refine ⟨_, rfl, _, rfl, t0, _, _, _, rfl, rfl, SqT.of (sT _ _ ht0), rfl, dn, _, rfl, hg, nameK kvs p, rfl, fun H2 y s2 hy => ?_⟩
        have hyl := hts.length
        rw [List.length_map, List.length_take] at hyl
        refine ⟨s2 _ _ hDy, by rw [sizeLine_eq]; lia, Beh.of hk ⟨⟨_, rfl⟩, fun e o qe => ?_, upd_same, ?_⟩⟩
        · rw [upd_ne (ne_of_none qe hD)]; exact s2 _ _ (sH _ _ qe)
        · rw [List.take_succ, ep, List.map_append]
          exact trs_grow hDy sH s2 hts hy
      · rintro ys σ' H3 ⟨_, s3, hDy, hts⟩
        rw [hps.1, List.take_length] at hts
        refine ⟨D, ys, _, Free H, rfl, hDy, hts.mono fun b o n e => ⟨s1.free n.1, e⟩, fun b hb => s1.free (s3.free hb), by rw [List.length_map]; lia, fun H4 y s4 hy => ⟨z2, fun D2 hD2 => ?_⟩⟩
        have s5 := same_upd (o := .lst [x, y]) hD2
        have s35 := (s3.trans s4).trans s5
        exact q _ D2 [x, y] (s1.trans s35) (s1.free (s3.free (s4.free hD2))) upd_same (trs_cons (hx.same s35) (trs_cons (hy.same s5) trs_nil))
end
end K75

set_option Elab.async false
set_option linter.all false
set_option maxRecDepth 100000
set_option maxHeartbeats 4000000
set_option exponentiation.threshold 3000
/-! k75: core_tree, item_tree, written. Own work. -/
namespace K75
open PySem L2 Builtin.Str TR SH
section
variable {P : Program} {w : World} {K : PySem.W.Frag} {mg : Str → Option Value} {base : Heap} {c : C4}
theorem scTreeC : FnScope ["core", "names"] ["core", "names"] (defScope sCoreTree) := ⟨rfl, rfl, rfl, by decide +kernel, rfl, by decide +kernel, by decide +kernel⟩
theorem lcCoreTree1 : LcS (defScope sCoreTree).names [(".0", .local), ("inner", .local), ("core_tree", .globalImplicit), ("names", .free)] ["core", "names"] [false, true] := ⟨by decide +kernel, by decide +kernel, by decide +kernel, by decide +kernel, by decide +kernel, rfl⟩
theorem ndCoreTree1 : (["core", "names", "inner"] : List Str).Nodup := by decide +kernel
/-- what core_tree calls -/
structure Calls (P : Program) (w : World) (K : PySem.W.Frag) (mg : Str → Option Value) (base : Heap) (c : C4) (fF fdF' fD fO fH fI : Addr) (fdF fdD fdO fdH fdI : FuncData) : Prop where
  GF : FnOk P w K mg base CX0 2 fF fdF ["self", "number", "at"] (spFI c)
  bF : Binds K fdF ["self", "number", "at"] []
  mF : Mk K c.F fF
  GD : FnOk P w K mg base CX0 4 fD fdD ["name"] (spWordOf c)
  kD : PySem.W.keepIn K (.ref fD) = true
  bD : Binds K fdD ["name"] []
  mD : mg "word_of" = some (.ref fD)
  GO : FnOk P w K mg base CX0 4 fO fdO ["parts"] (spRowOf c)
  kO : PySem.W.keepIn K (.ref fO) = true
  bO : Binds K fdO ["parts"] []
  mO : mg "row_of" = some (.ref fO)
  GH : FnOk P w K mg base CX0 5 fH fdH ["core", "names"] (spHead c)
  kH : PySem.W.keepIn K (.ref fH) = true
  bH : Binds K fdH ["core", "names"] []
  mH : mg "head_trees" = some (.ref fH)
  GI : FnOk P w K mg base CX0 1 fI fdI ["core"] spInner
  kI : PySem.W.keepIn K (.ref fI) = true
  bI : Binds K fdI ["core"] []
  mI : mg "inner_cores" = some (.ref fI)
theorem tree_step {d : Nat} {f fF g0 fD fO fH fI : Addr} {fd fdF fdD fdO fdH fdI : FuncData} {sp : Sp} (F : Fun K "core_tree" "core_tree" sCoreTree f fd) (T : Tcs K mg c) (S : Calls P w K mg base c fF g0 fD fO fH fI fdF fdD fdO fdH fdI)
    (GC : FnOk P w K mg base CX0 (d + 5) f fd ["core", "names"] sp) (bC : Binds K fd ["core", "names"] []) (mC : mg "core_tree" = some (.ref f)) (hsp : ∀ e, d = e + 1 → sp = spTreeC c e) : FnOk P w K mg base CX0 (d + 6) f fd ["core", "names"] (spTreeC c d) := by
  refine F.ok scTreeC (fun vs H Q E h => ?_) (fun cdv A outer s H vs Q E hr h => ?_)
  · obtain ⟨v, co, dn, kvs, rfl, _⟩ := h; rfl
  · obtain ⟨v, co, dn, kvs, rfl, hco, hdn, hnd, hdp, q⟩ := h
    have hu := hu_of hr
    have hr1 : Room 1 _ := hr.mono (by lia)
    have hr3 : Room 3 _ := hr.mono (by lia)
    have hr4 : Room 4 _ := hr.mono (by lia)
    have hr5 : Room 5 _ := hr.mono (by lia)
    refine ⟨_, pss_cons (ps_if (pt_cmpR op_eq (pe_ix ix_tup (pv 0) pe_int (fun _ _ => rfl)) pe_str (nomark _))
      (pss_one (ps_ret (pe_make S.mF S.GF hr3 (by rfl) T.mgF S.bF .nil pass0 (pa_cons (pe_ix ix_tup (pv 0) pe_int (fun _ _ => rfl)) (pa_cons pe_int pa_nil)))))
      pss_nil)
      (pss_cons (ps_if (pt_cmpR op_eq (pe_ix ix_tup (pv 0) pe_int (fun _ _ => rfl)) pe_str (nomark _))
      (pss_one (ps_ret (pe_call S.GD hr4 (by rfl) S.mD S.kD S.bD .nil pass0 (pa_cons (pe_ix ix_tup (pv 0) pe_int (fun _ _ => rfl)) pa_nil))))
      pss_nil)
      (pss_cons (ps_if (pt_cmpR op_eq (pe_ix ix_tup (pv 0) pe_int (fun _ _ => rfl)) pe_str (nomark _))
      (pss_one (ps_ret (pe_call S.GD hr4 (by rfl) S.mD S.kD S.bD .nil pass0 (pa_cons (pe_dget hu (pv 1) (pe_ix ix_tup (pv 0) pe_int (fun _ _ => rfl)) (fun _ _ => rfl)) pa_nil))))
      pss_nil)
      (pss_one (ps_ret (pe_call S.GO hr4 (by rfl) S.mO S.kO S.bO .nil pass0 (pa_cons (pe_op op_cat (pe_call S.GH hr5 (by rfl) S.mH S.kH S.bH .nil pass0 (pa_cons (pv 0) (pa_cons (pv 1) pa_nil))) (pe_lc (ext := ["inner"]) lcCoreTree1 rfl (pi_list (pe_call S.GI hr1 (by rfl) S.mI S.kI S.bI .nil pass0 (pa_cons (pv 0) pa_nil)))
          ⟨fun _ _ _ _ _ => (pg_name (i := 2) ndCoreTree1 rfl (Or.inl rfl) (.inr rfl)), fun _ _ _ _ _ => pts_nil, fun _ _ _ _ _ => (pe_call GC hr (by rfl) mC F.kp bC .nil pass0 (pa_cons (pv 2) (pa_cons (pv 1) pa_nil)))⟩)) pa_nil)))))), ?_⟩
    obtain ⟨t, ks⟩ := co
    obtain ⟨a, us, rfl, hat, hks⟩ := hco.cut
    by_cases hrt : rowT t = true
    · obtain ⟨r, ha⟩ := hat.first (K := K)
      refine ⟨_, rfl, a, _, _, _, rfl, rfl, SqT.of ha, atI_nat (j := 0) rfl, rfl, false, (by cases t <;> first | rfl | exact nomatch hrt), iteF ?_⟩
      refine ⟨_, rfl, a, _, _, _, rfl, rfl, SqT.of ha, atI_nat (j := 0) rfl, rfl, false, (by cases t <;> first | rfl | exact nomatch hrt), iteF ?_⟩
      refine ⟨_, rfl, a, _, _, _, rfl, rfl, SqT.of ha, atI_nat (j := 0) rfl, rfl, false, (by cases t <;> first | rfl | exact nomatch hrt), iteF ?_⟩
      have hnd0 := hnd
      unfold Nd at hnd0
      rw [dp_mk] at hdp
      refine ⟨_, rfl, _, rfl, .ref a, t, ks, dn, kvs, rfl, hco, hrt, hdn, hnd0.1, fun H1 D1 us1 s1 hD1 hD11 htr => ?_⟩
      refine ⟨_, rfl, .ref a, t, ks, rfl, hco.tup (Tup.of s1), by lia, fun H2 L xs s2 hL hL2 hxs => ?_⟩
      refine ⟨L, rfl, ⟨_, SqL.of hL2⟩, fun D hD => ?_⟩
      have s12 := s1.trans s2
      refine lc_grow (xs := xs) (fun k ys H' => TrsIn c (Fd H2 D) H' ((ks.take k).map (treeC kvs)) ys) hD (SqL.of hL2) (by rw [hxs.1, sizeLine_eq]; lia) trs_nil (fun k x v ys H' R hx hy hS hDD hP hR => ?_) (fun ys H' hy hS hDD hP => ?_)
      · obtain ⟨kid, ek, hkid⟩ := hxs.at hx
        have hkm := List.mem_of_getElem? ek
        have hkd := dp_kid hkm
        obtain ⟨e, rfl⟩ : ∃ e, d = e + 1 := ⟨d - 1, by lia⟩
        rw [hsp e rfl]
        have sT := s12.trans hS
        refine ⟨_, rfl, _, rfl, x, kid, dn, kvs, rfl, hkid.tup (Tup.of hS), sT _ _ hdn, Nds.mem hnd0.2.2 hkm, by lia, fun H3 y s3 hy3 => hR y H3 s3 ?_⟩
        rw [List.take_succ, ek, List.map_append]
        exact trs_grow hDD hS s3 hP hy3
      · rw [hxs.1, List.take_length] at hP
        have s13 := s2.trans hS
        have hD1' := s13 _ _ hD11
        have hkl : (ks.map (treeC kvs)).length ≤ 4 := by rw [List.length_map]; exact hnd0.2.1
        have hhl : (headT kvs t).length ≤ 2 := by cases t <;> simp [headT]
        have e1 := htr.length
        have e2 := hP.length
        refine ⟨D1, D, us1, ys, rfl, rfl, hD1', hDD, by rw [sizeLine_eq]; lia, fun p hp => ?_⟩
        have s4 := same_upd (o := .lst (us1 ++ ys)) hp
        refine ⟨p, _, headT kvs t ++ ks.map (treeC kvs), Free H, rfl, upd_same, trs_append (htr.mono fun b o n e => ⟨n, s4 _ _ (s13 _ _ e)⟩) (hP.mono fun b o n e => ⟨s12.free n.1, s4 _ _ e⟩), fun b hb => ?_, by rw [List.length_append]; lia, fun H5 x s5 hx => ?_⟩
        · exact s12.free (hS.free (s4.free hb))
        · refine q _ _ (((s12.trans hS).trans s4).trans s5) ?_
          rw [treeC_row kvs hrt]
          exact hx
    cases t with
    | num z =>
      obtain ⟨e, ha⟩ := hat
      refine ⟨_, rfl, a, _, _, _, rfl, rfl, SqT.of ha, rfl, rfl, true, rfl, iteT ?_⟩
      refine ⟨_, rfl, a, _, _, _, rfl, rfl, SqT.of ha, rfl, ?_⟩
      intro x dx nx ndx nex
      refine ⟨x, dx, z, 0, rfl, upd_same, rfl, ?_⟩
      rw [upd_upd]
      refine q _ _ (made_same nx ndx) ?_
      simp only [treeC, TrIn]
      exact ⟨x, dx, rfl, nx, upd_same⟩
    | free n =>
      obtain ⟨e, ha⟩ := hat
      refine ⟨_, rfl, a, _, _, _, rfl, rfl, SqT.of ha, rfl, rfl, false, rfl, iteF ?_⟩
      refine ⟨_, rfl, a, _, _, _, rfl, rfl, SqT.of ha, rfl, rfl, true, rfl, iteT ?_⟩
      refine ⟨_, rfl, a, _, _, _, rfl, rfl, SqT.of ha, rfl, n, rfl, fun H1 x s1 hx => q _ _ s1 ?_⟩
      simp only [treeC]; exact hx
    | seen p =>
      obtain ⟨e, ha⟩ := hat
      unfold Nd at hnd
      have hHas := Has.name hnd.1
      have hg := DGet.k (k := (.inl (some p) : Key)) hdn
      rw [show valV kvs (.inl (some p)) = some (.str (nameK kvs p)) from hHas.1] at hg
      refine ⟨_, rfl, a, _, _, _, rfl, rfl, SqT.of ha, rfl, rfl, false, rfl, iteF ?_⟩
      refine ⟨_, rfl, a, _, _, _, rfl, rfl, SqT.of ha, rfl, rfl, false, rfl, iteF ?_⟩
      refine ⟨_, rfl, a, _, _, _, rfl, rfl, SqT.of ha, rfl, rfl, true, rfl, iteT ?_⟩
      refine ⟨_, rfl, _, rfl, a, _, _, _, rfl, rfl, SqT.of ha, rfl, dn, _, rfl, hg, nameK kvs p, rfl, fun H1 x s1 hx => q _ _ s1 ?_⟩
      simp only [treeC]; exact hx
    | _ => exact absurd rfl hrt
theorem ok_treeF {f fF g0 fD fO fH fI : Addr} {fd fdF fdD fdO fdH fdI : FuncData} (F : Fun K "core_tree" "core_tree" sCoreTree f fd) (T : Tcs K mg c) (S : Calls P w K mg base c fF g0 fD fO fH fI fdF fdD fdO fdH fdI)
    (bC : Binds K fd ["core", "names"] []) (mC : mg "core_tree" = some (.ref f)) : ∀ d, FnOk P w K mg base CX0 (d + 6) f fd ["core", "names"] (spTreeC c d)
  | 0 => tree_step F T S fn_no bC mC fun e h => nomatch h
  | d + 1 => tree_step F T S (ok_treeF F T S bC mC d) bC mC fun e h => by injection h with h; rw [h]
def spTreeI (c : C4) : Sp := fun vs H Q _ => ∃ (v : V) (it : It) (dn : Addr) (kvs : List (Key × V)), vs = [v, .ref dn] ∧ ItIn H it v ∧ H dn = some (.dK kvs) ∧ Nd kvs it.core ∧ (∀ x, it.top = some x → Has kvs x.1) ∧ dp it.core ≤ 6 ∧
  ∀ (H' : Hp) (x : V), Same H H' → TrIn c (Free H) H' (treeI kvs it) x → Q x H'
theorem scTreeI : FnScope ["item", "names", "told"] ["item", "names"] (defScope sItemTree) := ⟨rfl, rfl, rfl, by decide +kernel, rfl, by decide +kernel, by decide +kernel⟩
theorem ok_treeI {f fC fF g0 fD fO fH fI : Addr} {fd fdC fdF fdD fdO fdH fdI : FuncData} (F : Fun K "item_tree" "item_tree" sItemTree f fd) (S : Calls P w K mg base c fF g0 fD fO fH fI fdF fdD fdO fdH fdI)
    (GC : FnOk P w K mg base CX0 12 fC fdC ["core", "names"] (spTreeC c 6)) (kC : PySem.W.keepIn K (.ref fC) = true) (bC : Binds K fdC ["core", "names"] []) (mC : mg "core_tree" = some (.ref fC)) : FnOk P w K mg base CX0 13 f fd ["item", "names"] (spTreeI c) := by
  refine F.ok scTreeI (fun vs H Q E h => ?_) (fun cdv A outer s H vs Q E hr h => ?_)
  · obtain ⟨v, it, dn, kvs, rfl, _⟩ := h; rfl
  · obtain ⟨v, it, dn, kvs, rfl, hit, hdn, hnd, htp, hdp, q⟩ := h
    have hu := hu_of hr
    have nd := scTreeI.nd
    have hr4 : Room 4 _ := hr.mono (by lia)
    have z1 : 1 ≤ sizeLine := by rw [sizeLine_eq]; decide
    have z2 : 2 ≤ sizeLine := by rw [sizeLine_eq]; decide
    refine ⟨_, pss_cons (ps_set (i := 2) nd rfl (Or.inl rfl) (pe_ifExp (pt_cmpR op_eq (pe_ix ix_tup (pv 0) pe_int (fun _ _ => rfl)) pe_str (nomark _))
        (pe_lst (pa_cons (pe_call S.GD hr4 (by rfl) S.mD S.kD S.bD .nil pass0 (pa_cons pe_str pa_nil)) (pa_cons (pe_call S.GD hr4 (by rfl) S.mD S.kD S.bD .nil pass0 (pa_cons (pe_dget hu (pv 1) (pe_ix ix_tup (pv 0) pe_int (fun _ _ => rfl)) (fun _ _ => rfl)) pa_nil)) pa_nil)))
        (pe_lst (pa_cons (pe_call S.GD hr4 (by rfl) S.mD S.kD S.bD .nil pass0 (pa_cons pe_str pa_nil)) pa_nil))))
      (pss_one (ps_ret (pe_call S.GO hr4 (by rfl) S.mO S.kO S.bO .nil pass0 (pa_cons (pe_op op_cat (pv 2) (pe_lst (pa_cons (pe_call GC hr (by rfl) mC kC bC .nil pass0 (pa_cons (pe_ix ix_tup (pv 0) (pe_un un_neg pe_int) (fun _ _ => rfl)) (pa_cons (pv 1) pa_nil))) pa_nil))) pa_nil)))), ?_⟩
    cases it with
    | defi p n co =>
      obtain ⟨t, cv, rfl, ht, hc⟩ := hit
      have hHas := (htp _ rfl).name
      refine ⟨_, rfl, t, _, _, _, rfl, rfl, SqT.of ht, rfl, rfl, true, rfl, iteT ?_⟩
      refine ⟨"def", rfl, fun H1 x1 s1 h1 => ?_⟩
      have hg := DGet.k (k := (.inl (some p) : Key)) (s1 _ _ hdn)
      rw [show valV kvs (.inl (some p)) = some (.str (nameK kvs p)) from hHas.1] at hg
      refine ⟨_, rfl, _, rfl, t, _, _, _, rfl, rfl, SqT.of (s1 _ _ ht), rfl, dn, _, rfl, hg, nameK kvs p, rfl, fun H2 x2 s2 h2 => ⟨z2, fun D hD => ?_⟩⟩
      have s3 := same_upd (o := .lst [x1, x2]) hD
      have hD3 : upd H2 D (.lst [x1, x2]) D = some (.lst [x1, x2]) := upd_same
      have h1' := h1.same (s2.trans s3)
      have h2' := h2.same s3
      have sA := (s1.trans s2).trans s3
      generalize upd H2 D (.lst [x1, x2]) = H3 at s3 hD3 h1' h2' sA ⊢
      refine ⟨_, rfl, _, rfl, _, rfl, t, _, _, _, rfl, rfl, SqT.of (sA _ _ ht), rfl, _, rfl, cv, co, dn, kvs, rfl, hc.tup (Tup.of sA), sA _ _ hdn, hnd, hdp, fun H4 x3 s4 h4 => ⟨z1, fun D2 hD2 => ?_⟩⟩
      have s5 := same_upd (o := .lst [x3]) hD2
      refine ⟨D, D2, _, _, rfl, rfl, s5 _ _ (s4 _ _ hD3), upd_same, by rw [sizeLine_eq]; simp, fun p' hp' => ?_⟩
      have s6 := same_upd (o := .lst ([x1, x2] ++ [x3])) hp'
      have s46 := (s4.trans s5).trans s6
      refine ⟨p', _, [wd "def", wd (nameK kvs p), treeC kvs co], Free H, rfl, upd_same, trs_cons (h1'.same s46) (trs_cons ((h2'.mono fun b o n e => ⟨s1.free n, e⟩).same s46) (trs_cons ((h4.mono fun b o n e => ⟨sA.free n, e⟩).same (s5.trans s6)) trs_nil)), fun b hb => sA.free (s46.free hb), by simp, fun H7 x s7 hx => q _ _ ((sA.trans s46).trans s7) hx⟩
    | shw co =>
      obtain ⟨t, cv, rfl, ht, hc⟩ := hit
      refine ⟨_, rfl, t, _, _, _, rfl, rfl, SqT.of ht, rfl, rfl, false, rfl, iteF ?_⟩
      refine ⟨"show", rfl, fun H1 x1 s1 h1 => ⟨z1, fun D hD => ?_⟩⟩
      have s3 := same_upd (o := .lst [x1]) hD
      have hD3 : upd H1 D (.lst [x1]) D = some (.lst [x1]) := upd_same
      have h1' := h1.same s3
      have sA := s1.trans s3
      generalize upd H1 D (.lst [x1]) = H3 at s3 hD3 h1' sA ⊢
      refine ⟨_, rfl, _, rfl, _, rfl, t, _, _, _, rfl, rfl, SqT.of (sA _ _ ht), rfl, _, rfl, cv, co, dn, kvs, rfl, hc.tup (Tup.of sA), sA _ _ hdn, hnd, hdp, fun H4 x3 s4 h4 => ⟨z1, fun D2 hD2 => ?_⟩⟩
      have s5 := same_upd (o := .lst [x3]) hD2
      refine ⟨D, D2, _, _, rfl, rfl, s5 _ _ (s4 _ _ hD3), upd_same, by rw [sizeLine_eq]; simp, fun p' hp' => ?_⟩
      have s6 := same_upd (o := .lst ([x1] ++ [x3])) hp'
      have s46 := (s4.trans s5).trans s6
      refine ⟨p', _, [wd "show", treeC kvs co], Free H, rfl, upd_same, trs_cons (h1'.same s46) (trs_cons ((h4.mono fun b o n e => ⟨sA.free n, e⟩).same (s5.trans s6)) trs_nil), fun b hb => sA.free (s46.free hb), by simp, fun H7 x s7 hx => q _ _ ((sA.trans s46).trans s7) hx⟩
def spWritten (c : C4) : Sp := fun vs H Q _ => ∃ (l : Addr) (its : List It) (iv : List V), vs = [.ref l] ∧ H l = some (.lst iv) ∧ Al (ItIn H) its iv ∧ Wri its ∧
  ∀ (H' : Hp) (z : Str) (kvs : List (Key × V)), Nam its kvs → cpl z = tt (treeW kvs its) → Same H H' → Q (.str z) H'
theorem treeI_ok {kvs : List (Key × V)} {it : It} (h : Nd kvs it.core) (ht : ∀ x, it.top = some x → Has kvs x.1) : okT (treeI kvs it) ∧ deep (treeI kvs it) ≤ dp it.core + 2 ∧ (signsT (treeI kvs it)).length ≤ sg it.core + 4 := by
  cases it with
  | defi p n co =>
    have h1 := deep_treeC kvs co
    have h2 := sg_treeC kvs co
    refine ⟨ok_row (ok_cons (ok_wd nm_of) (ok_cons (ok_wd (ht _ rfl).name.2) (ok_cons (ok_treeC h) ok_nil))), ?_, ?_⟩
    · simp only [treeI, deep, deeps, It.core]; lia
    · simp only [treeI, signs_row, signsTs, List.length_append, signsT, List.length_cons, List.length_nil, It.core]; lia
  | shw co =>
    have h1 := deep_treeC kvs co
    have h2 := sg_treeC kvs co
    refine ⟨ok_row (ok_cons (ok_wd nm_of) (ok_cons (ok_treeC h) ok_nil)), ?_, ?_⟩
    · simp only [treeI, deep, deeps, It.core]; lia
    · simp only [treeI, signs_row, signsTs, List.length_append, signsT, List.length_cons, List.length_nil, It.core]; lia
theorem treeIs_ok {kvs : List (Key × V)} : ∀ {its : List It}, (∀ it ∈ its, Nd kvs it.core ∧ (∀ x, it.top = some x → Has kvs x.1) ∧ dp it.core ≤ 6) → okTs (its.map (treeI kvs)) ∧ deeps (its.map (treeI kvs)) ≤ 8 ∧ (signsTs (its.map (treeI kvs))).length ≤ (its.map fun it => sg it.core).sum + 4 * its.length
  | [], _ => ⟨ok_nil, by simp [deeps], by simp [signsTs]⟩
  | it :: its, h => by
    obtain ⟨a1, a2, a3⟩ := h it (List.mem_cons_self ..)
    obtain ⟨b1, b2, b3⟩ := treeI_ok a1 a2
    obtain ⟨c1, c2, c3⟩ := treeIs_ok (its := its) fun x hx => h x (List.mem_cons_of_mem _ hx)
    refine ⟨ok_cons b1 c1, ?_, ?_⟩
    · rw [List.map_cons, deeps]; lia
    · rw [List.map_cons, signsTs, List.length_append, List.map_cons, List.sum_cons, List.length_cons]; lia
theorem treeW_ok {kvs : List (Key × V)} {its : List It} (hW : Wri its) (h : ∀ it ∈ its, Nd kvs it.core ∧ (∀ x, it.top = some x → Has kvs x.1) ∧ dp it.core ≤ 6) : okT (treeW kvs its) ∧ deep (treeW kvs its) ≤ 61 ∧ (signsT (treeW kvs its)).length ≤ 60000 := by
  obtain ⟨h1, h2, h3⟩ := treeIs_ok h
  have := hW.sg
  have := hW.len
  refine ⟨ok_row (ok_cons (ok_wd nm_of) (ok_cons (ok_wd nm_of) h1)), ?_, ?_⟩
  · unfold treeW
    rw [deep, deeps_append]
    simp only [deeps, deep]
    lia
  · unfold treeW
    rw [signs_row, signsTs_append, List.length_append]
    simp only [signsTs, signsT, List.length_append, List.length_cons, List.length_nil]
    lia
theorem scWritten : FnScope ["items", "names"] ["items"] (defScope sWritten) := ⟨rfl, rfl, rfl, by decide +kernel, rfl, by decide +kernel, by decide +kernel⟩
theorem lcWritten1 : LcS (defScope sWritten).names [(".0", .local), ("item", .local), ("item_tree", .globalImplicit), ("names", .free)] ["items", "names"] [false, true] := ⟨by decide +kernel, by decide +kernel, by decide +kernel, by decide +kernel, by decide +kernel, rfl⟩
theorem ndWritten1 : (["items", "names", "item"] : List Str).Nodup := by decide +kernel
theorem ok_written {f fE fN fS fF g0 fD fO fH fI : Addr} {fd fdE fdN fdS fdF fdD fdO fdH fdI : FuncData} (F : Fun K "written" "written" sWritten f fd) (S : Calls P w K mg base c fF g0 fD fO fH fI fdF fdD fdO fdH fdI)
    (GE : FnOk P w K mg base CX0 13 fE fdE ["item", "names"] (spTreeI c)) (kE : PySem.W.keepIn K (.ref fE) = true) (bE : Binds K fdE ["item", "names"] []) (mE : mg "item_tree" = some (.ref fE))
    (GN : FnOk P w K mg base CX0 3 fN fdN ["items"] spNames) (kN : PySem.W.keepIn K (.ref fN) = true) (bN : Binds K fdN ["items"] []) (mN : mg "names_of" = some (.ref fN))
    (GS : FnOk P w K mg base CX0 64 fS fdS ["tree"] (spShown c)) (kS : PySem.W.keepIn K (.ref fS) = true) (bS : Binds K fdS ["tree"] []) (mS : mg "shown" = some (.ref fS)) : FnOk P w K mg base CX0 65 f fd ["items"] (spWritten c) := by
  refine F.ok scWritten (fun vs H Q E h => ?_) (fun cdv A outer s H vs Q E hr h => ?_)
  · obtain ⟨l, its, iv, rfl, _⟩ := h; rfl
  · obtain ⟨l, its, iv, rfl, hl, hal, hW, q⟩ := h
    have nd := scWritten.nd
    have hr3 : Room 3 _ := hr.mono (by lia)
    have hr4 : Room 4 _ := hr.mono (by lia)
    have hr13 : Room 13 _ := hr.mono (by lia)
    have z2 : 2 ≤ sizeLine := by rw [sizeLine_eq]; decide
    refine ⟨_, pss_cons (ps_set (i := 1) nd rfl (Or.inr rfl) (pe_call GN hr3 (by rfl) mN kN bN .nil pass0 (pa_cons (pv 0) pa_nil)))
      (pss_one (ps_ret (pe_call GS hr (by rfl) mS kS bS .nil pass0 (pa_cons (pe_call S.GO hr4 (by rfl) S.mO S.kO S.bO .nil pass0 (pa_cons (pe_op op_cat (pe_lst (pa_cons (pe_call S.GD hr4 (by rfl) S.mD S.kD S.bD .nil pass0 (pa_cons pe_str pa_nil)) (pa_cons (pe_call S.GD hr4 (by rfl) S.mD S.kD S.bD .nil pass0 (pa_cons pe_str pa_nil)) pa_nil))) (pe_lc (ext := ["item"]) lcWritten1 rfl (pi_list (pv 0))
          ⟨fun _ _ _ _ _ => (pg_name (i := 2) ndWritten1 rfl (Or.inl rfl) (.inr rfl)), fun _ _ _ _ _ => pts_nil, fun _ _ _ _ _ => (pe_call GE hr13 (by rfl) mE kE bE .nil pass0 (pa_cons (pv 2) (pa_cons (pv 1) pa_nil)))⟩)) pa_nil)) pa_nil)))), ?_⟩
    refine ⟨_, rfl, l, its, iv, rfl, hl, hal, hW.ok, fun H1 dn r U kvs hNT hFN hdn s1 hdnH => ?_⟩
    have hNam : Nam its kvs := ⟨r, U, hNT, hFN⟩
    have hall := hW.all kvs hNam
    refine ⟨"part", rfl, fun H2 x1 s2 h1 => ⟨"main", rfl, fun H3 x2 s3 h2 => ⟨z2, fun D hD => ?_⟩⟩⟩
    have s4 := same_upd (o := .lst [x1, x2]) hD
    have hD4 : upd H3 D (.lst [x1, x2]) D = some (.lst [x1, x2]) := upd_same
    have h1' := h1.same (s3.trans s4)
    have h2' := h2.same s4
    have sA := ((s1.trans s2).trans s3).trans s4
    have sB := (s2.trans s3).trans s4
    generalize upd H3 D (.lst [x1, x2]) = H4 at s4 hD4 h1' h2' sA sB ⊢
    refine ⟨_, rfl, l, rfl, ⟨_, SqL.of (sA _ _ hl)⟩, fun L hL => ?_⟩
    refine lc_grow (xs := iv) (fun k ys H' => TrsIn c (Fd H4 L) H' ((its.take k).map (treeI kvs)) ys) hL (SqL.of (sA _ _ hl)) (by have := hW.len; rw [hal.1, sizeLine_eq]; lia) trs_nil (fun k x v ys H' R hx hy hS hDD hP hR => ?_) (fun ys H' hy hS hDD hP => ?_)
    · obtain ⟨it, ek, hit⟩ := hal.at hx
      have hkm := List.mem_of_getElem? ek
      obtain ⟨a1, a2, a3⟩ := hall it hkm
      refine ⟨_, rfl, _, rfl, x, it, dn, kvs, rfl, hit.tup (Tup.of (sA.trans hS)), (sB.trans hS) _ _ hdn, a1, a2, a3, fun H5 y s5 hy5 => hR y H5 s5 ?_⟩
      rw [List.take_succ, ek, List.map_append]
      exact trs_grow hDD hS s5 hP hy5
    · rw [hal.1, List.take_length] at hP
      have e2 := hP.length
      rw [List.length_map] at e2
      have hil := hW.len
      refine ⟨D, L, _, ys, rfl, rfl, hS _ _ hD4, hDD, by rw [sizeLine_eq]; show 2 + ys.length ≤ _; lia, fun p hp => ?_⟩
      have s6 := same_upd (o := .lst ([x1, x2] ++ ys)) hp
      have s56 := hS.trans s6
      refine ⟨p, _, [wd "part", wd "main"] ++ its.map (treeI kvs), All, rfl, upd_same, trs_append (trs_cons (h1'.all.same s56) (trs_cons (h2'.all.same s56) trs_nil)) (hP.mono fun b o n e => ⟨trivial, s6 _ _ e⟩), fun b hb => trivial, by rw [List.length_append, List.length_map]; show 2 + _ ≤ _; lia, fun H7 x s7 hx => ?_⟩
      obtain ⟨o1, o2, o3⟩ := treeW_ok hW hall
      refine ⟨x, treeW kvs its, rfl, hx, o2, o1, o3, fun H8 z s8 hz => q H8 z kvs hNam (by rw [hz, text_is o1]) (((sA.trans s56).trans s7).trans s8)⟩
end
end K75

set_option Elab.async false
set_option linter.all false
set_option maxRecDepth 100000
set_option maxHeartbeats 4000000
/-! any list == []. Own work. -/
namespace L2
open PySem PySem.Spec PyProof.Rows SI
section
variable {X : Cx}
end
end L2

set_option Elab.async false
set_option linter.all false
set_option maxRecDepth 100000
set_option maxHeartbeats 4000000
/-! Rules that speak of the heap alone, in fewer words. Own work. -/
namespace L2
open PySem PySem.Spec PyProof.Rows
section
variable {X : Cx}
end
end L2
namespace Z
open PySem L2
variable {X : Cx}
end Z

set_option Elab.async false
set_option linter.all false
set_option maxRecDepth 100000
set_option maxHeartbeats 4000000
/-! Readings that come to their values by themselves: names, ints in operators, tests, fields. Own work. -/
namespace L2
open PySem PySem.Spec PyProof.Rows
section
variable {X : Cx}
/-! what stands there, if it does -/
def vr : V → (Addr → Prop) → Prop
  | .ref p, f => f p
  | _, _ => False
def an : Option V → Prop → Prop
  | none, P => P
  | some _, _ => False
def bk : V → (Bool → Prop) → Prop
  | .bl k, f => f k
  | _, _ => False
/-! names -/
/-! operators of ints -/
/-! fields, methods of a name -/
def one : List V → (V → Prop) → Prop
  | [y], f => f y
  | _, _ => False
/-! tests of words -/
end
end L2
namespace Z
open PySem L2
variable {X : Cx}
end Z

set_option Elab.async false
set_option linter.all false
set_option maxRecDepth 100000
set_option maxHeartbeats 4000000
set_option exponentiation.threshold 3000
/-! k75: the law's cells, draws, pools, places, leaves. Own work. -/
namespace K75
open PySem L2 Builtin.Str TR SH
theorem bt_tuple' : bootBuiltins "tuple" = some (.type "tuple") := by decide +kernel
theorem atI_mem {α : Type} {xs : List α} {i : Int} (h0 : 0 ≤ i) (h : i < xs.length) : ∃ c, atI xs i = some c ∧ c ∈ xs := by
  have hk : i.toNat < xs.length := by lia
  refine ⟨xs[i.toNat], ?_, List.getElem_mem hk⟩
  unfold atI ixN
  rw [if_pos h0, if_pos h]
  exact List.getElem?_eq_getElem hk
theorem at_int {cs : List Int} {i : Nat} (h : i < cs.length) : atI (cs.map V.int) (i : Int) = some (.int cs[i]) := atI_nat (by rw [List.getElem?_map, List.getElem?_eq_getElem h]; rfl)
theorem at_mod {α : Type} {xs : List α} (z : Int) {n : Nat} (hn : xs.length = n) (h : 0 < n) : ∃ c, atI xs (z % (n : Int)) = some c ∧ c ∈ xs := by
  have g0 := Int.emod_nonneg z (show (n : Int) ≠ 0 by lia)
  have g1 := Int.emod_lt_of_pos z (show (0 : Int) < n by lia)
  exact atI_mem g0 (by rw [hn]; exact g1)
theorem sg_at (i : Int) (n : Nat) (h0 : 0 < n) (hn : n ≤ 36) : ∃ c : Nat, atI (cpl ("abcdefghijklmnopqrstuvwxyz0123456789" : Str)) (i % (n : Int)) = some c ∧ Pl ⟨#[c]⟩ := by
  have g0 := Int.emod_nonneg i (show (n : Int) ≠ 0 by lia)
  have g1 := Int.emod_lt_of_pos i (show (0 : Int) < n by lia)
  obtain ⟨c, ec, hc⟩ := atI_mem (xs := cpl ("abcdefghijklmnopqrstuvwxyz0123456789" : Str)) (i := i % (n : Int)) g0 (by rw [show (cpl ("abcdefghijklmnopqrstuvwxyz0123456789" : Str)).length = 36 from by decide]; lia)
  refine ⟨c, ec, ?_, fun e => nomatch e⟩
  have h : ∀ k ∈ cpl ("abcdefghijklmnopqrstuvwxyz0123456789" : Str), k ≠ 32 ∧ k ≠ 10 ∧ k ≠ 40 ∧ k ≠ 41 := by decide
  intro k hk
  rw [List.mem_singleton.mp (show k ∈ [c] from hk)]
  exact h c hc
def ifBody : Stmt → List Stmt
  | .If _ b _ _ => b
  | _ => []
/-! ### places -/
def pl (k : Int) : Int := k + 2 - 2 * (k % 2)
theorem pl_inj {a b : Int} (h : pl a = pl b) : a = b := by unfold pl at h; lia
def PB (c c' : Int) (ps : List (Int × Str)) : Prop := (ps.map (·.1)).Nodup ∧ ∀ x ∈ ps, x.2.length ≤ 100 ∧ ∃ k : Int, c ≤ k ∧ k < c' ∧ x.1 = pl k
theorem PB.nil {c c' : Int} : PB c c' [] := ⟨List.nodup_nil, fun x hx => nomatch hx⟩
theorem PB.mono {c1 c2 d1 d2 : Int} {ps : List (Int × Str)} (h : PB c1 c2 ps) (h1 : d1 ≤ c1) (h2 : c2 ≤ d2) : PB d1 d2 ps := ⟨h.1, fun x hx => by
  obtain ⟨a, k, k1, k2, e⟩ := h.2 x hx
  exact ⟨a, k, by lia, by lia, e⟩⟩
theorem PB.append {c1 c2 c3 : Int} {ps qs : List (Int × Str)} (h : PB c1 c2 ps) (g : PB c2 c3 qs) (h1 : c1 ≤ c2) (h2 : c2 ≤ c3) : PB c1 c3 (ps ++ qs) := by
  refine ⟨?_, fun x hx => ?_⟩
  · rw [List.map_append, List.nodup_append]
    refine ⟨h.1, g.1, fun a ha b hb e => ?_⟩
    obtain ⟨x, hx, rfl⟩ := List.mem_map.mp ha
    obtain ⟨y, hy, rfl⟩ := List.mem_map.mp hb
    obtain ⟨_, k, k1, k2, e1⟩ := h.2 x hx
    obtain ⟨_, l, l1, l2, e2⟩ := g.2 y hy
    have e' : pl k = pl l := by rw [← e1, ← e2]; exact e
    have := pl_inj e'
    lia
  · rcases List.mem_append.mp hx with hx | hx
    · exact (h.mono (Int.le_refl _) h2).2 x hx
    · exact (g.mono h1 (Int.le_refl _)).2 x hx
/-- places told one behind the other -/
def plsAt (c : Int) (m : Nat) : List Int := (List.range m).map fun i : Nat => pl (c + (i : Int))
theorem plsAt_len (c : Int) (m : Nat) : (plsAt c m).length = m := by unfold plsAt; rw [List.length_map, List.length_range]
theorem plsAt_nd (c : Int) (m : Nat) : (plsAt c m).Nodup := by
  unfold plsAt
  refine List.Pairwise.map _ (fun (a b : Nat) (hab : a ≠ b) e => hab ?_) List.nodup_range
  have := pl_inj e
  lia
theorem plsAt_mem {c : Int} {m : Nat} {p : Int} (h : p ∈ plsAt c m) : ∃ k : Int, c ≤ k ∧ k < c + (m : Int) ∧ p = pl k := by
  unfold plsAt at h
  obtain ⟨i, hi, rfl⟩ := List.mem_map.mp h
  rw [List.mem_range] at hi
  exact ⟨c + (i : Int), by lia, by lia, rfl⟩
theorem PB.of_pls {c : Int} {m : Nat} {ps : List (Int × Str)} (h : ps.map (·.1) = plsAt c m) (hn : ∀ x ∈ ps, x.2.length ≤ 100) : PB c (c + (m : Int)) ps := ⟨by rw [h]; exact plsAt_nd _ _, fun x hx => ⟨hn x hx, plsAt_mem (by rw [← h]; exact List.mem_map.mpr ⟨x, hx, rfl⟩)⟩⟩
/-! ### promises -/
def PoolAt (H : Hp) (D : Addr) : Prop := ∃ ns : List Str, H D = some (.lst (ns.map V.str)) ∧ ns.length = 13 ∧ ∀ n ∈ ns, Pl n ∧ n.length ≤ 33
def CntAt (H : Hp) (cn : Addr) (c : Int) : Prop := H cn = some (.lst [.int c]) ∧ 0 ≤ c
/-- all but one stays -/
def Kp1 (H H' : Hp) (cn : Addr) : Prop := ∀ a o, a ≠ cn → H a = some o → H' a = some o
theorem Kp1.of {H H' : Hp} {cn : Addr} (s : Same H H') : Kp1 H H' cn := fun a o _ e => s _ _ e
theorem Kp1.trans {H H' H'' : Hp} {cn : Addr} (a : Kp1 H H' cn) (b : Kp1 H' H'' cn) : Kp1 H H'' cn := fun c o n e => b c o n (a c o n e)
def spCell (K : PySem.W.Frag) : Sp := fun vs H Q _ => ∃ (a : Addr) (k : Nat) (ns : List Int), vs = [.ref a, .int (k : Int)] ∧ SqL K H a (ns.map V.int) ∧ ns.length ≤ 63 ∧ ∀ z : Int, Q (.int z) H
def spNext : Sp := fun vs H Q _ => ∃ (dr : Addr) (ds : List Int), vs = [.ref dr] ∧ H dr = some (.lst (ds.map V.int)) ∧ ∀ (H' : Hp) (z : Int) (ds' : List Int), H' dr = some (.lst (ds'.map V.int)) → ds'.length = ds.length - 1 → (z = 0 ∨ ds'.length + 1 = ds.length) → Kp1 H H' dr → Q (.int z) H'
def spPool : Sp := fun vs H Q _ => ∃ n : Int, vs = [.int n] ∧ ∀ (H' : Hp) (D : Addr), Same H H' → PoolAt H' D → Q (.ref D) H'
def spNew : Sp := fun vs H Q _ => ∃ (cn : Addr) (m : Nat) (c : Int), vs = [.ref cn, .int (m : Int)] ∧ CntAt H cn c ∧ c ≤ 4 * 10 ^ 18 ∧ m ≤ 1000 ∧ ∀ (H' : Hp) (D : Addr), H' D = some (.lst ((plsAt c m).map V.int)) → CntAt H' cn (c + (m : Int)) → Kp1 H H' cn → H D = none → Q (.ref D) H'
def leafT : Tg → Bool
  | .num _ => true
  | .free _ => true
  | .seen _ => true
  | _ => false
def spLeaf : Sp := fun vs H Q _ => ∃ (z : Int) (kl D : Addr) (Γ : List Int), vs = [.int z, .ref kl, .ref D] ∧ H kl = some (.lst (Γ.map V.int)) ∧ PoolAt H D ∧ ∀ (H' : Hp) (t : Addr) (tg : Tg), Same H H' → CoIn H' (.mk tg []) (.ref t) → wfT Γ tg [] → leafT tg = true → Q (.ref t) H'
theorem PoolAt.same {H H' : Hp} {D : Addr} (h : PoolAt H D) (s : Same H H') : PoolAt H' D := by obtain ⟨ns, e, r⟩ := h; exact ⟨ns, s _ _ e, r⟩
theorem PoolAt.keep {H H' : Hp} {D cn : Addr} (h : PoolAt H D) (k : Kp1 H H' cn) (n : D ≠ cn) : PoolAt H' D := by obtain ⟨ns, e, r⟩ := h; exact ⟨ns, k _ _ n e, r⟩
theorem co_num {H : Hp} {t : Addr} {z : Int} (h : H t = some (.tup [.str "num", .int z])) : CoIn H (.mk (.num z) []) (.ref t) := CoIn.mk' (vs := []) ⟨rfl, h⟩ Al.nil
theorem co_free {H : Hp} {t : Addr} {z : Str} (h : H t = some (.tup [.str "free", .str z])) : CoIn H (.mk (.free z) []) (.ref t) := CoIn.mk' (vs := []) ⟨rfl, h⟩ Al.nil
theorem co_seen {H : Hp} {t : Addr} {z : Int} (h : H t = some (.tup [.str "seen", .int z])) : CoIn H (.mk (.seen z) []) (.ref t) := CoIn.mk' (vs := []) ⟨rfl, h⟩ Al.nil
theorem flat_ints (ts : List Int) : (ts.map V.int).all flatV = true := by
  rw [List.all_eq_true]
  intro v hv
  obtain ⟨z, _, rfl⟩ := List.mem_map.mp hv
  rfl
section
variable {P : Program} {w : World} {K : PySem.W.Frag} {mg : Str → Option Value} {base : Heap}
theorem scCell : FnScope ["_law_script", "_law_k"] ["_law_script", "_law_k"] (defScope sCell) := ⟨rfl, rfl, rfl, by decide +kernel, rfl, by decide +kernel, by decide +kernel⟩
theorem ok_cell {f : Addr} {fd : FuncData} (F : Fun K "_law_cell_at" "_law_cell_at" sCell f fd) (T : Txt mg) : FnOk P w K mg base CX0 1 f fd ["_law_script", "_law_k"] (spCell K) := by
  refine F.ok scCell (fun vs H Q E h => ?_) (fun cdv A outer s H vs Q E hr h => ?_)
  · obtain ⟨a, k, ns, rfl, _⟩ := h; rfl
  · obtain ⟨a, k, ns, rfl, hS, hl, q⟩ := h
    refine ⟨_, pss_cons (ps_if (pt_cmpR op_lt (pv 1) (pe_callB call_len_seq (by rfl) T.len bt_len (pa_cons (pv 0) pa_nil)) (nomark _))
      (pss_one (ps_ret (pe_ix ix_list (pv 0) (pv 1) (fun _ _ => rfl))))
      pss_nil)
      (pss_one (ps_ret pe_int)), ?_⟩
    refine ⟨_, rfl, _, rfl, a, _, rfl, .inl hS, _, _, rfl, rfl, _, rfl, ite2 (fun hlt => ?_) (fun _ => q _)⟩
    have hlt' : k < ns.length := by rw [decide_eq_true_eq, List.length_map] at hlt; lia
    exact ⟨_, rfl, _, rfl, a, _, _, _, rfl, rfl, hS, at_int hlt', q _⟩
theorem scNext : FnScope ["_law_draws"] ["_law_draws"] (defScope sNext) := ⟨rfl, rfl, rfl, by decide +kernel, rfl, by decide +kernel, by decide +kernel⟩
theorem ok_next {f : Addr} {fd : FuncData} (F : Fun K "_law_next" "_law_next" sNext f fd) (T : Txt mg) : FnOk P w K mg base CX0 1 f fd ["_law_draws"] spNext := by
  refine F.ok scNext (fun vs H Q E h => ?_) (fun cdv A outer s H vs Q E hr h => ?_)
  · obtain ⟨dr, ds, rfl, _⟩ := h; rfl
  · obtain ⟨dr, ds, rfl, hdr, q⟩ := h
    refine ⟨_, pss_cons (ps_if (pt_cmpR op_gt (pe_callB call_len_seq (by rfl) T.len bt_len (pa_cons (pv 0) pa_nil)) pe_int (nomark _))
      (pss_one (ps_ret (pe_bm0 PySem.F.plainAttrs_list PySem.F.slot_list_pop PySem.F.type_list_pop mt_pop (pv 0))))
      pss_nil)
      (pss_one (ps_ret pe_int)), ?_⟩
    refine ⟨_, rfl, dr, _, rfl, .inl (SqL.of hdr), _, _, rfl, rfl, _, rfl, ite2 (fun c1 => ?_) (fun c1 => ?_)⟩
    · have hpos : 0 < ds.length := by have := of_decide_eq_true c1; rw [List.length_map] at this; lia
      have hne : ds ≠ [] := fun e => by rw [e] at hpos; exact absurd hpos (by decide)
      obtain ⟨ds', z, rfl⟩ : ∃ ds' z, ds = ds' ++ [z] := ⟨_, _, (List.dropLast_concat_getLast hne).symm⟩
      rw [List.map_append] at hdr
      refine ⟨_, rfl, .inl ⟨rfl, _, SqL.of hdr⟩, dr, _, .int z, rfl, rfl, hdr, last_at _ _, ?_⟩
      rw [List.map_cons, List.map_nil, List.dropLast_concat]
      exact q _ z ds' upd_same (by rw [List.length_append]; rfl) (.inr (by rw [List.length_append]; rfl)) (fun a o n e => by rw [upd_ne n]; exact e)
    · have hz : ds.length = 0 := by
        have : ¬ (0 : Int) < (((ds.map V.int).length : Nat) : Int) := fun z => c1 (decide_eq_true z)
        rw [List.length_map] at this
        lia
      exact q H 0 ds hdr (by lia) (.inl rfl) (fun _ _ _ e => e)
theorem scNew : FnScope ["_law_count", "_law_many_here", "_law_first"] ["_law_count", "_law_many_here"] (defScope sNew) := ⟨rfl, rfl, rfl, by decide +kernel, rfl, by decide +kernel, by decide +kernel⟩
theorem lcNew1 : LcS (defScope sNew).names [(".0", .local), ("_law_k", .local)] ["_law_count", "_law_many_here", "_law_first"] [false, false, false] := ⟨by decide +kernel, by decide +kernel, by decide +kernel, by decide +kernel, by decide +kernel, rfl⟩
theorem ndNew1 : (["_law_count", "_law_many_here", "_law_first", "_law_k"] : List Str).Nodup := by decide +kernel
theorem ok_new {f : Addr} {fd : FuncData} (F : Fun K "_law_new" "_law_new" sNew f fd) (T : Txt mg) : FnOk P w K mg base CX0 1 f fd ["_law_count", "_law_many_here"] spNew := by
  refine F.ok scNew (fun vs H Q E h => ?_) (fun cdv A outer s H vs Q E hr h => ?_)
  · obtain ⟨cn, m, c, rfl, _⟩ := h; rfl
  · obtain ⟨cn, m, c, rfl, ⟨hcn, hc0⟩, hc1, hm, q⟩ := h
    have nd := scNew.nd
    refine ⟨_, pss_cons (ps_set (i := 2) nd rfl (Or.inl rfl) (pe_ix ix_list (pv 0) pe_int (fun _ _ => rfl)))
      (pss_cons (ps_asg (pe_op op_add (pv 2) (pv 1)) (pg_sub (pv 0) pe_int set_list))
      (pss_one (ps_ret (pe_lc (ext := ["_law_k"]) lcNew1 rfl (pi_range2 rfl T.range (pa_cons (pv 2) (pa_cons (pe_op op_add (pv 2) (pv 1)) pa_nil)))
          ⟨fun _ _ _ _ _ => (pg_name (i := 3) ndNew1 rfl (Or.inl rfl) (.inr rfl)), fun _ _ _ _ _ => pts_nil, fun _ _ _ _ _ => (pe_op op_sub (pe_op op_add (pv 3) pe_int) (pe_op op_mul pe_int (pe_op op_mod (pv 3) pe_int)))⟩)))), ?_⟩
    refine ⟨_, rfl, cn, _, _, _, rfl, rfl, SqL.of hcn, rfl, ?_⟩
    refine ⟨_, rfl, _, rfl, _, _, rfl, rfl, _, rfl, cn, _, _, 0, rfl, rfl, hcn, rfl, ?_⟩
    have h1 : upd H cn (.lst ([V.int c].set 0 (.int (c + (m : Int))))) cn = some (.lst [.int (c + (m : Int))]) := upd_same
    have k1 : Kp1 H (upd H cn (.lst ([V.int c].set 0 (.int (c + (m : Int)))))) cn := fun a o n e => by rw [upd_ne n]; exact e
    have f1 : ∀ D, upd H cn (.lst ([V.int c].set 0 (.int (c + (m : Int))))) D = none → H D = none ∧ D ≠ cn := fun D hD => by
      have n : D ≠ cn := fun e => by rw [e, h1] at hD; cases hD
      rw [upd_ne n] at hD
      exact ⟨hD, n⟩
    generalize upd H cn (.lst ([V.int c].set 0 (.int (c + (m : Int))))) = H1 at h1 k1 f1 ⊢
    refine ⟨_, rfl, _, rfl, _, rfl, _, _, rfl, rfl, _, _, rfl, ⟨by lia, by lia, by lia, by lia⟩, fun D hD => ?_⟩
    rw [show (c + (m : Int) - c).toNat = m by lia]
    refine lc_rng (lo := c) (n := m) (fun k ys σ' H' => (∃ v, σ' = [none, none, none, v]) ∧ Same H1 H' ∧ H' D = some (.lst ys) ∧ ys = (plsAt c k).map V.int)
      ⟨⟨_, rfl⟩, same_upd hD, upd_same, rfl⟩ ?_ ?_
    · rintro k ys σ' H' hk ⟨⟨v, rfl⟩, sH, hDy, hys⟩
      unfold gName
      refine yes_if ?_
      refine ⟨_, rfl, _, _, rfl, rfl, _, rfl, _, _, rfl, rfl, (by show (0 : Int) < _; decide), _, _, rfl, rfl, .inl ⟨by decide, by decide⟩, _, _, rfl, rfl, hDy, by rw [hys, List.length_map, plsAt_len, sizeLine_eq]; lia, Beh.of hk ⟨⟨_, rfl⟩, fun e o qe => ?_, upd_same, ?_⟩⟩
      · rw [upd_ne (ne_of_none qe hD)]; exact sH _ _ qe
      · rw [hys]
        unfold plsAt
        rw [List.range_succ, List.map_append, List.map_append]
        rfl
    · rintro ys σ' H' ⟨_, sH, hDy, hys⟩
      rw [hys] at hDy
      exact q H' D hDy ⟨sH _ _ h1, by lia⟩ (k1.trans (Kp1.of sH)) (f1 D hD).1
theorem scLeaf : FnScope ["_law_cell", "_law_known", "_law_pool_here", "_law_name"] ["_law_cell", "_law_known", "_law_pool_here"] (defScope sLeaf) := ⟨rfl, rfl, rfl, by decide +kernel, rfl, by decide +kernel, by decide +kernel⟩
theorem ok_leaf {f : Addr} {fd : FuncData} (F : Fun K "_law_leaf" "_law_leaf" sLeaf f fd) (T : Txt mg) : FnOk P w K mg base CX0 1 f fd ["_law_cell", "_law_known", "_law_pool_here"] spLeaf := by
  refine F.ok scLeaf (fun vs H Q E h => ?_) (fun cdv A outer s H vs Q E hr h => ?_)
  · obtain ⟨z, kl, D, Γ, rfl, _⟩ := h; rfl
  · obtain ⟨z, kl, D, Γ, rfl, hkl, ⟨ns, hD, hnl, hns⟩, q⟩ := h
    have nd := scLeaf.nd
    have hu := hu_of hr
    have z2 : 2 ≤ sizeLine := by rw [sizeLine_eq]; decide
    have FREE : ∃ t : TS, PSs (cxOf CX0 P w K mg base ["_law_cell", "_law_known", "_law_pool_here", "_law_name"] "_law_leaf" (defScope sLeaf) f cdv A outer s H E).nox (ifBody ((defBody sLeaf).getD 1 (.Pass ⟨0, 0, 0, 0⟩))) t ∧
        ∀ (D' : Ends) (H1 : Hp), D'.rt = Q → Same H H1 → t D' [some (.int z), some (.ref kl), some (.ref D), none] H1 := by
      refine ⟨_, (pss_cons (ps_set (i := 3) nd rfl (Or.inl rfl) (pe_ix ix_list (pv 2) (pe_op op_mod (pe_op op_fdiv (pv 0) pe_int) pe_int) (fun _ _ => rfl)))
        (pss_cons (ps_if (pt_cmpR op_in_seq (pv 3) (pe_lst (pa_strs (xs := ["fn", "pick", "now", "mac"]) (by rfl))) rfl)
        (pss_one (ps_set (i := 3) nd rfl (Or.inl rfl) (pe_op op_add_str (pv 3) pe_str)))
        pss_nil)
        (pss_one (ps_ret (pe_tup (pa_cons pe_str (pa_cons (pv 3) pa_nil))))))), ?_⟩
      intro D' H1 hD' s1
      obtain ⟨v, ev, hv⟩ := at_mod (xs := ns.map V.str) (z / 4) (n := 13) (by rw [List.length_map]; exact hnl) (by decide)
      obtain ⟨n, hn, rfl⟩ := List.mem_map.mp hv
      have hn40 := hns n hn
      refine ⟨_, rfl, _, rfl, _, _, rfl, rfl, ⟨by decide, by decide⟩, _, _, rfl, rfl, (by show (0 : Int) < _; decide), D, _, _, _, rfl, rfl, SqL.of (s1 _ _ hD), ev, ?_⟩
      refine ⟨_, rfl, by rw [sizeLine_eq]; decide, fun l hl => ?_⟩
      have s2 := s1.trans (same_upd (o := .lst ((["fn", "pick", "now", "mac"] : List Str).map V.str)) hl)
      refine ⟨l, _, rfl, .inl (SqL.of upd_same), rfl, rfl, _, rfl, ite2 (fun _ => ?_) (fun _ => ?_)⟩
      · refine ⟨_, rfl, _, _, rfl, rfl, by rw [sizeLine_eq]; have := hn40.2; show n.length + 1 ≤ _; lia, ⟨_, rfl, z2, fun t ht => ?_⟩⟩
        rw [hD']
        exact q _ t _ (s2.trans (same_upd ht)) (co_free upd_same) ⟨pl_cat hn40.1 ⟨(show ∀ k ∈ cpl ("z" : Str), k ≠ 32 ∧ k ≠ 10 ∧ k ≠ 40 ∧ k ≠ 41 by decide), by decide⟩, by rw [str_cat_len]; have := hn40.2; show n.length + 1 ≤ 34; lia⟩ rfl
      · refine ⟨_, rfl, z2, fun t ht => ?_⟩
        rw [hD']
        exact q _ t _ (s2.trans (same_upd ht)) (co_free upd_same) ⟨hn40.1, by have := hn40.2; lia⟩ rfl
    obtain ⟨tF, hF, free⟩ := FREE
    refine ⟨_, pss_cons (ps_if (pt_cmpR op_eq (pe_op op_mod (pv 0) pe_int) pe_int (nomark _))
      (pss_one (ps_ret (pe_tup (pa_cons pe_str (pa_cons (pe_op op_mod (pe_op op_fdiv (pv 0) pe_int) (pe_op op_pow pe_int pe_int)) pa_nil)))))
      pss_nil)
      (pss_cons (ps_if (PW.pt (pw_or (pt_cmpR op_eq (pe_op op_mod (pv 0) pe_int) pe_int (nomark _)) (pw_or1 (pt_cmpR (op_eqL hu) (pv 1) (pe_lst pa_nil) (nomark _)))))
      hF
      pss_nil)
      (pss_one (ps_ret (pe_tup (pa_cons pe_str (pa_cons (pe_ix ix_list (pv 1) (pe_op op_mod (pe_op op_fdiv (pv 0) pe_int) (pe_callB call_len_seq (by rfl) T.len bt_len (pa_cons (pv 1) pa_nil))) (fun _ _ => rfl)) pa_nil)))))), ?_⟩
    refine ⟨_, rfl, _, _, rfl, rfl, (by show (0 : Int) < _; decide), rfl, _, rfl, ite2 (fun _ => ?_) (fun _ => ?_)⟩
    · refine ⟨_, rfl, _, _, rfl, rfl, ⟨by decide, by decide⟩, _, _, rfl, rfl, ⟨by decide, by decide, by decide⟩, _, _, rfl, rfl, (by show (0 : Int) < _; decide), z2, fun t ht => ?_⟩
      exact q _ t _ (same_upd ht) (co_num upd_same) ⟨Int.lt_of_lt_of_le (by decide : (-(10 ^ 60) : Int) < 0) (Int.emod_nonneg _ (by decide)), Int.emod_lt_of_pos _ (by decide)⟩ rfl
    refine ⟨_, rfl, _, _, rfl, rfl, (by show (0 : Int) < _; decide), rfl, _, rfl, ite2 (fun _ => ?_) (fun _ => ?_)⟩
    · exact iteT (free _ H rfl (Same.refl _))
    refine ⟨_, rfl, Nat.zero_le _, fun e he => ?_⟩
    have s1 := same_upd (o := .lst []) he
    refine ⟨kl, e, _, [], rfl, rfl, SqL.of (s1 _ _ hkl), SqL.of upd_same, flat_ints Γ, rfl, _, rfl, ite2 (fun c1 => ?_) (fun c1 => ?_)⟩
    · exact free _ _ rfl s1
    · have hne : Γ ≠ [] := fun z => c1 (by rw [z]; rfl)
      have hpos : 0 < Γ.length := List.length_pos_iff.mpr hne
      obtain ⟨v, ev, hv⟩ := at_mod (xs := Γ.map V.int) (z / 4) (n := Γ.length) (by rw [List.length_map]) hpos
      obtain ⟨p, hp, rfl⟩ := List.mem_map.mp hv
      have elen : (((Γ.map V.int).length : Nat) : Int) = (Γ.length : Int) := by rw [List.length_map]
      have epos : (0 : Int) < (((Γ.map V.int).length : Nat) : Int) := by rw [elen]; lia
      have ev' : atI (Γ.map V.int) (z / 4 % (((Γ.map V.int).length : Nat) : Int)) = some (.int p) := by rw [elen]; exact ev
      refine ⟨_, rfl, _, rfl, _, _, rfl, rfl, ⟨by decide, by decide⟩, _, rfl, kl, _, rfl, .inl (SqL.of (s1 _ _ hkl)), _, _, rfl, rfl, epos, kl, _, _, _, rfl, rfl, SqL.of (s1 _ _ hkl), ev', z2, fun t ht => ?_⟩
      exact q _ t _ (s1.trans (same_upd ht)) (co_seen upd_same) hp rfl
abbrev NPool : List Str := ["_law_cell", "_law_signs", "_law_word", "_law_k", "_law_pool_here"]
theorem scPool : FnScope NPool ["_law_cell"] (defScope sPool) := ⟨rfl, rfl, rfl, by decide +kernel, rfl, by decide +kernel, by decide +kernel⟩
abbrev KW6 : List Str := ["fn", "pick", "now", "mac", "show", "add"]
theorem ok_pool {f : Addr} {fd : FuncData} (F : Fun K "_law_pool" "_law_pool" sPool f fd) (T : Txt mg) : FnOk P w K mg base CX0 1 f fd ["_law_cell"] spPool := by
  refine F.ok scPool (fun vs H Q E h => ?_) (fun cdv A outer s H vs Q E hr h => ?_)
  · obtain ⟨n, rfl, _⟩ := h; rfl
  · obtain ⟨n, rfl, q⟩ := h
    have nd := scPool.nd
    have RESTX : ∃ t : TS, PSs (cxOf CX0 P w K mg base NPool "_law_pool" (defScope sPool) f cdv A outer s H E).nox ((defBody sPool).drop 3) t ∧
        ∀ (x : Str) (v3 : Option V) (H1 : Hp), Same H H1 → x.length ≤ 31 → Pl x → t { nx := fun _ H' => Q .non H', rt := Q } [some (.int n), some (.str "abcdefghijklmnopqrstuvwxyz0123456789"), some (.str x), v3, none] H1 := by
      refine ⟨_, Z.suite (Z.pss_cons (Z.ps_set (i := 4) nd rfl (Or.inl rfl) (Z.pe_lst (Z.pa_cons (Z.pv 2) (Z.pa_cons (Z.pv 2) (Z.pa_cons (Z.pv 2) (Z.pa_cons (Z.pe_op op_add_str (Z.pv 2) Z.pe_str) (Z.pa_cons (Z.pe_op op_add_str (Z.pv 2) Z.pe_str) (Z.pa_cons (Z.pe_op op_add_str (Z.pv 2) Z.pe_str) (Z.pa_cons (Z.pe_op op_add_str (Z.pv 2) Z.pe_str) Z.pa_nil)))))))))
        (Z.pss_one (Z.ps_ret (Z.pe_op op_cat (Z.pv 4) (Z.pe_lst (Z.pa_strs (xs := KW6) (by rfl))))))), ?_⟩
      intro x v3 H1 s0 hx hpx
      have l1 : x.length + 1 ≤ sizeLine := by rw [sizeLine_eq]; lia
      have l2 : x.length + 2 ≤ sizeLine := by rw [sizeLine_eq]; lia
      refine ⟨_, rfl, _, rfl, _, rfl, _, rfl, _, _, rfl, rfl, l1, _, rfl, _, _, rfl, rfl, l2, _, rfl, _, _, rfl, rfl, l1, _, rfl, _, _, rfl, rfl, l1, by rw [sizeLine_eq]; show 7 ≤ _; decide, fun l hl => ?_⟩
      refine ⟨_, rfl, by rw [sizeLine_eq]; decide, fun l2' hl2 => ?_⟩
      have s1 := same_upd (o := .lst (([x, x, x, x ++ ("2" : Str), x ++ ("22" : Str), x ++ ("3" : Str), x ++ ("a" : Str)] : List Str).map V.str)) hl
      have s2 := same_upd (o := .lst (KW6.map V.str)) hl2
      refine ⟨l, l2', ([x, x, x, x ++ ("2" : Str), x ++ ("22" : Str), x ++ ("3" : Str), x ++ ("a" : Str)] : List Str).map V.str, KW6.map V.str, rfl, rfl, s2 _ _ upd_same, upd_same, by rw [sizeLine_eq]; show 7 + 6 ≤ _; decide, fun D hD => ?_⟩
      rw [← List.map_append]
      refine q _ D (((s0.trans s1).trans s2).trans (same_upd hD)) ⟨_, upd_same, rfl, fun n hn => ?_⟩
      have ln : ∀ (a : Str), a.length ≤ 2 → Pl a → Pl (x ++ a) ∧ (x ++ a).length ≤ 33 := fun a ha pa => ⟨pl_cat hpx pa, by rw [str_cat_len]; lia⟩
      rcases List.mem_append.mp hn with hn | hn
      · simp only [List.mem_cons, List.not_mem_nil, or_false] at hn
        rcases hn with rfl | rfl | rfl | rfl | rfl | rfl | rfl
        · exact ⟨hpx, by lia⟩
        · exact ⟨hpx, by lia⟩
        · exact ⟨hpx, by lia⟩
        · exact ln _ (by decide) ⟨(show ∀ k ∈ cpl ("2" : Str), k ≠ 32 ∧ k ≠ 10 ∧ k ≠ 40 ∧ k ≠ 41 by decide), by decide⟩
        · exact ln _ (by decide) ⟨(show ∀ k ∈ cpl ("22" : Str), k ≠ 32 ∧ k ≠ 10 ∧ k ≠ 40 ∧ k ≠ 41 by decide), by decide⟩
        · exact ln _ (by decide) ⟨(show ∀ k ∈ cpl ("3" : Str), k ≠ 32 ∧ k ≠ 10 ∧ k ≠ 40 ∧ k ≠ 41 by decide), by decide⟩
        · exact ln _ (by decide) ⟨(show ∀ k ∈ cpl ("a" : Str), k ≠ 32 ∧ k ≠ 10 ∧ k ≠ 40 ∧ k ≠ 41 by decide), by decide⟩
      · exact ⟨⟨(show ∀ n ∈ KW6, ∀ k ∈ cpl n, k ≠ 32 ∧ k ≠ 10 ∧ k ≠ 40 ∧ k ≠ 41 by decide) n hn, (show ∀ n ∈ KW6, cpl n ≠ [] by decide) n hn⟩, (show ∀ n ∈ KW6, n.length ≤ 33 by decide) n hn⟩
    obtain ⟨tR, hR, rest⟩ := RESTX
    refine ⟨_, pss_cons (ps_set (i := 1) nd rfl (Or.inl rfl) pe_str)
      (pss_cons (ps_set (i := 2) nd rfl (Or.inl rfl) (pe_ix ix_str (pv 1) (pe_op op_mod (pv 0) pe_int) (fun _ _ => rfl)))
      (pss_cons (ps_for PassesOwn.never rfl (pi_range1 rfl T.range (pa_cons (pe_ix ix_list (pe_lst (pa_cons pe_int (pa_cons pe_int (pa_cons pe_int (pa_cons pe_int (pa_cons pe_int (pa_cons (pe_op op_add pe_int (pe_op op_mod (pe_op op_fdiv (pv 0) pe_int) pe_int)) pa_nil))))))) (pe_op op_mod (pe_op op_fdiv (pv 0) pe_int) pe_int) (fun _ _ => rfl)) pa_nil)) (pg_name (i := 3) nd rfl (Or.inl rfl))
      (pss_one (ps_set (i := 2) nd rfl (Or.inl rfl) (pe_op op_add_str (pv 2) (pe_ix ix_str (pv 1) (pe_op op_mod (pe_op op_fdiv (pv 0) (pe_op op_add pe_int (pe_op op_mul pe_int (pv 3)))) pe_int) (fun _ _ => rfl))))))
      hR)), ?_⟩
    obtain ⟨c0, ec0, pl0⟩ := sg_at n 26 (by decide) (by decide)
    refine ⟨_, rfl, _, rfl, _, _, rfl, rfl, (by show (0 : Int) < _; decide), ("abcdefghijklmnopqrstuvwxyz0123456789" : Str), _, c0, rfl, rfl, by decide, ec0, ?_⟩
    refine ⟨_, rfl, _, _, rfl, rfl, ⟨by decide, by decide⟩, _, _, rfl, rfl, (by show (0 : Int) < _; decide), _, _, rfl, rfl, by rw [sizeLine_eq]; show 6 ≤ _; decide, fun l hl => ?_⟩
    obtain ⟨v, ev, hv⟩ := at_mod (xs := [V.int 0, V.int 1, V.int 2, V.int 3, V.int 4, V.int (5 + n / 156 % 26)]) (n / 26) (n := 6) rfl (by decide)
    obtain ⟨z, rfl, z0, z1⟩ : ∃ z : Int, v = .int z ∧ 0 ≤ z ∧ z ≤ 30 := by
      simp only [List.mem_cons, List.not_mem_nil, or_false] at hv
      rcases hv with rfl | rfl | rfl | rfl | rfl | rfl
      · exact ⟨_, rfl, by decide, by decide⟩
      · exact ⟨_, rfl, by decide, by decide⟩
      · exact ⟨_, rfl, by decide, by decide⟩
      · exact ⟨_, rfl, by decide, by decide⟩
      · exact ⟨_, rfl, by decide, by decide⟩
      · exact ⟨_, rfl, by lia, by lia⟩
    refine ⟨_, rfl, _, _, rfl, rfl, ⟨by decide, by decide⟩, _, _, rfl, rfl, (by show (0 : Int) < _; decide), l, _, _, _, rfl, rfl, SqL.of upd_same, ev, _, rfl, by lia, by lia, ?_⟩
    have s1 := same_upd (o := .lst [V.int 0, V.int 1, V.int 2, V.int 3, V.int 4, V.int (5 + n / 156 % 26)]) hl
    generalize upd H l (.lst [V.int 0, V.int 1, V.int 2, V.int 3, V.int 4, V.int (5 + n / 156 % 26)]) = H1 at s1 ⊢
    refine for_range (lo := 0) (n := z.toNat) (fun i σ H' => (∃ (x : Str) (v3 : Option V), σ = [some (.int n), some (.str "abcdefghijklmnopqrstuvwxyz0123456789"), some (.str x), v3, none] ∧ x.length ≤ i + 1 ∧ Pl x) ∧ H' = H1)
      ⟨⟨_, none, rfl, Nat.le_refl _, pl0⟩, rfl⟩ ?_ ?_
    · rintro i σ H' hi ⟨⟨x, v3, rfl, hx, hpx⟩, rfl⟩
      have hi6 : i < 30 := by lia
      obtain ⟨c1, ec1, pl1⟩ := sg_at (n / (156 + 37 * (0 + (i : Int)))) 36 (by decide) (by decide)
      refine ⟨_, rfl, _, rfl, _, rfl, _, rfl, _, _, rfl, rfl, .inl ⟨by decide, by decide⟩, _, _, rfl, rfl, _, _, rfl, rfl, ⟨by show (0 : Int) < 156 + 37 * (0 + (i : Int)); lia, by show 156 + 37 * (0 + (i : Int)) < (1073741824 : Int); lia⟩, _, _, rfl, rfl, (by show (0 : Int) < _; decide), ("abcdefghijklmnopqrstuvwxyz0123456789" : Str), _, c1, rfl, rfl, by decide, ec1, _, _, rfl, rfl, ?_, ⟨_, _, rfl, ?_, pl_cat hpx pl1⟩, rfl⟩
      · rw [sizeLine_eq]; show x.length + 1 ≤ _; lia
      · rw [str_cat_len]; show x.length + 1 ≤ _; lia
    · rintro σ H' ⟨⟨x, v3, rfl, hx, hpx⟩, rfl⟩
      exact rest x v3 _ s1 (by lia) hpx
end
end K75

set_option Elab.async false
set_option linter.all false
set_option maxRecDepth 100000
set_option maxHeartbeats 4000000
set_option exponentiation.threshold 3000
/-! k75: the law's cores. Own work. -/
namespace K75
open PySem L2 Builtin.Str TR SH
def bnds (cs : List Co) : List (Int × Str) := (pres cs).flatMap parms
theorem bnds_nil : bnds [] = [] := by unfold bnds; rw [pres]; rfl
theorem bnds_one (t : Tg) (ks : List Co) : bnds [.mk t ks] = parms (.mk t ks) ++ bnds ks := by
  unfold bnds
  rw [pres_cons, pre_eq]
  simp [pres]
theorem bnds_append (xs ys : List Co) : bnds (xs ++ ys) = bnds xs ++ bnds ys := by
  unfold bnds
  rw [pres_append, List.flatMap_append]
/-- what comes of a making -/
structure Res (H : Hp) (Γ : List Int) (c c' : Int) (U D : Nat) (cos : List Co) (vs : List V) : Prop where
  al : Al (CoIn H) cos vs
  wf : Wfs Γ cos
  sg : sgs cos ≤ cos.length + 13 * U
  dp : dps cos ≤ D
  pb : PB c c' (bnds cos)
  le : c ≤ c'
  cb : c' ≤ c + 8 * (U : Int)
theorem Res.nil {H : Hp} {Γ : List Int} {c : Int} {D : Nat} : Res H Γ c c 0 D [] [] := ⟨Al.nil, by unfold Wfs; trivial, by rw [sgs]; lia, by rw [dps]; lia, by rw [bnds_nil]; exact PB.nil, Int.le_refl _, by lia⟩
theorem Res.tup {H H' : Hp} {Γ : List Int} {c c' : Int} {U D : Nat} {cos : List Co} {vs : List V} (h : Res H Γ c c' U D cos vs) (s : Tup H H') : Res H' Γ c c' U D cos vs := ⟨h.al.mono fun _ _ r => r.tup s, h.wf, h.sg, h.dp, h.pb, h.le, h.cb⟩
theorem Res.weak {H : Hp} {Γ : List Int} {c c' : Int} {U D D' : Nat} {cos : List Co} {vs : List V} (h : Res H Γ c c' U D cos vs) (hD : D ≤ D') : Res H Γ c c' U D' cos vs := ⟨h.al, h.wf, h.sg, Nat.le_trans h.dp hD, h.pb, h.le, h.cb⟩
theorem Res.append {H : Hp} {Γ : List Int} {c c1 c2 : Int} {U1 U2 D : Nat} {cos dos : List Co} {vs us : List V} (h : Res H Γ c c1 U1 D cos vs) (g : Res H Γ c1 c2 U2 D dos us) : Res H Γ c c2 (U1 + U2) D (cos ++ dos) (vs ++ us) := by
  refine ⟨h.al.append g.al, h.wf.append g.wf, ?_, ?_, ?_, ?_, ?_⟩
  · rw [sgs_append, List.length_append]; have := h.sg; have := g.sg; lia
  · rw [dps_append]; have := h.dp; have := g.dp; lia
  · rw [bnds_append]; exact h.pb.append g.pb h.le g.le
  · have := h.le; have := g.le; lia
  · have := h.cb; have := g.cb; lia
theorem Res.up {H : Hp} {Γ : List Int} {c c1 c' : Int} {U D : Nat} {cos : List Co} {vs : List V} {t : Tg} {a : Addr} (h : Res H (scG Γ t) c1 c' U D cos vs) (hat : CoAt H t a vs) (hT : wfT Γ t cos) (hs : sgT t + cos.length ≤ 14) (hp : PB c c1 (parms (.mk t cos))) (h1 : c ≤ c1) (h2 : c1 ≤ c + 8) :
    Res H Γ c c' (1 + U) (1 + D) [.mk t cos] [.ref a] := by
  refine ⟨Al.cons (CoIn.mk' hat h.al) Al.nil, ?_, ?_, ?_, ?_, ?_, ?_⟩
  · unfold Wfs Wf; exact ⟨⟨hT, h.wf⟩, by unfold Wfs; trivial⟩
  · rw [sgs_one, sg_mk]; have := h.sg; show _ ≤ 1 + _; lia
  · rw [dps, dp_mk, dps]; have := h.dp; lia
  · rw [bnds_one]; exact hp.append h.pb h1 h.le
  · have := h.le; lia
  · have := h.cb; lia
theorem Res.leaf {H : Hp} {Γ : List Int} {c : Int} {t : Tg} {a : Addr} (hco : CoIn H (.mk t []) (.ref a)) (hT : wfT Γ t []) (hl : leafT t = true) : Res H Γ c c 0 1 [.mk t []] [.ref a] := by
  refine ⟨Al.cons hco Al.nil, ?_, ?_, ?_, ?_, Int.le_refl _, by lia⟩
  · unfold Wfs Wf; exact ⟨⟨hT, by unfold Wfs; trivial⟩, by unfold Wfs; trivial⟩
  · rw [sgs_one, sg_mk, sgs]
    cases t <;> first | exact Nat.le_refl _ | exact nomatch hl
  · simp only [dps, dp_mk]; lia
  · rw [bnds_one, bnds_nil, List.append_nil]
    cases t <;> first | exact PB.nil | exact nomatch hl
def Kp2 (H H' : Hp) (cn dr : Addr) : Prop := ∀ a o, a ≠ cn → a ≠ dr → H a = some o → H' a = some o
theorem Kp2.trans {H H' H'' : Hp} {cn dr : Addr} (a : Kp2 H H' cn dr) (b : Kp2 H' H'' cn dr) : Kp2 H H'' cn dr := fun c o n m e => b c o n m (a c o n m e)
theorem Kp2.of {H H' : Hp} {cn dr : Addr} (s : Same H H') : Kp2 H H' cn dr := fun a o _ _ e => s _ _ e
theorem Kp2.of1 {H H' : Hp} {cn dr : Addr} (s : Kp1 H H' cn) : Kp2 H H' cn dr := fun a o n _ e => s _ _ n e
theorem Kp2.of2 {H H' : Hp} {cn dr : Addr} (s : Kp1 H H' dr) : Kp2 H H' cn dr := fun a o _ n e => s _ _ n e
theorem Kp2.tup {H H' : Hp} {cn dr : Addr} {xs ys : List V} (k : Kp2 H H' cn dr) (h : H cn = some (.lst xs)) (g : H dr = some (.lst ys)) : Tup H H' := fun e zs q => k _ _ (kind_ne q h (fun z => nomatch z)) (kind_ne q g (fun z => nomatch z)) q
structure GenIn (H : Hp) (dr kl D cn : Addr) (ds Γ : List Int) (c : Int) (d : Nat) : Prop where
  hdr : H dr = some (.lst (ds.map V.int))
  hkl : H kl = some (.lst (Γ.map V.int))
  hD : PoolAt H D
  hcn : CntAt H cn c
  hc : c + 8 * (ds.length : Int) ≤ 2 * 10 ^ 18
  n1 : dr ≠ cn
  n2 : kl ≠ cn
  n3 : kl ≠ dr
  n4 : D ≠ cn
  n5 : D ≠ dr
  gl : Γ.length + 10 * d ≤ 100000
theorem PoolAt.keep2 {H H' : Hp} {D cn dr : Addr} (h : PoolAt H D) (k : Kp2 H H' cn dr) (n : D ≠ cn) (m : D ≠ dr) : PoolAt H' D := by obtain ⟨ns, e, r⟩ := h; exact ⟨ns, k _ _ n m e, r⟩
def spCore (d : Nat) : Sp := fun vs H Q _ => ∃ (dr kl D cn : Addr) (ds Γ : List Int) (c : Int), vs = [.ref dr, .int (d : Int), .ref kl, .ref D, .ref cn] ∧ GenIn H dr kl D cn ds Γ c d ∧
  ∀ (H' : Hp) (v : V) (co : Co) (c' : Int) (ds' : List Int) (U : Nat), Res H' Γ c c' U (d + 1) [co] [v] → CntAt H' cn c' → H' dr = some (.lst (ds'.map V.int)) → ds'.length ≤ ds.length - 1 → U + ds'.length ≤ ds.length → Kp2 H H' cn dr → Q v H'
def spMany (d : Nat) : Sp := fun vs H Q _ => ∃ (dr kl D cn : Addr) (ds Γ : List Int) (c : Int) (m : Nat), vs = [.ref dr, .int (d : Int), .ref kl, .ref D, .ref cn, .int (m : Int)] ∧ GenIn H dr kl D cn ds Γ c d ∧ m ≤ 100 ∧
  ∀ (H' : Hp) (t : Addr) (pvs : List V) (cos : List Co) (c' : Int) (ds' : List Int) (U : Nat), H' t = some (.tup pvs) → Res H' Γ c c' U (d + 1) cos pvs → cos.length = m → CntAt H' cn c' → H' dr = some (.lst (ds'.map V.int)) → U + ds'.length ≤ ds.length → Kp2 H H' cn dr → Q (.ref t) H'
abbrev pCore : List Str := ["_law_draws", "_law_depth", "_law_known", "_law_pool_here", "_law_count"]
abbrev pMany : List Str := ["_law_draws", "_law_depth", "_law_known", "_law_pool_here", "_law_count", "_law_many_here"]
section
variable {P : Program} {w : World} {K : PySem.W.Frag} {mg : Str → Option Value} {base : Heap}
abbrev NMany : List Str := ["_law_draws", "_law_depth", "_law_known", "_law_pool_here", "_law_count", "_law_many_here", "_law_parts", "_law_k"]
theorem scMany : FnScope NMany pMany (defScope sMany) := ⟨rfl, rfl, rfl, by decide +kernel, rfl, by decide +kernel, by decide +kernel⟩
theorem many_step {d k : Nat} {f fR : Addr} {fd fdR : FuncData} (F : Fun K "_law_many" "_law_many" sMany f fd) (T : Txt mg) (kR : PySem.W.keepIn K (.ref fR) = true) (bR : Binds K fdR pCore []) (mR : mg "_law_core" = some (.ref fR)) (GR : FnOk P w K mg base CX0 k fR fdR pCore (spCore d)) :
    FnOk P w K mg base CX0 (k + 1) f fd pMany (spMany d) := by
  refine F.ok scMany (fun vs H Q E h => ?_) (fun cdv A outer s H vs Q E hr h => ?_)
  · obtain ⟨dr, kl, D, cn, ds, Γ, c, m, rfl, _⟩ := h; rfl
  · obtain ⟨dr, kl, D, cn, ds, Γ, c, m, rfl, g, hm, q⟩ := h
    have nd := scMany.nd
    refine ⟨_, pss_cons (ps_set (i := 6) nd rfl (Or.inl rfl) (pe_lst pa_nil))
      (pss_cons (ps_for PassesOwn.never rfl (pi_range1 rfl T.range (pa_cons (pv 5) pa_nil)) (pg_name (i := 7) nd rfl (Or.inl rfl))
      (pss_one (ps_expr (pe_bm PySem.F.plainAttrs_list PySem.F.slot_list_append PySem.F.type_list_append mt_append (pv 6) (pa_cons (pe_call GR hr (by rfl) mR kR bR .nil pass0 (pa_cons (pv 0) (pa_cons (pv 1) (pa_cons (pv 2) (pa_cons (pv 3) (pa_cons (pv 4) pa_nil)))))) pa_nil)))))
      (pss_one (ps_ret (pe_callTy call_tuple_of (by rfl) T.tuple bt_tuple' (pa_cons (pv 6) pa_nil))))), ?_⟩
    refine ⟨Nat.zero_le _, fun L hL => ?_⟩
    have s1 := same_upd (o := .lst []) hL
    have nLc : L ≠ cn := Ne.symm (ne_of_none g.hcn.1 hL)
    have nLd : L ≠ dr := Ne.symm (ne_of_none g.hdr hL)
    refine ⟨_, rfl, _, rfl, by lia, by lia, ?_⟩
    refine for_range (lo := 0) (n := ((m : Nat) : Int).toNat) (fun i σ H' => (∃ v7, σ = [some (.ref dr), some (.int (d : Int)), some (.ref kl), some (.ref D), some (.ref cn), some (.int (m : Int)), some (.ref L), v7]) ∧ ∃ (cos : List Co) (vs : List V) (c' : Int) (ds' : List Int) (U : Nat), H' L = some (.lst vs) ∧ Res H' Γ c c' U (d + 1) cos vs ∧ cos.length = i ∧ CntAt H' cn c' ∧ H' dr = some (.lst (ds'.map V.int)) ∧ U + ds'.length ≤ ds.length ∧ Kp2 H H' cn dr)
      ⟨⟨_, rfl⟩, [], [], c, ds, 0, upd_same, Res.nil, rfl, ⟨s1 _ _ g.hcn.1, g.hcn.2⟩, s1 _ _ g.hdr, by lia, Kp2.of s1⟩ ?_ ?_
    · rintro i σ H' hi ⟨⟨v7, rfl⟩, cos, vs, c', ds', U, hLv, hR, hcl, hcn', hdr', hdl, kp⟩
      have him : i < m := by lia
      have hcb := hR.cb
      have hgc := g.hc
      refine ⟨_, rfl, .inl ⟨rfl, _, SqL.of hLv⟩, _, rfl, _, rfl, _, rfl, _, rfl, _, rfl, dr, kl, D, cn, ds', Γ, c', rfl, ⟨hdr', kp _ _ g.n2 g.n3 g.hkl, g.hD.keep2 kp g.n4 g.n5, hcn', by lia, g.n1, g.n2, g.n3, g.n4, g.n5, g.gl⟩, fun H2 v co c2 ds2 U2 hR2 hcn2 hdr2 hdl2 hU2 kp2 => ?_⟩
      have hL2 := kp2 _ _ nLc nLd hLv
      have tk1 := kp2.tup hcn'.1 hdr'
      have tk2 := Tup.lst (ys := vs ++ [v]) hL2
      refine ⟨L, vs, v, rfl, rfl, hL2, by rw [hR.al.1, hcl, sizeLine_eq]; lia, ⟨_, rfl⟩, cos ++ [co], vs ++ [v], c2, ds2, U + U2, upd_same, ?_, by rw [List.length_append, hcl]; rfl, ⟨by rw [upd_ne (Ne.symm nLc)]; exact hcn2.1, hcn2.2⟩, by rw [upd_ne (Ne.symm nLd)]; exact hdr2, by lia, fun a o n1 n2 e => ?_⟩
      · exact ((hR.tup tk1).append hR2).tup tk2
      · rw [upd_ne (ne_of_none e hL)]
        exact kp2 _ _ n1 n2 (kp _ _ n1 n2 e)
    · rintro σ H' ⟨⟨v7, rfl⟩, cos, vs, c', ds', U, hLv, hR, hcl, hcn', hdr', hdl, kp⟩
      refine ⟨_, rfl, L, vs, rfl, .inl ⟨SqL.of hLv, fun t ht => ?_⟩⟩
      have s2 := same_upd (o := .tup vs) ht
      exact q _ t vs cos c' ds' U upd_same (hR.tup (Tup.of s2)) (by lia) ⟨s2 _ _ hcn'.1, hcn'.2⟩ (s2 _ _ hdr') hdl (kp.trans (Kp2.of s2))
abbrev NCore : List Str := ["_law_draws", "_law_depth", "_law_known", "_law_pool_here", "_law_count", "_law_cell", "_law_kind", "_law_more", "_law_many_here", "_law_params", "_law_body", "_law_parts"]
theorem scCore : FnScope NCore pCore (defScope sCore) := ⟨rfl, rfl, rfl, by decide +kernel, rfl, by decide +kernel, by decide +kernel⟩
theorem lcCore0 : LcS (defScope sCore).names [(".0", .local), ("_law_p", .local), ("_law_more", .free), ("_law_pool_here", .free)] NCore [false, false, false, true, false, false, false, true, false, false, false, false] := ⟨by decide +kernel, by decide +kernel, by decide +kernel, by decide +kernel, by decide +kernel, rfl⟩
theorem ndCore0 : (["_law_draws", "_law_depth", "_law_known", "_law_pool_here", "_law_count", "_law_cell", "_law_kind", "_law_more", "_law_many_here", "_law_params", "_law_body", "_law_parts", "_law_p"] : List Str).Nodup := by decide +kernel
theorem lcCore1 : LcS (defScope sCore).names [(".0", .local), ("_law_pair", .local)] NCore [false, false, false, false, false, false, false, false, false, false, false, false] := ⟨by decide +kernel, by decide +kernel, by decide +kernel, by decide +kernel, by decide +kernel, rfl⟩
theorem ndCore1 : (["_law_draws", "_law_depth", "_law_known", "_law_pool_here", "_law_count", "_law_cell", "_law_kind", "_law_more", "_law_many_here", "_law_params", "_law_body", "_law_parts", "_law_pair"] : List Str).Nodup := by decide +kernel
theorem core_step {d : Nat} {spR spM : Sp} {f fY fL fU fM : Addr} {fd fdY fdL fdU fdM : FuncData} (F : Fun K "_law_core" "_law_core" sCore f fd) (T : Txt mg) (bR : Binds K fd pCore []) (mR : mg "_law_core" = some (.ref f))
    (kY : PySem.W.keepIn K (.ref fY) = true) (bY : Binds K fdY ["_law_draws"] []) (mY : mg "_law_next" = some (.ref fY)) (GY : FnOk P w K mg base CX0 1 fY fdY ["_law_draws"] spNext)
    (kL : PySem.W.keepIn K (.ref fL) = true) (bL : Binds K fdL ["_law_cell", "_law_known", "_law_pool_here"] []) (mL : mg "_law_leaf" = some (.ref fL)) (GL : FnOk P w K mg base CX0 1 fL fdL ["_law_cell", "_law_known", "_law_pool_here"] spLeaf)
    (kU : PySem.W.keepIn K (.ref fU) = true) (bU : Binds K fdU ["_law_count", "_law_many_here"] []) (mU : mg "_law_new" = some (.ref fU)) (GU : FnOk P w K mg base CX0 1 fU fdU ["_law_count", "_law_many_here"] spNew)
    (kM : PySem.W.keepIn K (.ref fM) = true) (bM : Binds K fdM pMany []) (mM : mg "_law_many" = some (.ref fM)) (GM : FnOk P w K mg base CX0 (2 * d + 2) fM fdM pMany spM)
    (GR : FnOk P w K mg base CX0 (2 * d + 2) f fd pCore spR) (hsp : ∀ d', d = d' + 1 → spR = spCore d' ∧ spM = spMany d') : FnOk P w K mg base CX0 (2 * d + 3) f fd pCore (spCore d) := by
  refine F.ok scCore (fun vs H Q E h => ?_) (fun cdv A outer s H vs Q E hr h => ?_)
  · obtain ⟨dr, kl, D, cn, ds, Γ, c, rfl, _⟩ := h; rfl
  · obtain ⟨dr, kl, D, cn, ds, Γ, c, rfl, g, q⟩ := h
    have nd := scCore.nd
    have hr1 : Room 1 _ := hr.mono (by lia)
    have z1 : 1 ≤ sizeLine := by rw [sizeLine_eq]; decide
    have z2 : 2 ≤ sizeLine := by rw [sizeLine_eq]; decide
    have z3 : 3 ≤ sizeLine := by rw [sizeLine_eq]; decide
    refine ⟨_, Z.suite (Z.pss_cons (Z.ps_set (i := 5) nd rfl (Or.inl rfl) (Z.pe_call GY hr1 (by rfl) mY kY bY .nil pass0 (Z.pa_cons (Z.pv 0) Z.pa_nil)))
      (Z.pss_cons (Z.ps_set (i := 6) nd rfl (Or.inl rfl) (Z.pe_op op_mod (Z.pv 5) Z.pe_int))
      (Z.pss_cons (Z.ps_set (i := 7) nd rfl (Or.inr rfl) (Z.pe_op op_fdiv (Z.pv 5) Z.pe_int))
      (Z.pss_cons (Z.ps_if (Z.pt (Z.pw_or (Z.pt_cmpR op_eq (Z.pv 1) Z.pe_int (nomark _)) (Z.pw_or1 (Z.pt_cmpR op_lt (Z.pv 6) Z.pe_int (nomark _)))))
      (Z.pss_one (Z.ps_ret (Z.pe_call GL hr1 (by rfl) mL kL bL .nil pass0 (Z.pa_cons (Z.pv 7) (Z.pa_cons (Z.pv 2) (Z.pa_cons (Z.pv 3) Z.pa_nil))))))
      Z.pss_nil)
      (Z.pss_cons (Z.ps_if (Z.pt_cmpR op_lt (Z.pv 6) Z.pe_int (nomark _))
      (Z.pss_cons (Z.ps_set (i := 8) nd rfl (Or.inl rfl) (Z.pe_ix ix_list (Z.pe_lst (Z.pa_cons Z.pe_int (Z.pa_cons Z.pe_int (Z.pa_cons Z.pe_int (Z.pa_cons Z.pe_int (Z.pa_cons Z.pe_int (Z.pa_cons Z.pe_int (Z.pa_cons Z.pe_int (Z.pa_cons (Z.pe_op op_add Z.pe_int (Z.pe_op op_mod (Z.pe_op op_fdiv (Z.pv 7) Z.pe_int) Z.pe_int)) Z.pa_nil))))))))) (Z.pe_op op_mod (Z.pv 7) Z.pe_int) (fun _ _ => rfl)))
        (Z.pss_cons (Z.ps_set (i := 9) nd rfl (Or.inl rfl) ⟨pe_callTy call_tuple_of (by rfl) T.tuple bt_tuple' (pa_cons (pe_lc (ext := ["_law_p"]) lcCore0 rfl (pi_list (pe_call GU hr1 (by rfl) mU kU bU .nil pass0 (pa_cons (pv 4) (pa_cons (pv 8) pa_nil))))
          ⟨fun _ _ _ _ _ => (pg_name (i := 12) ndCore0 rfl (Or.inl rfl) (.inr rfl)), fun _ _ _ _ _ => pts_nil, fun _ _ _ _ _ => (pe_tup (pa_cons (pv 12) (pa_cons (pe_ix (ix_list : IxR _ (rIxL K)) (pv 3) (pe_op op_mod (pe_op op_add (pe_op op_fdiv (pv 7) pe_int) (pe_op op_mul (pv 12) (pv 12))) pe_int) (fun _ _ => rfl)) pa_nil)))⟩) pa_nil)⟩)
        (Z.pss_cons (Z.ps_set (i := 10) nd rfl (Or.inl rfl) (Z.pe_call GR hr (by rfl) mR F.kp bR .nil pass0 (Z.pa_cons (Z.pv 0) (Z.pa_cons (Z.pe_op op_sub (Z.pv 1) Z.pe_int) (Z.pa_cons (Z.pe_op op_cat ⟨pe_lc (ext := ["_law_pair"]) lcCore1 rfl (pi_tup (pv 9))
          ⟨fun _ _ _ _ _ => (pg_name (i := 12) ndCore1 rfl (Or.inl rfl) (.inr rfl)), fun _ _ _ _ _ => pts_nil, fun _ _ _ _ _ => (pe_ix (ix_tup : IxR _ (rIxT K)) (pv 12) pe_int (fun _ _ => rfl))⟩⟩ (Z.pv 2)) (Z.pa_cons (Z.pv 3) (Z.pa_cons (Z.pv 4) Z.pa_nil)))))))
        (Z.pss_one (Z.ps_ret (Z.pe_tup (Z.pa_cons Z.pe_str (Z.pa_cons (Z.pv 9) (Z.pa_cons (Z.pv 10) Z.pa_nil)))))))))
      Z.pss_nil)
      (Z.pss_cons (Z.ps_if (Z.pt_cmpR op_eq (Z.pv 6) Z.pe_int (nomark _))
      (Z.pss_cons (Z.ps_set (i := 11) nd rfl (Or.inl rfl) (Z.pe_call GM hr (by rfl) mM kM bM .nil pass0 (Z.pa_cons (Z.pv 0) (Z.pa_cons (Z.pe_op op_sub (Z.pv 1) Z.pe_int) (Z.pa_cons (Z.pv 2) (Z.pa_cons (Z.pv 3) (Z.pa_cons (Z.pv 4) (Z.pa_cons (Z.pe_op op_add Z.pe_int (Z.pe_op op_mod (Z.pv 7) Z.pe_int)) Z.pa_nil))))))))
        (Z.pss_one (Z.ps_ret (Z.pe_tup (Z.pa_cons Z.pe_str (Z.pa_cons (Z.pe_ix ix_tup (Z.pv 11) Z.pe_int (fun _ _ => rfl)) (Z.pa_cons (Z.pe_slice sl_tup (Z.pv 11) (Z.po_some Z.pe_int) Z.po_none) Z.pa_nil)))))))
      Z.pss_nil)
      (Z.pss_cons (Z.ps_if (Z.pt_cmpR op_eq (Z.pv 6) Z.pe_int (nomark _))
      (Z.pss_one (Z.ps_ret (Z.pe_op op_catT (Z.pe_tup (Z.pa_cons Z.pe_str Z.pa_nil)) (Z.pe_call GM hr (by rfl) mM kM bM .nil pass0 (Z.pa_cons (Z.pv 0) (Z.pa_cons (Z.pe_op op_sub (Z.pv 1) Z.pe_int) (Z.pa_cons (Z.pv 2) (Z.pa_cons (Z.pv 3) (Z.pa_cons (Z.pv 4) (Z.pa_cons Z.pe_int Z.pa_nil))))))))))
      Z.pss_nil)
      (Z.pss_one (Z.ps_ret (Z.pe_tup (Z.pa_cons Z.pe_str (Z.pa_cons (Z.pe_call GR hr (by rfl) mR F.kp bR .nil pass0 (Z.pa_cons (Z.pv 0) (Z.pa_cons (Z.pe_op op_sub (Z.pv 1) Z.pe_int) (Z.pa_cons (Z.pv 2) (Z.pa_cons (Z.pv 3) (Z.pa_cons (Z.pv 4) Z.pa_nil)))))) Z.pa_nil)))))))))))), ?_⟩
    refine ⟨_, rfl, dr, ds, rfl, g.hdr, fun H1 z ds1 hdr1 hl1 hz1 k1 => ?_⟩
    have kp1 : Kp2 H H1 cn dr := Kp2.of2 k1
    have hkl1 := k1 _ _ g.n3 g.hkl
    have hD1 := g.hD.keep k1 g.n5
    have hcn1 : CntAt H1 cn c := ⟨k1 _ _ (Ne.symm g.n1) g.hcn.1, g.hcn.2⟩
    refine ⟨_, rfl, _, _, rfl, rfl, (by show (0 : Int) < _; decide), ?_⟩
    refine ⟨_, rfl, _, _, rfl, rfl, ⟨by decide, by decide⟩, ?_⟩
    have leaf : ∀ E' : XK, spLeaf [.int (z / 8), .ref kl, .ref D] H1 Q E' := fun E' => by
      refine ⟨_, kl, D, Γ, rfl, hkl1, hD1, fun H2 t tg s2 hco hwf hlf => ?_⟩
      exact q _ _ _ c ds1 0 ((Res.leaf hco hwf hlf).weak (by lia)) ⟨s2 _ _ hcn1.1, hcn1.2⟩ (s2 _ _ hdr1) (by lia) (by lia) (kp1.trans (Kp2.of s2))
    refine ⟨_, rfl, rfl, decide ((d : Int) = 0), by rw [dec_I], ite2 (fun c1 => ?_) (fun c1 => ?_)⟩
    · exact iteT ⟨_, rfl, _, rfl, _, rfl, leaf E0⟩
    have hd0 : ¬ (d : Int) = 0 := fun z => c1 (decide_eq_true z)
    obtain ⟨d', rfl⟩ : ∃ d', d = d' + 1 := ⟨d - 1, by lia⟩
    obtain ⟨rfl, rfl⟩ := hsp d' rfl
    have ed : ((d' + 1 : Nat) : Int) - 1 = (d' : Int) := by lia
    refine ⟨_, rfl, _, _, rfl, rfl, _, rfl, ite2 (fun c2 => ?_) (fun c2 => ?_)⟩
    · exact ⟨_, rfl, _, rfl, _, rfl, leaf E0⟩
    have hz : ds1.length + 1 = ds.length := by
      rcases hz1 with e | e
      · exact absurd (decide_eq_true (by subst e; decide)) c2
      · exact e
    have hgl := g.gl
    have hgc := g.hc
    -- a fn
    refine ⟨_, rfl, _, _, rfl, rfl, _, rfl, ite2 (fun c3 => ?_) (fun c3 => ?_)⟩
    · refine ⟨_, rfl, _, _, rfl, rfl, ⟨by decide, by decide⟩, _, _, rfl, rfl, (by show (0 : Int) < _; decide), _, _, rfl, rfl, by rw [sizeLine_eq]; show 8 ≤ _; decide, fun l hl => ?_⟩
      have sl := same_upd (o := .lst [V.int 0, V.int 1, V.int 2, V.int 3, V.int 1, V.int 2, V.int 3, V.int (4 + z / 8 / 8 % 5)]) hl
      obtain ⟨v, ev, hv⟩ := at_mod (xs := [V.int 0, V.int 1, V.int 2, V.int 3, V.int 1, V.int 2, V.int 3, V.int (4 + z / 8 / 8 % 5)]) (z / 8) (n := 8) rfl (by decide)
      obtain ⟨m, rfl, hm8⟩ : ∃ m : Nat, v = .int (m : Int) ∧ m ≤ 8 := by
        simp only [List.mem_cons, List.not_mem_nil, or_false] at hv
        rcases hv with rfl | rfl | rfl | rfl | rfl | rfl | rfl | rfl
        · exact ⟨0, rfl, by decide⟩
        · exact ⟨1, rfl, by decide⟩
        · exact ⟨2, rfl, by decide⟩
        · exact ⟨3, rfl, by decide⟩
        · exact ⟨1, rfl, by decide⟩
        · exact ⟨2, rfl, by decide⟩
        · exact ⟨3, rfl, by decide⟩
        · exact ⟨(4 + z / 8 / 8 % 5).toNat, by congr 1; lia, by lia⟩
      refine ⟨_, rfl, _, _, rfl, rfl, (by show (0 : Int) < _; decide), l, _, _, _, rfl, rfl, SqL.of upd_same, ev, ?_⟩
      have hdr2 := sl _ _ hdr1
      have hkl2 := sl _ _ hkl1
      have hD2 := hD1.same sl
      have hcn2 : CntAt _ cn c := ⟨sl _ _ hcn1.1, hcn1.2⟩
      have kp2 := kp1.trans (Kp2.of sl)
      generalize upd H1 l (.lst [V.int 0, V.int 1, V.int 2, V.int 3, V.int 1, V.int 2, V.int 3, V.int (4 + z / 8 / 8 % 5)]) = H2 at hdr2 hkl2 hD2 hcn2 kp2 ⊢
      refine ⟨_, rfl, _, rfl, cn, m, c, rfl, hcn2, by lia, by lia, fun H3 L hL hcn3 k3 hLn => ?_⟩
      have hdr3 := k3 _ _ g.n1 hdr2
      have hkl3 := k3 _ _ g.n2 hkl2
      have hD3 := hD2.keep k3 g.n4
      have kp3 := kp2.trans (Kp2.of1 k3)
      have hDD := hD3
      obtain ⟨nn, hDn, hnl, hnn⟩ := hDD
      refine ⟨L, rfl, ⟨_, SqL.of hL⟩, fun R hRn => ?_⟩
      refine lc_lst (K := K) (a := L) (xs := (plsAt c m).map V.int) (fun k ys σ' H' => (∃ v, σ' = [none, none, none, some (.ref D), none, none, none, some (.int (z / 8)), none, none, none, none, v]) ∧ Same H3 H' ∧ H' R = some (.lst ys) ∧ ∃ ps : List (Int × Str), Al (PaIn H') ps ys ∧ ps.map (·.1) = (plsAt c m).take k ∧ ∀ x ∈ ps, Nm0 x.2)
        ⟨⟨_, rfl⟩, same_upd hRn, upd_same, [], Al.nil, by simp, fun x hx => nomatch hx⟩ (fun k ys σ' H' _ hP => SqL.of (hP.2.1 _ _ hL)) ?_ ?_
      · rintro k x ys σ' H' hx ⟨⟨v, rfl⟩, sH, hRy, ps, hps, hpf, hpn⟩
        unfold gName
        refine yes_if ?_
        have hk := (List.getElem?_eq_some_iff.mp hx).1
        rw [List.getElem?_map] at hx
        obtain ⟨p, ep, rfl⟩ := Option.map_eq_some_iff.mp hx
        have hyl := hps.1
        have hpl := congrArg List.length hpf
        rw [List.length_map, List.length_take, plsAt_len] at hpl
        obtain ⟨j, j1, j2, ej⟩ := plsAt_mem (List.mem_of_getElem? ep)
        have hpb : -(2 ^ 64) < p ∧ p < 2 ^ 64 := by rw [ej]; unfold pl; have := g.hcn.2; constructor <;> lia
        obtain ⟨nv, ev, hv⟩ := at_mod (xs := nn.map V.str) (z / 8 / 8 + p * p) (n := 13) (by rw [List.length_map]; exact hnl) (by decide)
        obtain ⟨n, hnm, rfl⟩ := List.mem_map.mp hv
        have hn33 := hnn n hnm
        refine ⟨_, rfl, _, rfl, _, rfl, _, _, rfl, rfl, ⟨by decide, by decide⟩, _, rfl, _, rfl, _, _, rfl, rfl, .inl hpb, _, _, rfl, rfl, _, _, rfl, rfl, (by show (0 : Int) < _; decide), D, _, _, _, rfl, rfl, SqL.of (sH _ _ hDn), ev, z2, fun u hu => ?_⟩
        have s4 := same_upd (o := .tup [.int p, .str n]) hu
        have hR4 := s4 _ _ hRy
        have tk := Tup.lst (ys := ys ++ [.ref u]) hR4
        refine ⟨hR4, by rw [sizeLine_eq]; lia, Beh.of hk ⟨⟨_, rfl⟩, fun e o qe => ?_, upd_same, ps ++ [(p, n)], ?_, ?_, fun x hx => ?_⟩⟩
        · rw [upd_ne (ne_of_none qe hRn)]; exact s4 _ _ (sH _ _ qe)
        · exact (hps.mono fun _ _ r => (r.tup (Tup.of s4)).tup tk).snoc ⟨u, rfl, tk _ _ upd_same⟩
        · rw [List.map_append, hpf, List.take_succ, ep]; rfl
        · rcases List.mem_append.mp hx with hx | hx
          · exact hpn x hx
          · rw [List.mem_singleton.mp hx]; exact ⟨hn33.1, by have := hn33.2; show n.length ≤ 34; lia⟩
      · rintro ys σ' H4 ⟨_, s4, hR4, ps, hpa, hpf, hpn⟩
        rw [List.length_map, List.take_length] at hpf
        have hpsl := congrArg List.length hpf
        rw [List.length_map, plsAt_len] at hpsl
        refine ⟨R, ys, rfl, .inl ⟨SqL.of hR4, fun t ht => ?_⟩⟩
        have s5 := same_upd (o := .tup ys) ht
        have ht5 : upd H4 t (.tup ys) t = some (.tup ys) := upd_same
        have s35 := s4.trans s5
        have hpa5 := hpa.mono fun _ _ r => r.tup (Tup.of s5)
        generalize upd H4 t (.tup ys) = H5 at s5 ht5 s35 hpa5 ⊢
        refine ⟨_, rfl, _, rfl, _, _, rfl, rfl, _, rfl, t, rfl, ⟨_, SqT.of ht5⟩, fun R2 hRn2 => ?_⟩
        refine lc_tpl (K := K) (a := t) (xs := ys) (fun k zs σ' H' => (∃ v, σ' = [none, none, none, none, none, none, none, none, none, none, none, none, v]) ∧ Same H5 H' ∧ H' R2 = some (.lst zs) ∧ zs = ((ps.map (·.1)).take k).map V.int)
          ⟨⟨_, rfl⟩, same_upd hRn2, upd_same, rfl⟩ (fun k zs σ' H' _ hP => SqT.of (hP.2.1 _ _ ht5)) ?_ ?_
        · rintro k x zs σ' H' hx ⟨⟨v, rfl⟩, sH, hRy, hys⟩
          unfold gName
          refine yes_if ?_
          have hk := (List.getElem?_eq_some_iff.mp hx).1
          obtain ⟨⟨p, n⟩, ep, hp⟩ := hpa5.at hx
          obtain ⟨t0, rfl, ht0⟩ := hp
          refine ⟨_, rfl, t0, _, _, _, rfl, rfl, SqT.of (sH _ _ ht0), rfl, hRy, ?_, Beh.of hk ⟨⟨_, rfl⟩, fun e o qe => ?_, upd_same, ?_⟩⟩
          · rw [hys, List.length_map, List.length_take, List.length_map, sizeLine_eq]; lia
          · rw [upd_ne (ne_of_none qe hRn2)]; exact sH _ _ qe
          · rw [hys, List.take_succ, List.getElem?_map, ep, List.map_append]; rfl
        · rintro zs σ' H6 ⟨_, s6, hR6, hys⟩
          have epl : ys.length = (ps.map (·.1)).length := by rw [hpa5.1, List.length_map]
          rw [epl, List.take_length] at hys
          rw [hys] at hR6
          have s36 := s35.trans s6
          have hkl6 := s36 _ _ hkl3
          refine ⟨_, rfl, R2, kl, _, _, rfl, rfl, hR6, hkl6, by rw [List.length_map, List.length_map, List.length_map, hpsl, sizeLine_eq]; lia, fun K2 hK2 => ?_⟩
          rw [← List.map_append]
          have s7 := same_upd (o := .lst ((ps.map (·.1) ++ Γ).map V.int)) hK2
          have s37 := s36.trans s7
          have hdr7 := s37 _ _ hdr3
          have hcn7 : CntAt _ cn (c + (m : Int)) := ⟨s37 _ _ hcn3.1, hcn3.2⟩
          have hD7 := hD3.same s37
          have kp7 := kp3.trans (Kp2.of s37)
          have ht7 := (s6.trans s7) _ _ ht5
          have hpa7 := hpa5.mono fun _ _ r => r.tup (Tup.of (s6.trans s7))
          have hK7 : upd H6 K2 (.lst ((ps.map (·.1) ++ Γ).map V.int)) K2 = some (.lst ((ps.map (·.1) ++ Γ).map V.int)) := upd_same
          have nKc : K2 ≠ cn := Ne.symm (ne_of_none (s36 _ _ hcn3.1) hK2)
          have nKd : K2 ≠ dr := Ne.symm (ne_of_none (s36 _ _ hdr3) hK2)
          generalize upd H6 K2 (.lst ((ps.map (·.1) ++ Γ).map V.int)) = H7 at hdr7 hcn7 hD7 kp7 ht7 hpa7 hK7 ⊢
          refine ⟨_, rfl, _, rfl, dr, K2, D, cn, ds1, ps.map (·.1) ++ Γ, c + (m : Int), (by show [V.ref dr, V.int (((d' + 1 : Nat) : Int) - 1), V.ref K2, V.ref D, V.ref cn] = _; rw [ed]), ⟨hdr7, hK7, hD7, hcn7, by lia, g.n1, nKc, nKd, g.n4, g.n5, by rw [List.length_append, List.length_map, hpsl]; lia⟩, fun H8 bv co c8 ds8 U8 hR8 hcn8 hdr8 hdl8 hU8 kp8 => ?_⟩
          have tk8 := kp8.tup hcn7.1 hdr7
          refine ⟨_, rfl, _, rfl, z3, fun t9 ht9 => ?_⟩
          have s9 := same_upd (o := .tup [.str "fn", .ref t, bv]) ht9
          have hR9 := hR8.tup (Tup.of s9)
          have up := Res.up (Γ := Γ) (c := c) (t := .fn ps) (a := t9) (show Res _ (scG Γ (.fn ps)) (c + (m : Int)) c8 U8 (d' + 1) [co] [bv] from hR9) ⟨t, ys, bv, rfl, upd_same, s9 _ _ (tk8 _ _ ht7), hpa7.mono fun _ _ r => (r.tup tk8).tup (Tup.of s9)⟩ ⟨by lia, hpn, rfl⟩ (by show 5 + ps.length + 1 ≤ 14; lia) (PB.of_pls hpf fun x hx => by have := (hpn x hx).2; lia) (by lia) (by lia)
          exact q _ _ _ c8 ds8 (1 + U8) (up.weak (by lia)) ⟨s9 _ _ hcn8.1, hcn8.2⟩ (s9 _ _ hdr8) (by lia) (by lia) ((kp7.trans kp8).trans (Kp2.of s9))
    -- the others: inputs of the makings
    have gin : ∀ (H2 : Hp), Same H1 H2 → GenIn H2 dr kl D cn ds1 Γ c d' := fun H2 s2 => ⟨s2 _ _ hdr1, s2 _ _ hkl1, hD1.same s2, ⟨s2 _ _ hcn1.1, hcn1.2⟩, by lia, g.n1, g.n2, g.n3, g.n4, g.n5, by lia⟩
    -- a call
    refine ⟨_, rfl, rfl, _, rfl, ite2 (fun c4 => ?_) (fun c4 => ?_)⟩
    · have m0 := Int.emod_nonneg (z / 8) (show (4 : Int) ≠ 0 by decide)
      have m1 := Int.emod_lt_of_pos (z / 8) (show (0 : Int) < 4 by decide)
      obtain ⟨m, em, hm4⟩ : ∃ m : Nat, 1 + z / 8 % 4 = ((m + 1 : Nat) : Int) ∧ m ≤ 3 := ⟨(z / 8 % 4).toNat, by lia, by lia⟩
      refine ⟨_, rfl, _, rfl, _, _, rfl, rfl, _, rfl, _, rfl, _, rfl, _, rfl, _, _, rfl, rfl, (by show (0 : Int) < _; decide), _, _, rfl, rfl, dr, kl, D, cn, ds1, Γ, c, m + 1, ?_, gin H1 (Same.refl _), by lia, fun H2 t pvs cos c2 ds2 U2 ht hR2 hcl hcn2 hdr2 hU2 kp2 => ?_⟩
      · show [V.ref dr, V.int (((d' + 1 : Nat) : Int) - 1), V.ref kl, V.ref D, V.ref cn, V.int (1 + z / 8 % 4)] = _
        rw [ed, em]
      obtain ⟨co, cos', rfl, _⟩ := some_of hcl
      obtain ⟨x, xs, rfl, hx, hxs⟩ := hR2.al.uncons
      refine ⟨_, rfl, t, _, _, _, rfl, rfl, SqT.of ht, atI_nat (j := 0) rfl, _, rfl, _, rfl, t, _, rfl, SqT.of ht, cut_no _ _, fun p hp => ?_⟩
      rw [cut_tail]
      have s3 := same_upd (o := .tup xs) hp
      refine ⟨z3, fun t4 ht4 => ?_⟩
      have s4 := same_upd (o := .tup [.str "call", x, .ref p]) ht4
      have up := Res.up (Γ := Γ) (c := c) (t := .call) (a := t4) (show Res _ (scG Γ .call) c c2 U2 (d' + 1) (co :: cos') (x :: xs) from hR2.tup (Tup.of (s3.trans s4))) ⟨p, x, xs, rfl, upd_same, s4 _ _ upd_same⟩ ⟨by lia, by lia⟩ (by show 2 + _ ≤ 14; lia) PB.nil (Int.le_refl _) (by lia)
      exact q _ _ _ c2 ds2 (1 + U2) (up.weak (by lia)) ⟨s4 _ _ (s3 _ _ hcn2.1), hcn2.2⟩ (s4 _ _ (s3 _ _ hdr2)) (by lia) (by lia) ((kp1.trans kp2).trans (Kp2.of (s3.trans s4)))
    -- a pick
    refine ⟨_, rfl, rfl, _, rfl, ite2 (fun c5 => ?_) (fun c5 => ?_)⟩
    · refine ⟨z1, fun t1 ht1 => ?_⟩
      have s1 := same_upd (o := .tup [.str "pick"]) ht1
      refine ⟨_, rfl, _, rfl, _, _, rfl, rfl, _, rfl, _, rfl, _, rfl, dr, kl, D, cn, ds1, Γ, c, 3, ?_, gin _ s1, by lia, fun H2 t pvs cos c2 ds2 U2 ht hR2 hcl hcn2 hdr2 hU2 kp2 => ?_⟩
      · show [V.ref dr, V.int (((d' + 1 : Nat) : Int) - 1), V.ref kl, V.ref D, V.ref cn, V.int 3] = _
        rw [ed]; rfl
      have tk2 := kp2.tup (s1 _ _ hcn1.1) (s1 _ _ hdr1)
      obtain ⟨k1', k2', k3', rfl⟩ := three_of hcl
      obtain ⟨x1, r1, rfl, hx1, hr1⟩ := hR2.al.uncons
      obtain ⟨x2, r2, rfl, hx2, hr2⟩ := hr1.uncons
      obtain ⟨x3, r3, rfl, hx3, hr3⟩ := hr2.uncons
      have er := hr3.nil_of
      subst er
      refine ⟨t1, t, _, _, rfl, rfl, SqT.of (tk2 _ _ upd_same), SqT.of ht, (fun z => nomatch z), by rw [sizeLine_eq]; show 1 + 3 ≤ _; decide, (fun z => nomatch z), fun _ t4 ht4 => ?_⟩
      have s4 := same_upd (o := .tup [.str "pick", x1, x2, x3]) ht4
      have up := Res.up (Γ := Γ) (c := c) (t := .pick) (a := t4) (show Res _ (scG Γ .pick) c c2 U2 (d' + 1) [k1', k2', k3'] [x1, x2, x3] from hR2.tup (Tup.of s4)) ⟨x1, x2, x3, rfl, upd_same⟩ rfl (by show 3 + 3 ≤ 14; decide) PB.nil (Int.le_refl _) (by lia)
      exact q _ _ _ c2 ds2 (1 + U2) (up.weak (by lia)) ⟨s4 _ _ hcn2.1, hcn2.2⟩ (s4 _ _ hdr2) (by lia) (by lia) (((kp1.trans (Kp2.of s1)).trans kp2).trans (Kp2.of s4))
    -- a now
    refine ⟨_, rfl, _, rfl, _, _, rfl, rfl, _, rfl, _, rfl, _, rfl, dr, kl, D, cn, ds1, Γ, c, ?_, gin H1 (Same.refl _), fun H2 v co c2 ds2 U2 hR2 hcn2 hdr2 hdl2 hU2 kp2 => ?_⟩
    · show [V.ref dr, V.int (((d' + 1 : Nat) : Int) - 1), V.ref kl, V.ref D, V.ref cn] = _
      rw [ed]
    refine ⟨z2, fun t4 ht4 => ?_⟩
    have s4 := same_upd (o := .tup [.str "now", v]) ht4
    have up := Res.up (Γ := Γ) (c := c) (t := .now) (a := t4) (show Res _ (scG Γ .now) c c2 U2 (d' + 1) [co] [v] from hR2.tup (Tup.of s4)) ⟨v, rfl, upd_same⟩ rfl (by show 3 + 1 ≤ 14; decide) PB.nil (Int.le_refl _) (by lia)
    exact q _ _ _ c2 ds2 (1 + U2) (up.weak (by lia)) ⟨s4 _ _ hcn2.1, hcn2.2⟩ (s4 _ _ hdr2) (by lia) (by lia) ((kp1.trans kp2).trans (Kp2.of s4))
theorem ok_core {f fY fL fU fM : Addr} {fd fdY fdL fdU fdM : FuncData} (F : Fun K "_law_core" "_law_core" sCore f fd) (T : Txt mg) (bR : Binds K fd pCore []) (mR : mg "_law_core" = some (.ref f))
    (FY : Fun K "_law_next" "_law_next" sNext fY fdY) (bY : Binds K fdY ["_law_draws"] []) (mY : mg "_law_next" = some (.ref fY))
    (FL : Fun K "_law_leaf" "_law_leaf" sLeaf fL fdL) (bL : Binds K fdL ["_law_cell", "_law_known", "_law_pool_here"] []) (mL : mg "_law_leaf" = some (.ref fL))
    (FU : Fun K "_law_new" "_law_new" sNew fU fdU) (bU : Binds K fdU ["_law_count", "_law_many_here"] []) (mU : mg "_law_new" = some (.ref fU))
    (FM : Fun K "_law_many" "_law_many" sMany fM fdM) (bM : Binds K fdM pMany []) (mM : mg "_law_many" = some (.ref fM)) : ∀ d, FnOk P w K mg base CX0 (2 * d + 3) f fd pCore (spCore d)
  | 0 => core_step F T bR mR FY.kp bY mY (ok_next FY T) FL.kp bL mL (ok_leaf FL T) FU.kp bU mU (ok_new FU T) FM.kp bM mM fn_no fn_no fun d' h => nomatch h
  | d + 1 => by
    have ih := ok_core F T bR mR FY bY mY FL bL mL FU bU mU FM bM mM d
    exact core_step F T bR mR FY.kp bY mY (ok_next FY T) FL.kp bL mL (ok_leaf FL T) FU.kp bU mU (ok_new FU T) FM.kp bM mM (many_step FM T F.kp bR mR ih) (ih.mono (by lia)) fun d' h => by injection h with h; rw [h]; exact ⟨rfl, rfl⟩
end
end K75

set_option Elab.async false
set_option linter.all false
set_option maxRecDepth 100000
set_option maxHeartbeats 4000000
set_option exponentiation.threshold 3000
/-! k75: the law's items. Own work. -/
namespace K75
open PySem L2 Builtin.Str TR SH
theorem cut_ints (ns : List Int) (lo hi : Option Int) : ∃ ms : List Int, cutV (ns.map V.int) lo hi = ms.map V.int ∧ ms.length ≤ ns.length := by
  have hl := cutV_length (ns.map V.int) lo hi
  unfold cutV at hl ⊢
  refine ⟨(ns.drop (HT.sIx (ns.map V.int).length 0 lo)).take (HT.sIx (ns.map V.int).length (ns.map V.int).length hi - HT.sIx (ns.map V.int).length 0 lo), ?_, ?_⟩
  · rw [List.map_take, List.map_drop]
  · rw [List.length_take, List.length_drop]; omega
def Kp3 (H H' : Hp) (x y z : Addr) : Prop := ∀ a o, a ≠ x → a ≠ y → a ≠ z → H a = some o → H' a = some o
/-- the P's of items -/
def bndI (its : List It) : List (Int × Str) := (cores its).flatMap parms
theorem bndI_snoc (its : List It) (it : It) : bndI (its ++ [it]) = bndI its ++ bnds [it.core] := by
  unfold bndI bnds
  rw [cores_snoc, List.flatMap_append, pres_cons]
  simp [pres]
structure RsI (H : Hp) (Γ : List Int) (c c' : Int) (U : Nat) (its : List It) (iv : List V) : Prop where
  al : Al (ItIn H) its iv
  wf : ∀ it ∈ its, Wf Γ it.core
  dp : ∀ it ∈ its, dp it.core ≤ 6
  sg : ((its.map fun it => sg it.core).sum) ≤ its.length + 13 * U
  pb : PB c c' (bndI its)
  le : c ≤ c'
  cb : c' ≤ c + 8 * (U : Int)
theorem RsI.nil {H : Hp} {Γ : List Int} {c : Int} : RsI H Γ c c 0 [] [] := ⟨Al.nil, (fun it hit => nomatch hit), (fun it hit => nomatch hit), by simp, PB.nil, Int.le_refl _, by lia⟩
theorem RsI.tup {H H' : Hp} {Γ : List Int} {c c' : Int} {U : Nat} {its : List It} {iv : List V} (h : RsI H Γ c c' U its iv) (s : Tup H H') : RsI H' Γ c c' U its iv := ⟨h.al.mono fun _ _ r => ItIn.tup s r, h.wf, h.dp, h.sg, h.pb, h.le, h.cb⟩
theorem RsI.snoc {H : Hp} {Γ : List Int} {c c1 c2 : Int} {U U2 : Nat} {its : List It} {iv : List V} {it : It} {v x : V} (h : RsI H Γ c c1 U its iv) (hx : ItIn H it x) (hR : Res H Γ c1 c2 U2 6 [it.core] [v]) : RsI H Γ c c2 (U + U2) (its ++ [it]) (iv ++ [x]) := by
  have hw := hR.wf
  unfold Wfs at hw
  have hd := hR.dp
  rw [dps, dps] at hd
  have hs := hR.sg
  rw [sgs_one] at hs
  refine ⟨h.al.snoc hx, fun y hy => ?_, fun y hy => ?_, ?_, ?_, ?_, ?_⟩
  · rcases List.mem_append.mp hy with hy | hy
    · exact h.wf y hy
    · rw [List.mem_singleton.mp hy]; exact hw.1
  · rcases List.mem_append.mp hy with hy | hy
    · exact h.dp y hy
    · rw [List.mem_singleton.mp hy]; lia
  · rw [List.map_append, List.sum_append, List.length_append]
    have := h.sg
    simp only [List.map_cons, List.map_nil, List.sum_cons, List.sum_nil, List.length_singleton] at hs ⊢
    lia
  · rw [bndI_snoc]; exact h.pb.append hR.pb h.le hR.le
  · have := h.le; have := hR.le; lia
  · have := h.cb; have := hR.cb; lia
def spItems (K : PySem.W.Frag) : Sp := fun vs H Q _ => ∃ (a D cn : Addr) (ns : List Int) (c : Int), vs = [.ref a, .ref D, .ref cn] ∧ (∀ H' : Hp, (∀ o, H a = some o → a ≠ cn → H' a = some o) → SqL K H' a (ns.map V.int)) ∧ ns.length ≤ 63 ∧ PoolAt H D ∧ CntAt H cn c ∧ c ≤ 10 ^ 18 ∧ D ≠ cn ∧
  ∀ (H' : Hp) (I : Addr) (its : List It) (iv : List V), H' I = some (.lst iv) → Al (ItIn H') its iv → Wfi its → ((tops its ++ bndI its).map (·.1)).Nodup → (∀ b o, b ≠ cn → H b = some o → H' b = some o) → Q (.ref I) H'
section
variable {P : Program} {w : World} {K : PySem.W.Frag} {mg : Str → Option Value} {base : Heap}
abbrev NIt : List Str := ["_law_script", "_law_pool_here", "_law_count", "_law_draws", "_law_tops", "_law_items_here", "_law_place", "_law_name"]
theorem scIt : FnScope NIt ["_law_script", "_law_pool_here", "_law_count"] (defScope sItems) := ⟨rfl, rfl, rfl, by decide +kernel, rfl, by decide +kernel, by decide +kernel⟩
/-- the shows' loop -/
def ShowW (a D cn dr Tl I : Addr) (v6 v7 : Option V) (Γ : List Int) (nm0 : List (Int × Str)) (c0 : Int) (H1 : Hp) (k : Nat) (σ : St) (H' : Hp) : Prop := ∃ (ds' : List Int) (its : List It) (iv : List V) (c' : Int) (U : Nat), σ = [some (.ref a), some (.ref D), some (.ref cn), some (.ref dr), some (.ref Tl), some (.ref I), v6, v7] ∧ H' dr = some (.lst (ds'.map V.int)) ∧ H' I = some (.lst iv) ∧ CntAt H' cn c' ∧ RsI H' Γ c0 c' U its iv ∧ tops its = nm0 ∧ its.length + ds'.length ≤ 70 ∧ U + ds'.length ≤ 63 ∧ Kp3 H1 H' cn dr I ∧ k = ds'.length
theorem ok_items {f fX fU fR : Addr} {fd fdX fdU fdR : FuncData} (F : Fun K "_law_items" "_law_items" sItems f fd) (T : Txt mg)
    (kX : PySem.W.keepIn K (.ref fX) = true) (bX : Binds K fdX ["_law_script", "_law_k"] []) (mX : mg "_law_cell_at" = some (.ref fX)) (GX : FnOk P w K mg base CX0 1 fX fdX ["_law_script", "_law_k"] (spCell K))
    (kU : PySem.W.keepIn K (.ref fU) = true) (bU : Binds K fdU ["_law_count", "_law_many_here"] []) (mU : mg "_law_new" = some (.ref fU)) (GU : FnOk P w K mg base CX0 1 fU fdU ["_law_count", "_law_many_here"] spNew)
    (kR : PySem.W.keepIn K (.ref fR) = true) (bR : Binds K fdR pCore []) (mR : mg "_law_core" = some (.ref fR)) (GR4 : FnOk P w K mg base CX0 13 fR fdR pCore (spCore 4)) (GR5 : FnOk P w K mg base CX0 13 fR fdR pCore (spCore 5)) :
    FnOk P w K mg base CX0 14 f fd ["_law_script", "_law_pool_here", "_law_count"] (spItems K) := by
  refine F.ok scIt (fun vs H Q E h => ?_) (fun cdv A outer s H vs Q E hr h => ?_)
  · obtain ⟨a, D, cn, ns, c, rfl, _⟩ := h; rfl
  · obtain ⟨a, D, cn, ns, c, rfl, hscr, hl, hD, hcn, hc18, nDc, q⟩ := h
    have hS : SqL K H a (ns.map V.int) := hscr H (fun _ e _ => e)
    have nd := scIt.nd
    have hr1 : Room 1 _ := hr.mono (by lia)
    have z2 : 2 ≤ sizeLine := by rw [sizeLine_eq]; decide
    have z4 : 4 ≤ sizeLine := by rw [sizeLine_eq]; decide
    refine ⟨_, pss_cons (ps_set (i := 3) nd rfl (Or.inl rfl) (pe_sliceS (pe_slice sl_list (pv 0) (po_some pe_int) (po_some pe_int)) po_none po_none (po_some (pe_un un_neg pe_int))))
      (pss_cons (ps_set (i := 4) nd rfl (Or.inl rfl) (pe_call GU hr1 (by rfl) mU kU bU .nil pass0 (pa_cons (pv 2) (pa_cons (pe_op op_mod (pe_call GX hr1 (by rfl) mX kX bX .nil pass0 (pa_cons (pv 0) (pa_cons pe_int pa_nil))) pe_int) pa_nil))))
      (pss_cons (ps_set (i := 5) nd rfl (Or.inl rfl) (pe_lst pa_nil))
      (pss_cons (ps_for PassesOwn.never rfl (pi_list (pv 4)) (pg_name (i := 6) nd rfl (Or.inl rfl))
      (pss_cons (ps_set (i := 7) nd rfl (Or.inl rfl) (pe_ix ix_list (pv 1) (pe_op op_mod (pe_op op_add (pe_op op_fdiv (pe_call GX hr1 (by rfl) mX kX bX .nil pass0 (pa_cons (pv 0) (pa_cons pe_int pa_nil))) pe_int) (pe_op op_mul (pv 6) (pv 6))) pe_int) (fun _ _ => rfl)))
        (pss_one (ps_expr (pe_bm PySem.F.plainAttrs_list PySem.F.slot_list_append PySem.F.type_list_append mt_append (pv 5) (pa_cons (pe_tup (pa_cons pe_str (pa_cons (pv 6) (pa_cons (pv 7) (pa_cons (pe_call GR4 hr (by rfl) mR kR bR .nil pass0 (pa_cons (pv 3) (pa_cons pe_int (pa_cons (pv 4) (pa_cons (pv 1) (pa_cons (pv 2) pa_nil)))))) pa_nil))))) pa_nil))))))
      (pss_cons (ps_while PassesOwn.never (pt_cmpR op_gt (pe_callB call_len_seq (by rfl) T.len bt_len (pa_cons (pv 3) pa_nil)) pe_int (nomark _))
      (pss_one (ps_expr (pe_bm PySem.F.plainAttrs_list PySem.F.slot_list_append PySem.F.type_list_append mt_append (pv 5) (pa_cons (pe_tup (pa_cons pe_str (pa_cons (pe_call GR5 hr (by rfl) mR kR bR .nil pass0 (pa_cons (pv 3) (pa_cons pe_int (pa_cons (pv 4) (pa_cons (pv 1) (pa_cons (pv 2) pa_nil)))))) pa_nil))) pa_nil)))))
      (pss_one (ps_ret (pv 5))))))), ?_⟩
    -- draws, turned round
    obtain ⟨ds0, ec, hdl0'⟩ := cut_ints ns (some 3) (some 61)
    refine ⟨_, rfl, _, rfl, _, rfl, a, _, rfl, hS, fun L hL0 => ?_⟩
    rw [ec]
    have hdl0 : ds0.length ≤ 63 := by lia
    have s1 := same_upd (o := .lst (ds0.map V.int)) hL0
    have hL : upd H L (.lst (ds0.map V.int)) L = some (.lst (ds0.map V.int)) := upd_same
    generalize upd H L (.lst (ds0.map V.int)) = H1 at s1 hL ⊢
    refine ⟨_, rfl, _, rfl, L, _, rfl, SqL.of hL, (by decide), fun dr hdr => ?_⟩
    rw [pick_map]
    have hdl : (pickA ds0 none none (some (-1))).length ≤ 63 := Nat.le_trans (len_pickA _ _ _ _) hdl0
    have s2 := same_upd (o := .lst ((pickA ds0 none none (some (-1))).map V.int)) hdr
    have hdr2 : upd H1 dr (.lst ((pickA ds0 none none (some (-1))).map V.int)) dr = some (.lst ((pickA ds0 none none (some (-1))).map V.int)) := upd_same
    have hdrH : H dr = none := s1.free hdr
    have s12 := s1.trans s2
    generalize pickA ds0 none none (some (-1)) = ds at hdl hdr2 s12 ⊢
    generalize upd H1 dr (.lst (ds.map V.int)) = H2 at hdr2 s12 ⊢
    have ndc : dr ≠ cn := Ne.symm (ne_of_none hcn.1 hdrH)
    have hcn2 : CntAt H2 cn c := ⟨s12 _ _ hcn.1, hcn.2⟩
    have nDd : D ≠ dr := by obtain ⟨nn, e, _⟩ := hD; exact ne_of_none e hdrH
    have hD2 := hD.same s12
    -- tops
    refine ⟨_, rfl, _, rfl, a, 1, ns, rfl, hscr _ (fun o e _ => s12 _ _ e), hl, fun z => ?_⟩
    have m0 := Int.emod_nonneg z (show (5 : Int) ≠ 0 by decide)
    have m1 := Int.emod_lt_of_pos z (show (0 : Int) < 5 by decide)
    obtain ⟨m, em, hm⟩ : ∃ m : Nat, z % 5 = (m : Int) ∧ m ≤ 4 := ⟨(z % 5).toNat, by lia, by lia⟩
    refine ⟨_, _, rfl, rfl, (by show (0 : Int) < _; decide), cn, m, c, ?_, hcn2, by lia, by lia, fun H3 Tl hTl hcn3 k3 hTn => ?_⟩
    · show [V.ref cn, V.int (z % 5)] = _
      rw [em]
    have hdr3 := k3 _ _ ndc hdr2
    have nTc : Tl ≠ cn := Ne.symm (ne_of_none hcn2.1 hTn)
    have nTd : Tl ≠ dr := Ne.symm (ne_of_none hdr2 hTn)
    have hb3 : ∀ b o, b ≠ cn → H b = some o → H3 b = some o := fun b o n e => k3 _ _ n (s12 _ _ e)
    have ha3 : ∀ o, H a = some o → a ≠ cn → H3 a = some o := fun o e n => k3 _ _ n (s12 _ _ e)
    have hD3 := hD2.keep k3 nDc
    -- items
    refine ⟨Nat.zero_le _, fun I hI => ?_⟩
    have s4 := same_upd (o := .lst []) hI
    have nIc : I ≠ cn := Ne.symm (ne_of_none hcn3.1 hI)
    have nId : I ≠ dr := Ne.symm (ne_of_none hdr3 hI)
    have nIT : I ≠ Tl := Ne.symm (ne_of_none hTl hI)
    have nID : I ≠ D := by obtain ⟨nn, e, _⟩ := hD3; exact Ne.symm (ne_of_none e hI)
    have hbn : ∀ b o, b ≠ cn → H b = some o → b ≠ dr ∧ b ≠ I := fun b o n e => ⟨ne_of_none e hdrH, ne_of_none (hb3 b o n e) hI⟩
    have han : ∀ o, H a = some o → a ≠ dr ∧ a ≠ I := fun o e => ⟨ne_of_none e hdrH, fun z => by
      by_cases n : a = cn
      · exact nIc (z ▸ n)
      · exact ne_of_none (ha3 o e n) hI z⟩
    have hI5 : upd H3 I (.lst []) I = some (.lst []) := upd_same
    have ha5 : ∀ o, H a = some o → a ≠ cn → upd H3 I (.lst []) a = some o := fun o e n => s4 _ _ (ha3 o e n)
    have hb5 : ∀ b o, b ≠ cn → H b = some o → upd H3 I (.lst []) b = some o := fun b o n e => s4 _ _ (hb3 b o n e)
    have hD5 := hD3.same s4
    have hTl5 := s4 _ _ hTl
    have hdr5 := s4 _ _ hdr3
    have hcn5 : CntAt _ cn (c + (m : Int)) := ⟨s4 _ _ hcn3.1, hcn3.2⟩
    generalize upd H3 I (.lst []) = H5 at hI5 ha5 hb5 hD5 hTl5 hdr5 hcn5 ⊢
    -- the defs
    refine ⟨_, rfl, Tl, rfl, ⟨_, SqL.of hTl5⟩, for_list (xs := (plsAt c m).map V.int) (fun i σ H' => ∃ (v5 v6 : Option V) (its : List It) (iv : List V) (c2 : Int) (ds' : List Int) (U : Nat), σ = [some (.ref a), some (.ref D), some (.ref cn), some (.ref dr), some (.ref Tl), some (.ref I), v5, v6] ∧ H' I = some (.lst iv) ∧ RsI H' (plsAt c m) (c + (m : Int)) c2 U its iv ∧ (tops its).map (·.1) = (plsAt c m).take i ∧ (∀ x ∈ tops its, Nm0 x.2) ∧ its.length = i ∧ CntAt H' cn c2 ∧ H' dr = some (.lst (ds'.map V.int)) ∧ U + ds'.length ≤ 63 ∧ Kp3 H5 H' cn dr I)
      ⟨_, _, [], [], _, ds, 0, rfl, hI5, RsI.nil, rfl, (fun x hx => nomatch hx), rfl, hcn5, hdr5, by lia, fun _ _ _ _ _ e => e⟩ (fun i σ H' _ hP => by obtain ⟨_, _, _, _, _, _, _, _, _, _, _, _, _, _, _, _, k⟩ := hP; exact SqL.of (k _ _ nTc nTd (Ne.symm nIT) hTl5)) ?_ ?_⟩
    · rintro i x σ H' hi ⟨v5, v6, its, iv, c2, ds', U, rfl, hI', hRd, htd, htn, hil', hcn', hdr', hU, kp⟩
      have hil := (List.getElem?_eq_some_iff.mp hi).1
      rw [List.length_map, plsAt_len] at hil
      rw [List.getElem?_map] at hi
      obtain ⟨p, ex, rfl⟩ := Option.map_eq_some_iff.mp hi
      obtain ⟨j, j1, j2, ej⟩ := plsAt_mem (List.mem_of_getElem? ex)
      have hpb : -(2 ^ 64) < p ∧ p < 2 ^ 64 := by rw [ej]; unfold pl; have := hcn.2; constructor <;> lia
      have hDp : PoolAt H' D := by obtain ⟨nn, e, r⟩ := hD5; exact ⟨nn, kp _ _ nDc nDd (Ne.symm nID) e, r⟩
      have hDp0 := hDp
      obtain ⟨nn, hDn, hnl, hnn⟩ := hDp
      refine ⟨_, rfl, _, rfl, a, 1, ns, rfl, hscr _ (fun o e n => kp _ _ n (han o e).1 (han o e).2 (ha5 o e n)), hl, fun z' => ?_⟩
      obtain ⟨nv, ev, hv⟩ := at_mod (xs := nn.map V.str) (z' / 5 + p * p) (n := 13) (by rw [List.length_map]; exact hnl) (by decide)
      obtain ⟨nm', hnm, rfl⟩ := List.mem_map.mp hv
      have hn33 := hnn nm' hnm
      refine ⟨_, _, rfl, rfl, ⟨by decide, by decide⟩, _, rfl, _, rfl, _, _, rfl, rfl, .inl hpb, _, _, rfl, rfl, _, _, rfl, rfl, (by show (0 : Int) < _; decide), D, _, _, _, rfl, rfl, SqL.of hDn, ev, ?_⟩
      have hTl' := kp _ _ nTc nTd (Ne.symm nIT) hTl5
      have hI6 := hI'
      have hcn6 := hcn'
      have hdr6 := hdr'
      have hcb := hRd.cb
      refine ⟨_, rfl, .inl ⟨rfl, _, SqL.of hI6⟩, _, rfl, _, rfl, _, rfl, _, rfl, _, rfl, _, rfl, dr, Tl, D, cn, ds', plsAt c m, c2, rfl, ⟨hdr6, hTl', hDp0, hcn6, by lia, ndc, nTc, nTd, nDc, nDd, by rw [plsAt_len]; lia⟩, fun H7 v co c7 ds7 U7 hR7 hcn7 hdr7 hdl7 hU7 kp7 => ?_⟩
      have hI7 := kp7 _ _ nIc nId hI6
      have tk7 := kp7.tup hcn6.1 hdr6
      refine ⟨z4, fun t ht => ?_⟩
      have s8 := same_upd (o := .tup [.str "def", .int p, .str nm', v]) ht
      have hI8 := s8 _ _ hI7
      have tk9 := Tup.lst (ys := iv ++ [.ref t]) hI8
      have hco : CoIn H7 co v := by obtain ⟨x, xs, e, h1, _⟩ := hR7.al.uncons; cases e; exact h1
      refine ⟨I, iv, .ref t, rfl, rfl, hI8, by rw [hRd.al.1, hil', sizeLine_eq]; lia, ?_⟩
      refine ⟨_, _, its ++ [.defi p nm' co], iv ++ [.ref t], c7, ds7, U + U7, rfl, upd_same, ?_, ?_, fun x hx => ?_, by rw [List.length_append, hil']; rfl, ?_, ?_, by lia, fun b o n1 n2 n3 e => ?_⟩
      · exact (((hRd.tup tk7).tup (Tup.of s8)).tup tk9).snoc (it := .defi p nm' co) (v := v) ⟨t, v, rfl, tk9 _ _ upd_same, (hco.tup (Tup.of s8)).tup tk9⟩ (((hR7.weak (by lia)).tup (Tup.of s8)).tup tk9)
      · rw [tops_snoc, List.map_append, htd, List.take_succ, ex]; rfl
      · rw [tops_snoc] at hx
        rcases List.mem_append.mp hx with hx | hx
        · exact htn x hx
        · have : x = (p, nm') := by simpa [It.top] using hx
          rw [this]
          exact ⟨hn33.1, by have := hn33.2; show nm'.length ≤ 34; lia⟩
      · exact ⟨by rw [upd_ne (Ne.symm nIc)]; exact s8 _ _ hcn7.1, hcn7.2⟩
      · rw [upd_ne (Ne.symm nId)]; exact s8 _ _ hdr7
      · rw [upd_ne n3]; exact s8 _ _ (kp7 _ _ n1 n2 (kp _ _ n1 n2 n3 e))
    · rintro σ H6 ⟨v5, v6, its, iv, c2, ds', U, rfl, hI6, hRd, htd, htn, hil', hcn6, hdr6, hU, kp⟩
      rw [List.length_map, List.take_length] at htd
      rw [List.length_map, plsAt_len] at hil'
      have hTl6 := kp _ _ nTc nTd (Ne.symm nIT) hTl5
      -- the shows
      refine ⟨ShowW a D cn dr Tl I v5 v6 (plsAt c m) (tops its) (c + (m : Int)) H6, ⟨_, ds', its, iv, c2, U, rfl, hdr6, hI6, hcn6, hRd, rfl, by lia, hU, fun _ _ _ _ _ e => e, rfl⟩, ?_⟩
      rintro k σ H' ⟨ds7, its7, iv7, c7, U7, rfl, hdr', hI', hcn', hR', hts', hil7, hU7, kp7, rfl⟩
      refine ⟨_, rfl, dr, _, rfl, .inl (SqL.of hdr'), _, _, rfl, rfl, _, rfl, ite2 (fun c1 => ?_) (fun c1 => ?_)⟩
      · have hpos : 0 < ds7.length := by have := of_decide_eq_true c1; rw [List.length_map] at this; lia
        refine ⟨fun σ' H'' => ∃ m', m' < ds7.length ∧ ShowW a D cn dr Tl I v5 v6 (plsAt c m) (tops its) (c + (m : Int)) H6 m' σ' H'', fun _ _ z => z, ?_⟩
        refine ⟨_, rfl, .inl ⟨rfl, _, SqL.of hI'⟩, _, rfl, _, rfl, _, rfl, _, rfl, dr, Tl, D, cn, ds7, plsAt c m, c7, rfl, ⟨hdr', kp7 _ _ nTc nTd (Ne.symm nIT) hTl6, (by obtain ⟨nn, e, r⟩ := hD5; exact ⟨nn, kp7 _ _ nDc nDd (Ne.symm nID) (kp _ _ nDc nDd (Ne.symm nID) e), r⟩), hcn', by have := hR'.cb; lia, ndc, nTc, nTd, nDc, nDd, by rw [plsAt_len]; lia⟩, fun H8 v co c8 ds8 U8 hR8 hcn8 hdr8 hdl8 hU8 kp8 => ?_⟩
        have hI8 := kp8 _ _ nIc nId hI'
        have tk8 := kp8.tup hcn'.1 hdr'
        refine ⟨z2, fun t ht => ?_⟩
        have s9 := same_upd (o := .tup [.str "show", v]) ht
        have hI9 := s9 _ _ hI8
        have tk9 := Tup.lst (ys := iv7 ++ [.ref t]) hI9
        have hco : CoIn H8 co v := by obtain ⟨x, xs, e, h1, _⟩ := hR8.al.uncons; cases e; exact h1
        refine ⟨I, iv7, .ref t, rfl, rfl, hI9, by rw [hR'.al.1, sizeLine_eq]; lia, _, ?_, ds8, its7 ++ [.shw co], iv7 ++ [.ref t], c8, U7 + U8, rfl, ?_, upd_same, ?_, ?_, ?_, by rw [List.length_append, List.length_singleton]; lia, by lia, fun b o n1 n2 n3 e => ?_, rfl⟩
        · lia
        · rw [upd_ne (Ne.symm nId)]; exact s9 _ _ hdr8
        · exact ⟨by rw [upd_ne (Ne.symm nIc)]; exact s9 _ _ hcn8.1, hcn8.2⟩
        · exact (((hR'.tup tk8).tup (Tup.of s9)).tup tk9).snoc (it := .shw co) (v := v) ⟨t, v, rfl, tk9 _ _ upd_same, (hco.tup (Tup.of s9)).tup tk9⟩ ((hR8.tup (Tup.of s9)).tup tk9)
        · rw [tops_snoc, hts']; exact List.append_nil _
        · rw [upd_ne n3]; exact s9 _ _ (kp8 _ _ n1 n2 (kp7 _ _ n1 n2 n3 e))
      · refine ⟨_, rfl, q H' I its7 iv7 hI' hR'.al ⟨by lia, fun it hit => ?_, fun x hx => ?_, fun it hit => ?_, ?_⟩ ?_ fun b o n e => kp7 _ _ n (hbn b o n e).1 (hbn b o n e).2 (kp _ _ n (hbn b o n e).1 (hbn b o n e).2 (hb5 b o n e))⟩
        · rw [hts', htd]; exact hR'.wf it hit
        · rw [hts'] at hx; exact htn x hx
        · exact hR'.dp it hit
        · have := hR'.sg; lia
        · have hp1 : PB c (c + (m : Int)) (tops its7) := PB.of_pls (by rw [hts', htd]) fun x hx => by rw [hts'] at hx; have := (htn x hx).2; lia
          exact (hp1.append hR'.pb (by lia) hR'.le).1
end
end K75

set_option Elab.async false
set_option linter.all false
set_option maxRecDepth 100000
set_option maxHeartbeats 4000000
set_option exponentiation.threshold 3000
/-! k75: items with other names, with other places: the mathematics. Own work. -/
namespace K75
open PySem L2 Builtin.Str TR SH
def mvP (w p : Int) : Int := if w = 0 then p else 3 * 10 ^ 18 - p * w
theorem mv0 (p : Int) : mvP 0 p = p := rfl
theorem mvP_inj {w p q : Int} (hw : 0 ≤ w ∧ w ≤ 2) (h : mvP w p = mvP w q) : p = q := by
  unfold mvP at h
  have hc : w = 0 ∨ w = 1 ∨ w = 2 := by lia
  rcases hc with rfl | rfl | rfl
  · exact h
  · rw [if_neg (by decide), if_neg (by decide)] at h; lia
  · rw [if_neg (by decide), if_neg (by decide)] at h; lia
def getN (kvs : List (Key × V)) (p : Int) (n : Str) : Str := match vN kvs p with
  | some (.str x) => x
  | _ => n
def chP (kvs : List (Key × V)) (w : Int) (x : Int × Str) : Int × Str := (mvP w x.1, getN kvs x.1 x.2)
def chT (kvs : List (Key × V)) (w : Int) : Tg → Tg
  | .seen p => .seen (mvP w p)
  | .fn ps => .fn (ps.map (chP kvs w))
  | t => t
mutual
def chC (kvs : List (Key × V)) (w : Int) : Co → Co
  | .mk t ks => .mk (chT kvs w t) (chCs kvs w ks)
def chCs (kvs : List (Key × V)) (w : Int) : List Co → List Co
  | [] => []
  | k :: ks => chC kvs w k :: chCs kvs w ks
end
theorem chCs_map (kvs : List (Key × V)) (w : Int) : ∀ ks : List Co, chCs kvs w ks = ks.map (chC kvs w)
  | [] => by rw [chCs]; rfl
  | k :: ks => by rw [chCs, chCs_map kvs w ks]; rfl
theorem chC_mk (kvs : List (Key × V)) (w : Int) (t : Tg) (ks : List Co) : chC kvs w (.mk t ks) = .mk (chT kvs w t) (ks.map (chC kvs w)) := by rw [chC, chCs_map]
def chI (kvs : List (Key × V)) (w : Int) : It → It
  | .defi p n c => .defi (mvP w p) (getN kvs p n) (chC kvs w c)
  | .shw c => .shw (chC kvs w c)
theorem chI_core (kvs : List (Key × V)) (w : Int) (it : It) : (chI kvs w it).core = chC kvs w it.core := by cases it <;> rfl
theorem chI_top (kvs : List (Key × V)) (w : Int) (it : It) : (chI kvs w it).top = it.top.map (chP kvs w) := by cases it <;> rfl
mutual
theorem pre_ch (kvs : List (Key × V)) (w : Int) : ∀ c : Co, pre (chC kvs w c) = (pre c).map (chC kvs w)
  | .mk t ks => by
    rw [pre_eq, List.map_cons, chC, pre_eq, pres_ch kvs w ks]
theorem pres_ch (kvs : List (Key × V)) (w : Int) : ∀ cs : List Co, pres (chCs kvs w cs) = (pres cs).map (chC kvs w)
  | [] => by simp [chCs, pres]
  | c :: cs => by rw [chCs, pres_cons, pres_cons, List.map_append, pre_ch kvs w c, pres_ch kvs w cs]
end
theorem sgT_ch (kvs : List (Key × V)) (w : Int) (t : Tg) : sgT (chT kvs w t) = sgT t := by
  cases t with
  | fn ps => show 5 + (ps.map _).length = 5 + ps.length; rw [List.length_map]
  | _ => rfl
mutual
theorem sg_ch (kvs : List (Key × V)) (w : Int) : ∀ c : Co, sg (chC kvs w c) = sg c
  | .mk t ks => by rw [chC, sg_mk, sg_mk, sgT_ch, sgs_ch kvs w ks]
theorem sgs_ch (kvs : List (Key × V)) (w : Int) : ∀ cs : List Co, sgs (chCs kvs w cs) = sgs cs
  | [] => by rw [chCs]
  | c :: cs => by rw [chCs, sgs, sgs, sg_ch kvs w c, sgs_ch kvs w cs]
end
mutual
theorem dp_ch (kvs : List (Key × V)) (w : Int) : ∀ c : Co, dp (chC kvs w c) = dp c
  | .mk t ks => by rw [chC, dp_mk, dp_mk, dps_ch kvs w ks]
theorem dps_ch (kvs : List (Key × V)) (w : Int) : ∀ cs : List Co, dps (chCs kvs w cs) = dps cs
  | [] => by rw [chCs]
  | c :: cs => by rw [chCs, dps, dps, dp_ch kvs w c, dps_ch kvs w cs]
end
theorem parms_ch (kvs : List (Key × V)) (w : Int) (c : Co) : parms (chC kvs w c) = (parms c).map (chP kvs w) := by
  obtain ⟨t, ks⟩ := c
  rw [chC]
  cases t <;> rfl
theorem nm_ch (kvs : List (Key × V)) (w : Int) (c : Co) : nm (chC kvs w c) = nm c := by
  obtain ⟨t, ks⟩ := c
  rw [chC]
  cases t <;> rfl
theorem tops_ch (kvs : List (Key × V)) (w : Int) (its : List It) : tops (its.map (chI kvs w)) = (tops its).map (chP kvs w) := by
  unfold tops
  rw [List.filterMap_map, List.map_filterMap]
  congr 1
  funext it
  show (chI kvs w it).top = _
  rw [chI_top]
theorem cores_ch (kvs : List (Key × V)) (w : Int) (its : List It) : cores (its.map (chI kvs w)) = (cores its).map (chC kvs w) := by
  unfold cores
  rw [List.flatMap_map, List.map_flatMap]
  congr 1
  funext it
  rw [chI_core, pre_ch]
theorem UI_ch (kvs : List (Key × V)) (w : Int) (its : List It) : UI (its.map (chI kvs w)) = UI its := by
  funext x
  apply propext
  unfold UI
  rw [cores_ch]
  constructor
  · rintro ⟨d, hd, h⟩
    obtain ⟨e, he, rfl⟩ := List.mem_map.mp hd
    exact ⟨e, he, by rw [nm_ch] at h; exact h⟩
  · rintro ⟨e, he, h⟩
    exact ⟨_, List.mem_map.mpr ⟨e, he, rfl⟩, by rw [nm_ch]; exact h⟩
/-! ### places that are told once -/
theorem puts_other : ∀ {r : List (Int × Str)} {kvs : List (Key × V)} {p : Int}, (∀ x ∈ r, x.1 ≠ p) → vN (puts kvs r) p = vN kvs p
  | [], kvs, p, _ => rfl
  | y :: r, kvs, p, h => by
    show vN (puts (putK kvs (.inl (some y.1)) (.str y.2)) r) p = _
    rw [puts_other (r := r) fun x hx => h x (List.mem_cons_of_mem _ hx)]
    show valV _ _ = _
    rw [valV_put, if_neg]
    intro z
    exact h y (List.mem_cons_self ..) (Option.some.inj (Sum.inl.inj z)).symm
theorem puts_mem : ∀ {r : List (Int × Str)} {kvs : List (Key × V)} {p : Int} {n : Str}, (r.map (·.1)).Nodup → (p, n) ∈ r → vN (puts kvs r) p = some (.str n)
  | y :: r, kvs, p, n, hn, h => by
    show vN (puts (putK kvs (.inl (some y.1)) (.str y.2)) r) p = _
    rw [List.map_cons, List.nodup_cons] at hn
    rcases List.mem_cons.mp h with e | h
    · subst e
      rw [puts_other (r := r) fun x hx z => hn.1 (List.mem_map.mpr ⟨x, hx, z⟩)]
      show valV _ _ = _
      rw [valV_put, if_pos rfl]
    · exact puts_mem hn.2 h
def plc (cs : List Co) : List Int := (cs.flatMap parms).map (·.1)
theorem plc_cons (x : Co) (ys : List Co) : plc (x :: ys) = (parms x).map (·.1) ++ plc ys := by
  unfold plc
  rw [List.flatMap_cons, List.map_append]
theorem FN.keep {k k' : List (Key × V)} {cs : List Co} (h : FN k cs k') {p : Int} : p ∉ plc cs → vN k' p = vN k p := by
  induction h with
  | nil => exact fun _ => rfl
  | skip hd h ih =>
    intro hp
    rw [plc_cons, List.mem_append] at hp
    exact ih fun z => hp (.inr z)
  | @fn k k' ps r b U cs hn h ih =>
    intro hp
    rw [plc_cons, List.mem_append] at hp
    rw [ih fun z => hp (.inr z)]
    refine puts_other fun x hx e => hp (.inl ?_)
    show p ∈ ps.map (·.1)
    rw [← hn.fst]
    exact List.mem_map.mpr ⟨x, hx, e⟩
/-! ### the names given in the place of the own ones -/
theorem NT.self {U0 : Str → Prop} {ps r : List (Int × Str)} {U : Str → Prop} (h : NT U0 ps r U) : NT U0 r r U := by
  induction h with
  | nil => exact .nil
  | @snoc ps0 r0 U1 p0 n0 m0 h hm ih =>
    have h2 : Lst U1 (nbn n0 m0) 1 := ⟨by decide, hm.2.1, fun j h1 h2 => by lia⟩
    exact ih.snoc (p := p0) h2
theorem rn_eq {K : List (Key × V)} : ∀ {ps r : List (Int × Str)}, r.map (·.1) = ps.map (·.1) → (∀ x ∈ r, vN K x.1 = some (.str x.2)) → ps.map (chP K 0) = r
  | [], [], _, _ => rfl
  | [], y :: r, h, _ => nomatch h
  | x :: ps, [], h, _ => nomatch h
  | x :: ps, y :: r, h, hv => by
    rw [List.map_cons, List.map_cons] at h
    injection h with h1 h2
    rw [List.map_cons, rn_eq h2 fun z hz => hv z (List.mem_cons_of_mem _ hz)]
    have h3 := hv y (List.mem_cons_self ..)
    congr 1
    unfold chP getN
    rw [mv0, ← h1, h3]
theorem nmS_rn (k K : List (Key × V)) (e : Co) (x : Str) : nmS k (chC K 0 e) x ↔ nmS k e x := by
  unfold nmS
  rw [nm_ch]
  obtain ⟨t, ks⟩ := e
  rw [chC]
  constructor
  · rintro (h | ⟨p, ks', e, h⟩)
    · exact .inl h
    · cases t with
      | seen q => injection e with e1 e2; injection e1 with e3; subst e3; exact .inr ⟨q, ks, rfl, h⟩
      | _ => injection e with e1 e2; exact nomatch e1
  · rintro (h | ⟨p, ks', e, h⟩)
    · exact .inl h
    · injection e with e1 e2
      subst e1
      exact .inr ⟨p, _, rfl, h⟩
theorem ch_fn {K : List (Key × V)} {w : Int} {d : Co} {ps : List (Int × Str)} {ks : List Co} (h : chC K w d = .mk (.fn ps) ks) : ∃ ps' ks', d = .mk (.fn ps') ks' := by
  obtain ⟨t, ks'⟩ := d
  rw [chC] at h
  cases t with
  | fn ps' => exact ⟨ps', ks', rfl⟩
  | _ => injection h with h1 h2; exact nomatch h1
theorem FN.rn {k K : List (Key × V)} {cs : List Co} (h : FN k cs K) : (plc cs).Nodup → FN k (cs.map (chC K 0)) K := by
  induction h with
  | nil => exact fun _ => .nil
  | @skip k k' d cs hd h ih =>
    intro hn
    rw [plc_cons, List.nodup_append] at hn
    refine .skip (fun ps ks e => ?_) (ih hn.2.1)
    obtain ⟨ps', ks', rfl⟩ := ch_fn e
    exact hd ps' ks' rfl
  | @fn k k' ps r b U cs hn h ih =>
    intro hnd
    rw [plc_cons, List.nodup_append] at hnd
    have h0 : (ps.map (·.1)).Nodup := hnd.1
    have hr : ps.map (chP k' 0) = r := rn_eq hn.fst fun x hx => by
      have hp : x.1 ∈ ps.map (·.1) := by rw [← hn.fst]; exact List.mem_map.mpr ⟨x, hx, rfl⟩
      rw [h.keep fun z => hnd.2.2 _ hp _ z rfl]
      exact puts_mem (by rw [hn.fst]; exact h0) hx
    rw [List.map_cons, chC_mk]
    show FN k (.mk (.fn (ps.map (chP k' 0))) [chC k' 0 b] :: cs.map (chC k' 0)) k'
    rw [hr]
    have hU : (fun x => ∃ e ∈ pre (chC k' 0 b), nmS k e x) = fun x => ∃ e ∈ pre b, nmS k e x := by
      funext x
      apply propext
      rw [pre_ch]
      constructor
      · rintro ⟨e, he, hx⟩
        obtain ⟨e', he', rfl⟩ := List.mem_map.mp he
        exact ⟨e', he', (nmS_rn k k' e' x).mp hx⟩
      · rintro ⟨e, he, hx⟩
        exact ⟨_, List.mem_map.mpr ⟨e, he, rfl⟩, (nmS_rn k k' e x).mpr hx⟩
    exact .fn (U := U) (by rw [hU]; exact hn.self) (ih hnd.2.1)
theorem Nam.rn {its : List It} {K : List (Key × V)} (h : Nam its K) (hnd : ((tops its ++ bndI its).map (·.1)).Nodup) : Nam (its.map (chI K 0)) K := by
  obtain ⟨r, U, h1, h2⟩ := h
  rw [List.map_append, List.nodup_append] at hnd
  have hr : (tops its).map (chP K 0) = r := rn_eq h1.fst fun x hx => by
    have hp : x.1 ∈ (tops its).map (·.1) := by rw [← h1.fst]; exact List.mem_map.mpr ⟨x, hx, rfl⟩
    rw [h2.keep fun z => hnd.2.2 _ hp _ z rfl]
    exact puts_mem (by rw [h1.fst]; exact hnd.1) hx
  refine ⟨r, U, ?_, ?_⟩
  · rw [UI_ch, tops_ch, hr]; exact h1.self
  · rw [cores_ch]; exact h2.rn hnd.2.1
/-! ### other places -/
def Rel (w : Int) (k k' : List (Key × V)) : Prop := ∀ p, vN k' (mvP w p) = vN k p
theorem Rel.nil (w : Int) : Rel w [] [] := fun p => by unfold vN; rw [valV_nil, valV_nil]
theorem getN_nil (p : Int) (n : Str) : getN [] p n = n := by unfold getN vN; rw [valV_nil]
theorem chP_nil (w : Int) (x : Int × Str) : chP [] w x = (mvP w x.1, x.2) := by unfold chP; rw [getN_nil]
theorem NT.mv (w : Int) {U0 : Str → Prop} {ps r : List (Int × Str)} {U : Str → Prop} (h : NT U0 ps r U) : NT U0 (ps.map (chP [] w)) (r.map (chP [] w)) U := by
  induction h with
  | nil => exact .nil
  | @snoc ps0 r0 U1 p0 n0 m0 h hm ih =>
    rw [List.map_append, List.map_append]
    simp only [List.map_cons, List.map_nil, chP_nil]
    exact ih.snoc hm
theorem Rel.puts {w : Int} (hw : 0 ≤ w ∧ w ≤ 2) : ∀ {r : List (Int × Str)} {k k' : List (Key × V)}, Rel w k k' → Rel w (K75.puts k r) (K75.puts k' (r.map (chP [] w)))
  | [], k, k', h => h
  | x :: r, k, k', h => by
    show Rel w (K75.puts (L2.putK k (.inl (some x.1)) (.str x.2)) r) (K75.puts (L2.putK k' (.inl (some (chP [] w x).1)) (.str (chP [] w x).2)) (r.map (chP [] w)))
    refine Rel.puts hw fun p => ?_
    rw [chP_nil]
    show valV _ _ = valV _ _
    rw [valV_put, valV_put]
    by_cases e : p = x.1
    · rw [if_pos (by rw [e]), if_pos (by rw [e])]
    · rw [if_neg (fun z => e (mvP_inj hw (Option.some.inj (Sum.inl.inj z)))), if_neg (fun z => e (Option.some.inj (Sum.inl.inj z)))]
      exact h p
theorem nmS_mv {w : Int} {k k' : List (Key × V)} (hR : Rel w k k') (kv : List (Key × V)) (e : Co) (x : Str) : nmS k' (chC kv w e) x ↔ nmS k e x := by
  unfold nmS
  rw [nm_ch]
  obtain ⟨t, ks⟩ := e
  rw [chC]
  constructor
  · rintro (h | ⟨p, ks', e, h⟩)
    · exact .inl h
    · cases t with
      | seen q =>
        injection e with e1 e2; injection e1 with e3; subst e3
        exact .inr ⟨q, ks, rfl, (hR q).symm.trans h⟩
      | _ => injection e with e1 e2; exact nomatch e1
  · rintro (h | ⟨p, ks', e, h⟩)
    · exact .inl h
    · injection e with e1 e2
      subst e1
      exact .inr ⟨mvP w p, _, rfl, (hR p).trans h⟩
theorem FN.mv {w : Int} (hw : 0 ≤ w ∧ w ≤ 2) {k K : List (Key × V)} {cs : List Co} (h : FN k cs K) : ∀ {k' : List (Key × V)}, Rel w k k' → ∃ K', FN k' (cs.map (chC [] w)) K' ∧ Rel w K K' := by
  induction h with
  | nil => exact fun hR => ⟨_, .nil, hR⟩
  | @skip k K d cs hd h ih =>
    intro k' hR
    obtain ⟨K', h1, h2⟩ := ih hR
    refine ⟨K', .skip (fun ps ks e => ?_) h1, h2⟩
    obtain ⟨ps', ks', rfl⟩ := ch_fn e
    exact hd ps' ks' rfl
  | @fn k K ps r b U cs hn h ih =>
    intro k' hR
    obtain ⟨K', h1, h2⟩ := ih (hR.puts hw (r := r))
    refine ⟨K', ?_, h2⟩
    rw [List.map_cons, chC_mk]
    have hU : (fun x => ∃ e ∈ pre (chC [] w b), nmS k' e x) = fun x => ∃ e ∈ pre b, nmS k e x := by
      funext x
      apply propext
      rw [pre_ch]
      constructor
      · rintro ⟨e, he, hx⟩
        obtain ⟨e', he', rfl⟩ := List.mem_map.mp he
        exact ⟨e', he', (nmS_mv hR [] e' x).mp hx⟩
      · rintro ⟨e, he, hx⟩
        exact ⟨_, List.mem_map.mpr ⟨e, he, rfl⟩, (nmS_mv hR [] e x).mpr hx⟩
    exact .fn (ps := ps.map (chP [] w)) (b := chC [] w b) (U := U) (by rw [hU]; exact hn.mv w) h1
theorem Nam.mv {w : Int} (hw : 0 ≤ w ∧ w ≤ 2) {its : List It} {K : List (Key × V)} (h : Nam its K) : ∃ K', Nam (its.map (chI [] w)) K' ∧ Rel w K K' := by
  obtain ⟨r, U, h1, h2⟩ := h
  obtain ⟨K', h3, h4⟩ := h2.mv hw ((Rel.nil w).puts hw (r := r))
  refine ⟨K', ⟨r.map (chP [] w), U, ?_, ?_⟩, h4⟩
  · rw [UI_ch, tops_ch]; exact h1.mv w
  · rw [cores_ch]; exact h3
/-! ### trees -/
theorem Rel.name {w : Int} {K K' : List (Key × V)} (h : Rel w K K') (p : Int) : nameK K' (mvP w p) = nameK K p := by unfold nameK; rw [h p]
theorem Rel.has {w : Int} {K K' : List (Key × V)} (h : Rel w K K') {p : Int} (g : Has K p) : Has K' (mvP w p) := by unfold Has at g ⊢; rw [h p]; exact g
theorem Rel.same (K : List (Key × V)) : Rel 0 K K := fun p => rfl
theorem headT_ch {w : Int} {K K' : List (Key × V)} (h : Rel w K K') (kv : List (Key × V)) (t : Tg) : headT K' (chT kv w t) = headT K t := by
  cases t with
  | fn ps =>
    show [wd "fn", .row ((ps.map (chP kv w)).map fun x => wd (nameK K' x.1)) 0] = [wd "fn", .row (ps.map fun x => wd (nameK K x.1)) 0]
    rw [List.map_map]
    have e : ((fun x : Int × Str => wd (nameK K' x.1)) ∘ chP kv w) = fun x : Int × Str => wd (nameK K x.1) := by
      funext x
      show wd (nameK K' (mvP w x.1)) = _
      rw [h.name]
    rw [e]
  | _ => rfl
theorem rowT_ch (kv : List (Key × V)) (w : Int) (t : Tg) : rowT (chT kv w t) = rowT t := by cases t <;> rfl
mutual
theorem treeC_ch {w : Int} {K K' : List (Key × V)} (h : Rel w K K') (kv : List (Key × V)) : ∀ c : Co, treeC K' (chC kv w c) = treeC K c
  | .mk t ks => by
    rw [chC]
    by_cases hr : rowT t = true
    · rw [treeC_row K hr, treeC_row K' (by rw [rowT_ch]; exact hr), headT_ch h, ← treeCs_map, ← treeCs_map, treeCs_ch h kv ks]
    · cases t with
      | num z => simp only [chT, treeC]
      | free n => simp only [chT, treeC]
      | seen p => simp only [chT, treeC, h.name]
      | _ => exact absurd rfl hr
theorem treeCs_ch {w : Int} {K K' : List (Key × V)} (h : Rel w K K') (kv : List (Key × V)) : ∀ cs : List Co, treeCs K' (chCs kv w cs) = treeCs K cs
  | [] => by rw [chCs, treeCs, treeCs]
  | c :: cs => by rw [chCs, treeCs, treeCs, treeC_ch h kv c, treeCs_ch h kv cs]
end
theorem treeW_ch {w : Int} {K K' : List (Key × V)} (h : Rel w K K') (kv : List (Key × V)) (its : List It) : treeW K' (its.map (chI kv w)) = treeW K its := by
  unfold treeW
  rw [List.map_map]
  have e : (treeI K' ∘ chI kv w) = treeI K := by
    funext it
    cases it with
    | defi p n c => show Tr.row [wd "def", wd (nameK K' (mvP w p)), treeC K' (chC kv w c)] 0 = _; rw [h.name, treeC_ch h]; rfl
    | shw c => show Tr.row [wd "show", treeC K' (chC kv w c)] 0 = _; rw [treeC_ch h]; rfl
  rw [e]
mutual
theorem Nd.ch {w : Int} {K K' : List (Key × V)} (h : Rel w K K') (kv : List (Key × V)) : ∀ {c : Co}, Nd K c → Nd K' (chC kv w c)
  | .mk t ks, g => by
    unfold Nd at g
    rw [chC]
    unfold Nd
    refine ⟨?_, by rw [chCs_map, List.length_map]; exact g.2.1, Nds.ch h kv g.2.2⟩
    cases t with
    | num z => exact g.1
    | free n => exact g.1
    | seen p => exact h.has g.1
    | fn ps =>
      refine ⟨by rw [List.length_map]; exact g.1.1, fun x hx => ?_⟩
      obtain ⟨y, hy, rfl⟩ := List.mem_map.mp hx
      exact h.has (g.1.2 y hy)
    | _ => trivial
theorem Nds.ch {w : Int} {K K' : List (Key × V)} (h : Rel w K K') (kv : List (Key × V)) : ∀ {cs : List Co}, Nds K cs → Nds K' (chCs kv w cs)
  | [], _ => by rw [chCs]; unfold Nds; trivial
  | c :: cs, g => by
    unfold Nds at g
    rw [chCs]
    unfold Nds
    exact ⟨Nd.ch h kv g.1, Nds.ch h kv g.2⟩
end
theorem Wri.ch {w : Int} {its : List It} {K K' kv : List (Key × V)} (hW : Wri its) (hN : Nam its K) (hN' : Nam (its.map (chI kv w)) K') (hR : Rel w K K') (hl : ∀ p n, n.length ≤ 100 → (getN kv p n).length ≤ 100) : Wri (its.map (chI kv w)) := by
  have hall := hW.all K hN
  refine ⟨⟨?_, ?_, ?_, ?_, ?_⟩, ?_, ?_, ?_⟩
  · rw [List.length_map]; exact hW.ok.len
  · rw [cores_ch, List.length_map]; exact hW.ok.csz
  · intro p n hx
    rw [tops_ch] at hx
    obtain ⟨y, hy, e⟩ := List.mem_map.mp hx
    have : n = getN kv y.1 y.2 := congrArg Prod.snd e.symm
    rw [this]
    exact hl _ _ (hW.ok.tnm y.1 y.2 hy)
  · intro d hd x hx
    rw [cores_ch] at hd
    obtain ⟨e, he, rfl⟩ := List.mem_map.mp hd
    rw [parms_ch] at hx
    obtain ⟨y, hy, rfl⟩ := List.mem_map.mp hx
    exact hl _ _ (hW.ok.pnm e he y hy)
  · intro d hd
    rw [cores_ch] at hd
    obtain ⟨e, he, rfl⟩ := List.mem_map.mp hd
    rw [parms_ch, List.length_map]
    exact hW.ok.pln e he
  · rw [List.length_map]; exact hW.len
  · rw [List.map_map]
    have e : ((fun it : It => K75.sg it.core) ∘ chI kv w) = fun it => K75.sg it.core := by
      funext it
      show K75.sg (chI kv w it).core = _
      rw [chI_core, sg_ch]
    rw [e]
    exact hW.sg
  · intro k hk it hit
    rw [hk.uniq hN']
    obtain ⟨y, hy, rfl⟩ := List.mem_map.mp hit
    obtain ⟨a1, a2, a3⟩ := hall y hy
    refine ⟨by rw [chI_core]; exact a1.ch hR kv, fun x hx => ?_, by rw [chI_core, dp_ch]; exact a3⟩
    rw [chI_top] at hx
    obtain ⟨u, hu, rfl⟩ := Option.map_eq_some_iff.mp hx
    exact hR.has (a2 u hu)
theorem Nam.good {its : List It} {k : List (Key × V)} (hN : Nam its k) (h : Wfi its) : GoodK k := by
  obtain ⟨r, U, h1, h2⟩ := hN
  have hi := h.its
  have hl := h.len
  have htl := tops_len its
  obtain ⟨hr, _⟩ := h1.nms (k := (cores its).length) (by have := hi.csz; lia) (cov_UI its) h.nm
  exact (h2.good (fun d hd => by
    obtain ⟨it, hit, hdp⟩ := mem_cores.mp hd
    have h3 := Wf.parms (h.wf it hit) hdp
    have h4 := core_len hit
    have h5 := pre_sz hdp
    exact ⟨by have := hi.csz; lia, h3.1, h3.2⟩) (GoodK.nil.puts hr)).1
theorem GoodK.get {k : List (Key × V)} (h : GoodK k) (p : Int) (n : Str) (hn : n.length ≤ 100) : (getN k p n).length ≤ 100 := by
  unfold getN
  cases e : vN k p with
  | none => exact hn
  | some v =>
    obtain ⟨x, rfl, hx⟩ := h p v e
    exact hx.2
end K75

set_option Elab.async false
set_option linter.all false
set_option maxRecDepth 100000
set_option maxHeartbeats 4000000
set_option exponentiation.threshold 3000
/-! k75: items with other names, with other places: the law's makers. Own work. -/
namespace K75
open PySem L2 Builtin.Str TR SH
def spMoved : Sp := fun vs H Q _ => ∃ (p w : Int), vs = [.int p, .int w] ∧ (0 ≤ w ∧ w ≤ 2) ∧ Q (.int (mvP w p)) H
def spChanged (d : Nat) : Sp := fun vs H Q _ => ∃ (v : V) (co : Co) (dn : Addr) (kvs K0 : List (Key × V)) (w : Int), vs = [v, .ref dn, .int w] ∧ CoIn H co v ∧ H dn = some (.dK kvs) ∧ Strs kvs ∧ (0 ≤ w ∧ w ≤ 2) ∧ Nd K0 co ∧ dp co ≤ d ∧
  ∀ (H' : Hp) (v' : V), Same H H' → CoIn H' (chC kvs w co) v' → Q v' H'
theorem get_str {kvs : List (Key × V)} (hS : Strs kvs) (p : Int) (n : Str) : (valV kvs (.inl (some p))).getD (.str n) = .str (getN kvs p n) := by
  unfold getN vN
  cases e : valV kvs (.inl (some p)) with
  | none => rfl
  | some v => obtain ⟨x, rfl⟩ := hS _ _ e; rfl
/-- the parts changed -/
theorem lc_changed {d : Nat} {sp : Sp} {K : PySem.W.Frag} {u dn D : Addr} {H : Hp} {xs : List V} {ks : List Co} {kvs K0 : List (Key × V)} {w : Int} {Q : Hp → Prop} (hu : H u = some (.tup xs)) (hal : Al (CoIn H) ks xs) (hdn : H dn = some (.dK kvs)) (hS : Strs kvs) (hw : 0 ≤ w ∧ w ≤ 2) (hD : H D = none)
    (hnd : ∀ k ∈ ks, Nd K0 k) (hdp : dps ks + 1 ≤ d) (hkl : ks.length ≤ 4) (hsp : ∀ e, d = e + 1 → sp = spChanged e) (hq : ∀ H' ys, Same H H' → H' D = some (.lst ys) → Al (CoIn H') (ks.map (chC kvs w)) ys → Q H') :
    ∃ W : Nat → Nat → List V → St → Hp → Prop, (∃ m, W 0 m [] [none, some (.ref dn), some (.int w), none, none, none] (upd H D (.lst []))) ∧ lcTurn (Itt K u) D (gName 5) tYes (tCall sp [] E0 (tCons (tVar 5) (tCons (tVar 1) (tCons (tVar 2) tNil)))) Q W := by
  refine lc_tpl (K := K) (a := u) (xs := xs) (fun k ys σ' H' => (∃ v, σ' = [none, some (.ref dn), some (.int w), none, none, v]) ∧ Same H H' ∧ H' D = some (.lst ys) ∧ Al (CoIn H') ((ks.take k).map (chC kvs w)) ys)
    ⟨⟨_, rfl⟩, same_upd hD, upd_same, Al.nil⟩ (fun k ys σ' H' _ hP => SqT.of (hP.2.1 _ _ hu)) ?_ ?_
  · rintro k x ys σ' H' hx ⟨⟨v, rfl⟩, sH, hDy, hys⟩
    unfold gName
    refine yes_if ?_
    have hk := (List.getElem?_eq_some_iff.mp hx).1
    obtain ⟨kid, ek, hkid⟩ := hal.at hx
    have hkm := List.mem_of_getElem? ek
    have hkd := dp_kid hkm
    obtain ⟨e, rfl⟩ : ∃ e, d = e + 1 := ⟨d - 1, by lia⟩
    rw [hsp e rfl]
    have hyl : ys.length ≤ 4 := by rw [hys.1, List.length_map, List.length_take]; lia
    refine ⟨_, rfl, _, rfl, _, rfl, x, kid, dn, kvs, K0, w, rfl, hkid.tup (Tup.of sH), sH _ _ hdn, hS, hw, hnd kid hkm, by lia, fun H3 v' s3 hv' => ?_⟩
    have hD3 := s3 _ _ hDy
    have tk := Tup.lst (ys := ys ++ [v']) hD3
    refine ⟨hD3, by rw [sizeLine_eq]; lia, Beh.of hk ⟨⟨_, rfl⟩, fun e o qe => ?_, upd_same, ?_⟩⟩
    · rw [upd_ne (ne_of_none qe hD)]; exact s3 _ _ (sH _ _ qe)
    · rw [List.take_succ, ek, List.map_append]
      exact (hys.mono fun _ _ r => (CoIn.tup (Tup.of s3) r).tup tk).snoc (hv'.tup tk)
  · rintro ys σ' H3 ⟨_, s3, hDy, hys⟩
    rw [hal.1, List.take_length] at hys
    exact hq H3 ys s3 hDy hys
section
variable {P : Program} {w : World} {K : PySem.W.Frag} {mg : Str → Option Value} {base : Heap}
theorem scMoved : FnScope ["_law_place", "_law_way"] ["_law_place", "_law_way"] (defScope sMoved) := ⟨rfl, rfl, rfl, by decide +kernel, rfl, by decide +kernel, by decide +kernel⟩
theorem ok_moved {f : Addr} {fd : FuncData} (F : Fun K "_law_moved" "_law_moved" sMoved f fd) : FnOk P w K mg base CX0 1 f fd ["_law_place", "_law_way"] spMoved := by
  refine F.ok scMoved (fun vs H Q E h => ?_) (fun cdv A outer s H vs Q E hr h => ?_)
  · obtain ⟨p, w', rfl, _⟩ := h; rfl
  · obtain ⟨p, w', rfl, hw, q⟩ := h
    refine ⟨_, pss_cons (ps_if (pt_cmpR op_eq (pv 1) pe_int (nomark _))
      (pss_one (ps_ret (pv 0)))
      pss_nil)
      (pss_one (ps_ret (pe_op op_sub (pe_op op_mul pe_int (pe_op op_pow pe_int pe_int)) (pe_op op_mul (pv 0) (pv 1))))), ?_⟩
    refine ⟨_, rfl, rfl, decide (w' = 0), by rw [dec_I], ite2 (fun c1 => ?_) (fun c1 => ?_)⟩
    · have e := of_decide_eq_true c1
      subst e
      exact ⟨_, rfl, q⟩
    · have e : ¬ w' = 0 := fun z => c1 (decide_eq_true z)
      unfold mvP at q
      rw [if_neg e] at q
      exact ⟨_, _, rfl, rfl, ⟨by decide, by decide, by decide⟩, _, _, rfl, rfl, .inl ⟨by decide, by decide⟩, _, rfl, _, rfl, _, _, rfl, rfl, .inr ⟨by lia, by lia⟩, _, _, rfl, rfl, q⟩
abbrev pCh : List Str := ["_law_core_here", "_law_names", "_law_way"]
abbrev NCh : List Str := ["_law_core_here", "_law_names", "_law_way", "_law_params", "_law_others"]
theorem scCh : FnScope NCh pCh (defScope sChanged) := ⟨rfl, rfl, rfl, by decide +kernel, rfl, by decide +kernel, by decide +kernel⟩
theorem lcCh1 : LcS (defScope sChanged).names [(".0", .local), ("_law_place", .local), ("_law_name", .local), ("_law_moved", .globalImplicit), ("_law_names", .free), ("_law_way", .free)] NCh [false, true, true, false, false] := ⟨by decide +kernel, by decide +kernel, by decide +kernel, by decide +kernel, by decide +kernel, rfl⟩
theorem ndCh1 : (["_law_core_here", "_law_names", "_law_way", "_law_params", "_law_others", "_law_place", "_law_name"] : List Str).Nodup := by decide +kernel
theorem lcCh2 : LcS (defScope sChanged).names [(".0", .local), ("_law_other", .local), ("_law_changed", .globalImplicit), ("_law_names", .free), ("_law_way", .free)] NCh [false, true, true, false, false] := ⟨by decide +kernel, by decide +kernel, by decide +kernel, by decide +kernel, by decide +kernel, rfl⟩
theorem ndCh2 : (["_law_core_here", "_law_names", "_law_way", "_law_params", "_law_others", "_law_other"] : List Str).Nodup := by decide +kernel
theorem lcCh3 : LcS (defScope sChanged).names [(".0", .local), ("_law_part", .local), ("_law_changed", .globalImplicit), ("_law_names", .free), ("_law_way", .free)] NCh [false, true, true, false, false] := ⟨by decide +kernel, by decide +kernel, by decide +kernel, by decide +kernel, by decide +kernel, rfl⟩
theorem ndCh3 : (["_law_core_here", "_law_names", "_law_way", "_law_params", "_law_others", "_law_part"] : List Str).Nodup := by decide +kernel
theorem ch_step {d k : Nat} {f fO : Addr} {fd fdO : FuncData} {sp : Sp} (F : Fun K "_law_changed" "_law_changed" sChanged f fd) (T : Txt mg)
    (kO : PySem.W.keepIn K (.ref fO) = true) (bO : Binds K fdO ["_law_place", "_law_way"] []) (mO : mg "_law_moved" = some (.ref fO)) (GO : FnOk P w K mg base CX0 1 fO fdO ["_law_place", "_law_way"] spMoved) (hk1 : 1 ≤ k)
    (GG : FnOk P w K mg base CX0 k f fd pCh sp) (bG : Binds K fd pCh []) (mG : mg "_law_changed" = some (.ref f)) (hsp : ∀ e, d = e + 1 → sp = spChanged e) : FnOk P w K mg base CX0 (k + 1) f fd pCh (spChanged d) := by
  refine F.ok scCh (fun vs H Q E h => ?_) (fun cdv A outer s H vs Q E hr h => ?_)
  · obtain ⟨v, co, dn, kvs, K0, w', rfl, _⟩ := h; rfl
  · obtain ⟨v, co, dn, kvs, K0, w', rfl, hco, hdn, hS, hw, hnd, hdp, q⟩ := h
    have nd := scCh.nd
    have hu := hu_of hr
    have hr1 : Room 1 _ := hr.mono hk1
    have z1 : 1 ≤ sizeLine := by rw [sizeLine_eq]; decide
    have z2 : 2 ≤ sizeLine := by rw [sizeLine_eq]; decide
    have z3 : 3 ≤ sizeLine := by rw [sizeLine_eq]; decide
    refine ⟨_, Z.suite (Z.pss_cons (Z.ps_if (Z.pt_cmpR op_eq (Z.pe_ix ix_tup (Z.pv 0) Z.pe_int (fun _ _ => rfl)) Z.pe_str (nomark _))
      (Z.pss_one (Z.ps_ret (Z.pe_tup (Z.pa_cons Z.pe_str (Z.pa_cons (Z.pe_call GO hr1 (by rfl) mO kO bO .nil pass0 (Z.pa_cons (Z.pe_ix ix_tup (Z.pv 0) Z.pe_int (fun _ _ => rfl)) (Z.pa_cons (Z.pv 2) Z.pa_nil))) Z.pa_nil)))))
      Z.pss_nil)
      (Z.pss_cons (Z.ps_if (Z.pt_cmpR op_eq (Z.pe_ix ix_tup (Z.pv 0) Z.pe_int (fun _ _ => rfl)) Z.pe_str (nomark _))
      (Z.pss_cons (Z.ps_set (i := 3) nd rfl (Or.inl rfl) ⟨pe_callTy call_tuple_of (by rfl) T.tuple bt_tuple' (pa_cons (pe_lc (g := gTup K 2 (gCons (gName 5) (gCons (gName 6) gNil))) (ext := ["_law_place", "_law_name"]) lcCh1 rfl (pi_tup (pe_ix ix_tup (pv 0) pe_int (fun _ _ => rfl)))
          ⟨fun _ _ _ _ _ => (pg_tup rfl (pgs_cons (pg_name (i := 5) ndCh1 rfl (Or.inl rfl) (.inr rfl)) (pgs_cons (pg_name (i := 6) ndCh1 rfl (Or.inl rfl) (.inr rfl)) pgs_nil))), fun _ _ _ _ _ => pts_nil, fun _ _ _ _ _ => (pe_tup (pa_cons (pe_call GO hr1 (by rfl) mO kO bO .nil pass0 (pa_cons (pv 5) (pa_cons (pv 2) pa_nil))) (pa_cons (pe_dget2 hu (pv 1) (pv 5) (pv 6) ⟨rfl, rfl, rfl, rfl⟩) pa_nil)))⟩) pa_nil)⟩)
        (Z.pss_one (Z.ps_ret (Z.pe_tup (Z.pa_cons Z.pe_str (Z.pa_cons (Z.pv 3) (Z.pa_cons (Z.pe_call GG hr (by rfl) mG F.kp bG .nil pass0 (Z.pa_cons (Z.pe_ix ix_tup (Z.pv 0) Z.pe_int (fun _ _ => rfl)) (Z.pa_cons (Z.pv 1) (Z.pa_cons (Z.pv 2) Z.pa_nil)))) Z.pa_nil)))))))
      Z.pss_nil)
      (Z.pss_cons (Z.ps_if (Z.pt_cmpR op_eq (Z.pe_ix ix_tup (Z.pv 0) Z.pe_int (fun _ _ => rfl)) Z.pe_str (nomark _))
      (Z.pss_cons (Z.ps_set (i := 4) nd rfl (Or.inl rfl) ⟨pe_callTy call_tuple_of (by rfl) T.tuple bt_tuple' (pa_cons (pe_lc (ext := ["_law_other"]) lcCh2 rfl (pi_tup (pe_ix ix_tup (pv 0) pe_int (fun _ _ => rfl)))
          ⟨fun _ _ _ _ _ => (pg_name (i := 5) ndCh2 rfl (Or.inl rfl) (.inr rfl)), fun _ _ _ _ _ => pts_nil, fun _ _ _ _ _ => (pe_call GG hr (by rfl) mG F.kp bG .nil pass0 (pa_cons (pv 5) (pa_cons (pv 1) (pa_cons (pv 2) pa_nil))))⟩) pa_nil)⟩)
        (Z.pss_one (Z.ps_ret (Z.pe_tup (Z.pa_cons Z.pe_str (Z.pa_cons (Z.pe_call GG hr (by rfl) mG F.kp bG .nil pass0 (Z.pa_cons (Z.pe_ix ix_tup (Z.pv 0) Z.pe_int (fun _ _ => rfl)) (Z.pa_cons (Z.pv 1) (Z.pa_cons (Z.pv 2) Z.pa_nil)))) (Z.pa_cons (Z.pv 4) Z.pa_nil)))))))
      Z.pss_nil)
      (Z.pss_cons (Z.ps_if (Z.pt (Z.pw_or (Z.pt_cmpR op_eq (Z.pe_ix ix_tup (Z.pv 0) Z.pe_int (fun _ _ => rfl)) Z.pe_str (nomark _)) (Z.pw_or1 (Z.pt_cmpR op_eq (Z.pe_ix ix_tup (Z.pv 0) Z.pe_int (fun _ _ => rfl)) Z.pe_str (nomark _)))))
      (Z.pss_one (Z.ps_ret (Z.pe_op op_catT (Z.pe_tup (Z.pa_cons (Z.pe_ix ix_tup (Z.pv 0) Z.pe_int (fun _ _ => rfl)) Z.pa_nil)) ⟨pe_callTy call_tuple_of (by rfl) T.tuple bt_tuple' (pa_cons (pe_lc (ext := ["_law_part"]) lcCh3 rfl (pi_tup (pe_slice sl_tup (pv 0) (po_some pe_int) po_none))
          ⟨fun _ _ _ _ _ => (pg_name (i := 5) ndCh3 rfl (Or.inl rfl) (.inr rfl)), fun _ _ _ _ _ => pts_nil, fun _ _ _ _ _ => (pe_call GG hr (by rfl) mG F.kp bG .nil pass0 (pa_cons (pv 5) (pa_cons (pv 1) (pa_cons (pv 2) pa_nil))))⟩) pa_nil)⟩)))
      Z.pss_nil)
      (Z.pss_one (Z.ps_ret (Z.pv 0))))))), ?_⟩
    have hnd0 := hnd
    obtain ⟨t, ks⟩ := co
    unfold Nd at hnd0
    rw [dp_mk] at hdp
    obtain ⟨a, us, rfl, hat, hks⟩ := hco.cut
    have hkn : ∀ k ∈ ks, Nd K0 k := fun k hk => Nds.mem hnd0.2.2 hk
    have hkl := hnd0.2.1
    rw [chC_mk] at q
    cases t with
    | seen p =>
      obtain ⟨e, ha⟩ := hat
      have ek : ks = [] := by rw [e] at hks; exact List.length_eq_zero_iff.mp hks.1.symm
      subst ek
      refine ⟨_, rfl, a, _, _, _, rfl, rfl, SqT.of ha, rfl, rfl, true, rfl, iteT ?_⟩
      refine ⟨_, rfl, a, _, _, _, rfl, rfl, SqT.of ha, rfl, _, rfl, p, w', rfl, hw, z2, fun t ht => ?_⟩
      exact q _ _ (same_upd ht) (co_seen upd_same)
    | fn ps =>
      obtain ⟨u, pv', b, e, ha, hu', hps⟩ := hat
      subst e
      have hpl : ps.length ≤ 8 := hnd0.1.1
      refine ⟨_, rfl, a, _, _, _, rfl, rfl, SqT.of ha, rfl, rfl, false, rfl, iteF ?_⟩
      refine ⟨_, rfl, a, _, _, _, rfl, rfl, SqT.of ha, rfl, rfl, true, rfl, iteT ?_⟩
      refine ⟨_, rfl, a, _, _, _, rfl, rfl, SqT.of ha, rfl, u, rfl, ⟨_, SqT.of hu'⟩, fun D hD => ?_⟩
      refine lc_tpl (K := K) (a := u) (xs := pv') (fun k ys σ' H' => (∃ v y, σ' = [none, some (.ref dn), some (.int w'), none, none, v, y]) ∧ Same H H' ∧ H' D = some (.lst ys) ∧ Al (PaIn H') ((ps.take k).map (chP kvs w')) ys)
        ⟨⟨_, _, rfl⟩, same_upd hD, upd_same, Al.nil⟩ (fun k ys σ' H' _ hP => SqT.of (hP.2.1 _ _ hu')) ?_ ?_
      · rintro k x ys σ' H' hx ⟨⟨v, y, rfl⟩, sH, hDy, hys⟩
        have hk := (List.getElem?_eq_some_iff.mp hx).1
        obtain ⟨⟨p, n⟩, ep, hp⟩ := hps.at hx
        obtain ⟨t0, rfl, ht0⟩ := hp
        have hyl : ys.length ≤ 8 := by rw [hys.1, List.length_map, List.length_take]; lia
        refine ⟨t0, _, rfl, SqT.of (sH _ _ ht0), rfl, _, _, rfl, _, _, rfl, rfl, yes_if ?_⟩
        have hg := DGet.k (k := (.inl (some p) : Key)) (sH _ _ hdn)
        refine ⟨_, rfl, _, rfl, p, w', rfl, hw, _, rfl, dn, rfl, .inl ⟨_, .inl (sH _ _ hdn)⟩, _, rfl, _, rfl, _, hg, z2, fun u2 hu2 => ?_⟩
        rw [get_str hS]
        have s3 := same_upd (o := .tup [.int (mvP w' p), .str (getN kvs p n)]) hu2
        have hD3 := s3 _ _ hDy
        have tk := Tup.lst (ys := ys ++ [.ref u2]) hD3
        refine ⟨hD3, by rw [sizeLine_eq]; lia, Beh.of hk ⟨⟨_, _, rfl⟩, fun e o qe => ?_, upd_same, ?_⟩⟩
        · rw [upd_ne (ne_of_none qe hD)]; exact s3 _ _ (sH _ _ qe)
        · rw [List.take_succ, ep, List.map_append]
          exact (hys.mono fun _ _ r => (PaIn.tup (Tup.of s3) r).tup tk).snoc ⟨u2, rfl, tk _ _ upd_same⟩
      · rintro ys σ' H3 ⟨_, s3, hDy, hys⟩
        rw [hps.1, List.take_length] at hys
        refine ⟨D, ys, rfl, .inl ⟨SqL.of hDy, fun t2 ht2 => ?_⟩⟩
        have s4 := same_upd (o := .tup ys) ht2
        have ht4 : upd H3 t2 (.tup ys) t2 = some (.tup ys) := upd_same
        have s34 := s3.trans s4
        have hys4 := hys.mono fun _ _ r => PaIn.tup (Tup.of s4) r
        generalize upd H3 t2 (.tup ys) = H4 at s4 ht4 s34 hys4 ⊢
        obtain ⟨kb, rfl⟩ := one_of hks.1.symm
        obtain ⟨b', bs', eb, hb, _⟩ := hks.uncons
        cases eb
        rw [dps, dps] at hdp
        obtain ⟨e, rfl⟩ : ∃ e, d = e + 1 := ⟨d - 1, by have : 1 ≤ dp kb := (by cases kb; rw [dp_mk]; lia); lia⟩
        rw [hsp e rfl]
        refine ⟨_, rfl, _, rfl, a, _, _, _, rfl, rfl, SqT.of (s34 _ _ ha), rfl, _, rfl, _, rfl, b, kb, dn, kvs, K0, w', rfl, hb.tup (Tup.of s34), s34 _ _ hdn, hS, hw, hkn kb (List.mem_cons_self ..), by lia, fun H5 v5 s5 hv5 => ⟨z3, fun t6 ht6 => ?_⟩⟩
        have s6 := same_upd (o := .tup [.str "fn", .ref t2, v5]) ht6
        refine q _ _ ((s34.trans s5).trans s6) (CoIn.mk' (vs := [v5]) ⟨t2, ys, v5, rfl, upd_same, (s5.trans s6) _ _ ht4, hys4.mono fun _ _ r => PaIn.tup (Tup.of (s5.trans s6)) r⟩ (Al.cons (hv5.tup (Tup.of s6)) Al.nil))
    | call =>
      obtain ⟨u, f', as, e, ha, hu'⟩ := hat
      subst e
      refine ⟨_, rfl, a, _, _, _, rfl, rfl, SqT.of ha, rfl, rfl, false, rfl, iteF ?_⟩
      refine ⟨_, rfl, a, _, _, _, rfl, rfl, SqT.of ha, rfl, rfl, false, rfl, iteF ?_⟩
      refine ⟨_, rfl, a, _, _, _, rfl, rfl, SqT.of ha, rfl, rfl, true, rfl, iteT ?_⟩
      obtain ⟨k0, ks', rfl, _⟩ := some_of hks.1.symm
      obtain ⟨x0, xs0, ex, hx0, hxs0⟩ := hks.uncons
      cases ex
      rw [dps] at hdp
      rw [List.length_cons] at hkl
      refine ⟨_, rfl, a, _, _, _, rfl, rfl, SqT.of ha, rfl, u, rfl, ⟨_, SqT.of hu'⟩, fun D hD => ?_⟩
      refine lc_changed (d := d) (kvs := kvs) (K0 := K0) (w := w') hu' hxs0 hdn hS hw hD (fun k hk => hkn k (List.mem_cons_of_mem _ hk)) (by lia) (by lia) hsp (fun H3 ys s3 h3 hys => ?_)
      refine ⟨D, ys, rfl, .inl ⟨SqL.of h3, fun t2 ht2 => ?_⟩⟩
      have s4 := same_upd (o := .tup ys) ht2
      have ht4 : upd H3 t2 (.tup ys) t2 = some (.tup ys) := upd_same
      have s34 := s3.trans s4
      have hys4 := hys.mono fun _ _ r => CoIn.tup (Tup.of s4) r
      generalize upd H3 t2 (.tup ys) = H4 at s4 ht4 s34 hys4 ⊢
      obtain ⟨e, rfl⟩ : ∃ e, d = e + 1 := ⟨d - 1, by lia⟩
      rw [hsp e rfl]
      refine ⟨_, rfl, a, _, _, _, rfl, rfl, SqT.of (s34 _ _ ha), rfl, _, rfl, _, rfl, f', k0, dn, kvs, K0, w', rfl, hx0.tup (Tup.of s34), s34 _ _ hdn, hS, hw, hkn k0 (List.mem_cons_self ..), by lia, fun H5 v5 s5 hv5 => ⟨_, rfl, z3, fun t6 ht6 => ?_⟩⟩
      have s6 := same_upd (o := .tup [.str "call", v5, .ref t2]) ht6
      refine q _ _ ((s34.trans s5).trans s6) (CoIn.mk' (vs := v5 :: ys) ⟨t2, v5, ys, rfl, upd_same, (s5.trans s6) _ _ ht4⟩ (Al.cons (hv5.tup (Tup.of s6)) (hys4.mono fun _ _ r => CoIn.tup (Tup.of (s5.trans s6)) r)))
    | pick =>
      obtain ⟨x1, x2, x3, e, ha⟩ := hat
      subst e
      refine ⟨_, rfl, a, _, _, _, rfl, rfl, SqT.of ha, rfl, rfl, false, rfl, iteF ?_⟩
      refine ⟨_, rfl, a, _, _, _, rfl, rfl, SqT.of ha, rfl, rfl, false, rfl, iteF ?_⟩
      refine ⟨_, rfl, a, _, _, _, rfl, rfl, SqT.of ha, rfl, rfl, false, rfl, iteF ?_⟩
      refine ⟨_, rfl, a, _, _, _, rfl, rfl, SqT.of ha, rfl, rfl, true, rfl, iteT (iteT ?_)⟩
      refine ⟨_, rfl, a, _, _, _, rfl, rfl, SqT.of ha, rfl, z1, fun t1 ht1 => ?_⟩
      have s1 := same_upd (o := .tup [.str "pick"]) ht1
      refine ⟨_, rfl, _, rfl, a, _, rfl, SqT.of (s1 _ _ ha), cut_no _ _, fun p hp => ?_⟩
      rw [cut_tail]
      have s2 := same_upd (o := .tup [x1, x2, x3]) hp
      have s12 := s1.trans s2
      refine ⟨p, rfl, ⟨_, SqT.of upd_same⟩, fun D hD => ?_⟩
      refine lc_changed (d := d) (kvs := kvs) (K0 := K0) (w := w') upd_same (hks.mono fun _ _ r => CoIn.tup (Tup.of s12) r) (s12 _ _ hdn) hS hw hD hkn (by lia) hkl hsp (fun H4 ys s4 h4 hys => ?_)
      refine ⟨D, ys, rfl, .inl ⟨SqL.of h4, fun t2 ht2 => ?_⟩⟩
      have s5 := same_upd (o := .tup ys) ht2
      have hyl := hys.1
      rw [List.length_map] at hyl
      have hkl1 : 1 ≤ ks.length := by rw [← hks.1]; show 1 ≤ _; simp
      have hne : ys ≠ [] := fun z => by rw [z] at hyl; simp at hyl; lia
      refine ⟨t1, t2, _, _, rfl, rfl, SqT.of (s5 _ _ (s4 _ _ (s2 _ _ upd_same))), SqT.of upd_same, (fun z => nomatch z), by rw [sizeLine_eq]; show 1 + ys.length ≤ _; lia, (fun z => absurd z hne), fun _ t3 ht3 => ?_⟩
      have s6 := same_upd (o := .tup ([.str "pick"] ++ ys)) ht3
      have hys6 := hys.mono fun _ _ r => CoIn.tup (Tup.of (s5.trans s6)) r
      refine q _ _ (((s12.trans s4).trans s5).trans s6) (CoIn.mk' (vs := ys) ?_ hys6)
      have h3 : ys.length = 3 := by rw [hyl, ← hks.1]; rfl
      obtain ⟨y1, y2, y3, rfl⟩ := three_of h3
      exact ⟨y1, y2, y3, rfl, upd_same⟩
    | now =>
      obtain ⟨x1, e, ha⟩ := hat
      subst e
      refine ⟨_, rfl, a, _, _, _, rfl, rfl, SqT.of ha, rfl, rfl, false, rfl, iteF ?_⟩
      refine ⟨_, rfl, a, _, _, _, rfl, rfl, SqT.of ha, rfl, rfl, false, rfl, iteF ?_⟩
      refine ⟨_, rfl, a, _, _, _, rfl, rfl, SqT.of ha, rfl, rfl, false, rfl, iteF ?_⟩
      refine ⟨_, rfl, a, _, _, _, rfl, rfl, SqT.of ha, rfl, rfl, false, rfl, iteF ⟨_, rfl, a, _, _, _, rfl, rfl, SqT.of ha, rfl, rfl, true, rfl, iteT ?_⟩⟩
      refine ⟨_, rfl, a, _, _, _, rfl, rfl, SqT.of ha, rfl, z1, fun t1 ht1 => ?_⟩
      have s1 := same_upd (o := .tup [.str "now"]) ht1
      refine ⟨_, rfl, _, rfl, a, _, rfl, SqT.of (s1 _ _ ha), cut_no _ _, fun p hp => ?_⟩
      rw [cut_tail]
      have s2 := same_upd (o := .tup [x1]) hp
      have s12 := s1.trans s2
      refine ⟨p, rfl, ⟨_, SqT.of upd_same⟩, fun D hD => ?_⟩
      refine lc_changed (d := d) (kvs := kvs) (K0 := K0) (w := w') upd_same (hks.mono fun _ _ r => CoIn.tup (Tup.of s12) r) (s12 _ _ hdn) hS hw hD hkn (by lia) hkl hsp (fun H4 ys s4 h4 hys => ?_)
      refine ⟨D, ys, rfl, .inl ⟨SqL.of h4, fun t2 ht2 => ?_⟩⟩
      have s5 := same_upd (o := .tup ys) ht2
      have hyl := hys.1
      rw [List.length_map] at hyl
      have hkl1 : 1 ≤ ks.length := by rw [← hks.1]; show 1 ≤ _; simp
      have hne : ys ≠ [] := fun z => by rw [z] at hyl; simp at hyl; lia
      refine ⟨t1, t2, _, _, rfl, rfl, SqT.of (s5 _ _ (s4 _ _ (s2 _ _ upd_same))), SqT.of upd_same, (fun z => nomatch z), by rw [sizeLine_eq]; show 1 + ys.length ≤ _; lia, (fun z => absurd z hne), fun _ t3 ht3 => ?_⟩
      have s6 := same_upd (o := .tup ([.str "now"] ++ ys)) ht3
      have hys6 := hys.mono fun _ _ r => CoIn.tup (Tup.of (s5.trans s6)) r
      refine q _ _ (((s12.trans s4).trans s5).trans s6) (CoIn.mk' (vs := ys) ?_ hys6)
      have h3 : ys.length = 1 := by rw [hyl, ← hks.1]; rfl
      obtain ⟨y1, rfl⟩ := one_of h3
      exact ⟨y1, rfl, upd_same⟩
    | num z =>
      obtain ⟨e, ha⟩ := hat
      have ek : ks = [] := by rw [e] at hks; exact List.length_eq_zero_iff.mp hks.1.symm
      subst ek
      refine ⟨_, rfl, a, _, _, _, rfl, rfl, SqT.of ha, rfl, rfl, false, rfl, iteF ?_⟩
      refine ⟨_, rfl, a, _, _, _, rfl, rfl, SqT.of ha, rfl, rfl, false, rfl, iteF ?_⟩
      refine ⟨_, rfl, a, _, _, _, rfl, rfl, SqT.of ha, rfl, rfl, false, rfl, iteF ?_⟩
      refine ⟨_, rfl, a, _, _, _, rfl, rfl, SqT.of ha, rfl, rfl, false, rfl, iteF ⟨_, rfl, a, _, _, _, rfl, rfl, SqT.of ha, rfl, rfl, false, rfl, iteF ?_⟩⟩
      exact ⟨_, rfl, q H _ (Same.refl _) hco⟩
    | free z =>
      obtain ⟨e, ha⟩ := hat
      have ek : ks = [] := by rw [e] at hks; exact List.length_eq_zero_iff.mp hks.1.symm
      subst ek
      refine ⟨_, rfl, a, _, _, _, rfl, rfl, SqT.of ha, rfl, rfl, false, rfl, iteF ?_⟩
      refine ⟨_, rfl, a, _, _, _, rfl, rfl, SqT.of ha, rfl, rfl, false, rfl, iteF ?_⟩
      refine ⟨_, rfl, a, _, _, _, rfl, rfl, SqT.of ha, rfl, rfl, false, rfl, iteF ?_⟩
      refine ⟨_, rfl, a, _, _, _, rfl, rfl, SqT.of ha, rfl, rfl, false, rfl, iteF ⟨_, rfl, a, _, _, _, rfl, rfl, SqT.of ha, rfl, rfl, false, rfl, iteF ?_⟩⟩
      exact ⟨_, rfl, q H _ (Same.refl _) hco⟩
end
end K75

set_option Elab.async false
set_option linter.all false
set_option maxRecDepth 100000
set_option maxHeartbeats 4000000
set_option exponentiation.threshold 3000
/-! lists of the same objects compared. Own work. -/
namespace L2
open PySem PySem.Spec PyProof.Rows SI
/-- xs != ys of two lists of the same objects -/
theorem op_neSame {X : Cx} (hu : X.A.units + 1 < cLine) : OpR X (compareOp .NotEq) (fun x y H Q => ∃ a b xs, x = .ref a ∧ y = .ref b ∧ SqL X.K H a xs ∧ SqL X.K H b xs ∧ (∀ z ∈ xs, ∃ p, z = V.ref p) ∧ Q (.bl false) H) := by
  intro pins s σ H x y v u Q I rx ry h
  obtain ⟨a, b, xs, rfl, rfl, ha, hb, hz, q⟩ := h
  cases rx
  cases ry
  obtain ⟨i1, r1, p1, z1⟩ := I.list ha
  obtain ⟨i2, r2, p2, z2⟩ := I.list hb
  have l1 := r1.length
  have l2 := r2.length
  refine SeqAt.RcNeAt.lists (e := fun i => true) p1.isList p2.isList (by simp; lia) (by lia) (fun j h1 h2 => ?_) X.prog X.w X.xe _ ⟨.bl false, H, I, ?_, q⟩
  · simp only [List.size_toArray] at h1 h2
    have j1 : j < xs.length := by lia
    obtain ⟨u1, e1, s1⟩ := r1.get (List.getElem?_eq_getElem j1)
    obtain ⟨u2, e2, s2⟩ := r2.get (List.getElem?_eq_getElem j1)
    rw [List.getElem?_eq_getElem h1] at e1
    rw [List.getElem?_eq_getElem h2] at e2
    cases e1
    cases e2
    obtain ⟨p, hp⟩ := hz _ (List.getElem_mem j1)
    rw [hp] at s1 s2
    have t1 : i1[j] = Value.ref p := s1
    have t2 : i2[j] = Value.ref p := s2
    simp only [List.getElem_toArray]
    rw [t1, t2]
    exact SeqAt.EqAt.same _
  · show Value.bool _ = Value.bool _
    simp
end L2

set_option Elab.async false
set_option linter.all false
set_option maxRecDepth 100000
set_option maxHeartbeats 4000000
set_option exponentiation.threshold 3000
/-! k75: all items changed; the law. Own work. -/
namespace K75
open PySem L2 Builtin.Str TR SH
theorem sq_keep {K : PySem.W.Frag} {H H' : Hp} {a : Addr} {xs : List V} (h : SqL K H a xs) (e : ∀ o, H a = some o → H' a = some o) : SqL K H' a xs := by
  rcases h with (h | ⟨o, h⟩) | h
  · exact .inl (.inl (e _ h))
  · exact .inl (.inr ⟨o, e _ h⟩)
  · exact .inr h
def spAll : Sp := fun vs H Q _ => ∃ (l dn : Addr) (its : List It) (iv : List V) (kvs K0 : List (Key × V)) (w : Int), vs = [.ref l, .ref dn, .int w] ∧ H l = some (.lst iv) ∧ Al (ItIn H) its iv ∧ H dn = some (.dK kvs) ∧ Strs kvs ∧ (0 ≤ w ∧ w ≤ 2) ∧ (∀ it ∈ its, Nd K0 it.core ∧ dp it.core ≤ 6) ∧ its.length ≤ 150 ∧
  ∀ (H' : Hp) (R : Addr) (rv : List V), Same H H' → H' R = some (.lst rv) → Al (ItIn H') (its.map (chI kvs w)) rv → Q (.ref R) H'
def spLaw (K : PySem.W.Frag) : Sp := fun vs H Q _ => ∃ (a : Addr) (ns : List Int), vs = [.ref a] ∧ SqL K H a (ns.map V.int) ∧ ns.length ≤ 63 ∧ ∀ H', Q (.bl true) H'
section
variable {P : Program} {w : World} {K : PySem.W.Frag} {mg : Str → Option Value} {base : Heap}
theorem ok_changed {f fO : Addr} {fd fdO : FuncData} (F : Fun K "_law_changed" "_law_changed" sChanged f fd) (T : Txt mg)
    (kO : PySem.W.keepIn K (.ref fO) = true) (bO : Binds K fdO ["_law_place", "_law_way"] []) (mO : mg "_law_moved" = some (.ref fO)) (GO : FnOk P w K mg base CX0 1 fO fdO ["_law_place", "_law_way"] spMoved)
    (bG : Binds K fd pCh []) (mG : mg "_law_changed" = some (.ref f)) : ∀ d, FnOk P w K mg base CX0 (d + 2) f fd pCh (spChanged d)
  | 0 => ch_step F T kO bO mO GO (Nat.le_refl _) fn_no bG mG fun e h => nomatch h
  | d + 1 => ch_step F T kO bO mO GO (by lia) (ok_changed F T kO bO mO GO bG mG d) bG mG fun e h => by injection h with h; rw [h]
abbrev pAl : List Str := ["_law_items_here", "_law_names", "_law_way"]
theorem scAl : FnScope ["_law_items_here", "_law_names", "_law_way", "_law_rows", "_law_item", "_law_core_here"] pAl (defScope sAll) := ⟨rfl, rfl, rfl, by decide +kernel, rfl, by decide +kernel, by decide +kernel⟩
theorem ok_all {f fO fG : Addr} {fd fdO fdG : FuncData} (F : Fun K "_law_all" "_law_all" sAll f fd)
    (kO : PySem.W.keepIn K (.ref fO) = true) (bO : Binds K fdO ["_law_place", "_law_way"] []) (mO : mg "_law_moved" = some (.ref fO)) (GO : FnOk P w K mg base CX0 1 fO fdO ["_law_place", "_law_way"] spMoved)
    (kG : PySem.W.keepIn K (.ref fG) = true) (bG : Binds K fdG pCh []) (mG : mg "_law_changed" = some (.ref fG)) (GG : FnOk P w K mg base CX0 8 fG fdG pCh (spChanged 6)) : FnOk P w K mg base CX0 9 f fd pAl spAll := by
  refine F.ok scAl (fun vs H Q E h => ?_) (fun cdv A outer s H vs Q E hr h => ?_)
  · obtain ⟨l, dn, its, iv, kvs, K0, w', rfl, _⟩ := h; rfl
  · obtain ⟨l, dn, its, iv, kvs, K0, w', rfl, hl, hal, hdn, hS, hw, hit, hil, q⟩ := h
    have nd := scAl.nd
    have hu := hu_of hr
    have hr1 : Room 1 _ := hr.mono (by lia)
    have z2 : 2 ≤ sizeLine := by rw [sizeLine_eq]; decide
    have z4 : 4 ≤ sizeLine := by rw [sizeLine_eq]; decide
    refine ⟨_, pss_cons (ps_set (i := 3) nd rfl (Or.inl rfl) (pe_lst pa_nil))
      (pss_cons (ps_for PassesOwn.never rfl (pi_list (pv 0)) (pg_name (i := 4) nd rfl (Or.inl rfl))
      (pss_cons (ps_set (i := 5) nd rfl (Or.inl rfl) (pe_call GG hr (by rfl) mG kG bG .nil pass0 (pa_cons (pe_ix ix_tup (pv 4) (pe_un un_neg pe_int) (fun _ _ => rfl)) (pa_cons (pv 1) (pa_cons (pv 2) pa_nil)))))
        (pss_one (ps_if (pt_cmpR op_eq (pe_ix ix_tup (pv 4) pe_int (fun _ _ => rfl)) pe_str (nomark _))
        (pss_one (ps_expr (pe_bm PySem.F.plainAttrs_list PySem.F.slot_list_append PySem.F.type_list_append mt_append (pv 3) (pa_cons (pe_tup (pa_cons pe_str (pa_cons (pe_call GO hr1 (by rfl) mO kO bO .nil pass0 (pa_cons (pe_ix ix_tup (pv 4) pe_int (fun _ _ => rfl)) (pa_cons (pv 2) pa_nil))) (pa_cons (pe_dget2 hu (pv 1) (pe_ix ix_tup (pv 4) pe_int (fun _ _ => rfl)) (pe_ix ix_tup (pv 4) pe_int (fun _ _ => rfl)) ⟨rfl, rfl, rfl, rfl⟩) (pa_cons (pv 5) pa_nil))))) pa_nil))))
        (pss_one (ps_expr (pe_bm PySem.F.plainAttrs_list PySem.F.slot_list_append PySem.F.type_list_append mt_append (pv 3) (pa_cons (pe_tup (pa_cons pe_str (pa_cons (pv 5) pa_nil))) pa_nil))))))))
      (pss_one (ps_ret (pv 3)))), ?_⟩
    refine ⟨Nat.zero_le _, fun R hR => ?_⟩
    have s1 := same_upd (o := .lst []) hR
    refine ⟨_, rfl, l, rfl, ⟨_, SqL.of (s1 _ _ hl)⟩, for_list (xs := iv) (fun i σ H' => ∃ (v4 v5 : Option V) (rv : List V), σ = [some (.ref l), some (.ref dn), some (.int w'), some (.ref R), v4, v5] ∧ Same H H' ∧ H' R = some (.lst rv) ∧ Al (ItIn H') ((its.take i).map (chI kvs w')) rv)
      ⟨_, _, [], rfl, s1, upd_same, Al.nil⟩ (fun i σ H' _ hP => by obtain ⟨_, _, _, _, sH, _⟩ := hP; exact SqL.of (sH _ _ hl)) ?_ ?_⟩
    · rintro i x σ H' hi ⟨v4, v5, rv, rfl, sH, hRv, hrv⟩
      obtain ⟨it, eit, hitx⟩ := hal.at hi
      have hmem := List.mem_of_getElem? eit
      obtain ⟨b1, b2⟩ := hit it hmem
      have hrl : rv.length ≤ 150 := by rw [hrv.1, List.length_map, List.length_take]; lia
      have hit' := hitx.tup (Tup.of sH)
      have enx : (its.take (i + 1)).map (chI kvs w') = (its.take i).map (chI kvs w') ++ [chI kvs w' it] := by rw [List.take_succ, eit, List.map_append]; rfl
      cases it with
      | defi p n co =>
        obtain ⟨t, cv, rfl, ht, hc⟩ := hit'
        refine ⟨_, rfl, _, rfl, t, _, _, _, rfl, rfl, SqT.of ht, rfl, _, rfl, _, rfl, cv, co, dn, kvs, K0, w', rfl, hc, sH _ _ hdn, hS, hw, b1, b2, fun H3 v' s3 hv' => ?_⟩
        have hg := DGet.k (k := (.inl (some p) : Key)) (s3 _ _ (sH _ _ hdn))
        refine ⟨_, rfl, t, _, _, _, rfl, rfl, SqT.of (s3 _ _ ht), rfl, rfl, true, rfl, iteT ?_⟩
        refine ⟨_, rfl, .inl ⟨rfl, _, SqL.of (s3 _ _ hRv)⟩, _, rfl, t, _, _, _, rfl, rfl, SqT.of (s3 _ _ ht), rfl, _, rfl, p, w', rfl, hw, _, rfl, dn, rfl, .inl ⟨_, .inl (s3 _ _ (sH _ _ hdn))⟩, _, rfl, t, _, _, _, rfl, rfl, SqT.of (s3 _ _ ht), rfl, _, rfl, t, _, _, _, rfl, rfl, SqT.of (s3 _ _ ht), rfl, _, hg, _, rfl, z4, fun t4 ht4 => ?_⟩
        rw [get_str hS]
        have s4 := same_upd (o := .tup [.str "def", .int (mvP w' p), .str (getN kvs p n), v']) ht4
        have s34 := s3.trans s4
        have hR4 := s34 _ _ hRv
        have tk := Tup.lst (ys := rv ++ [.ref t4]) hR4
        refine ⟨R, rv, .ref t4, rfl, rfl, hR4, by rw [sizeLine_eq]; lia, _, _, _, rfl, fun e o qe => ?_, upd_same, ?_⟩
        · rw [upd_ne (ne_of_none qe hR)]; exact s34 _ _ (sH _ _ qe)
        · rw [enx]
          exact (hrv.mono fun _ _ r => (ItIn.tup (Tup.of s34) r).tup tk).snoc ⟨t4, v', rfl, tk _ _ upd_same, (hv'.tup (Tup.of s4)).tup tk⟩
      | shw co =>
        obtain ⟨t, cv, rfl, ht, hc⟩ := hit'
        refine ⟨_, rfl, _, rfl, t, _, _, _, rfl, rfl, SqT.of ht, rfl, _, rfl, _, rfl, cv, co, dn, kvs, K0, w', rfl, hc, sH _ _ hdn, hS, hw, b1, b2, fun H3 v' s3 hv' => ?_⟩
        refine ⟨_, rfl, t, _, _, _, rfl, rfl, SqT.of (s3 _ _ ht), rfl, rfl, false, rfl, iteF ?_⟩
        refine ⟨_, rfl, .inl ⟨rfl, _, SqL.of (s3 _ _ hRv)⟩, _, rfl, z2, fun t4 ht4 => ?_⟩
        have s4 := same_upd (o := .tup [.str "show", v']) ht4
        have s34 := s3.trans s4
        have hR4 := s34 _ _ hRv
        have tk := Tup.lst (ys := rv ++ [.ref t4]) hR4
        refine ⟨R, rv, .ref t4, rfl, rfl, hR4, by rw [sizeLine_eq]; lia, _, _, _, rfl, fun e o qe => ?_, upd_same, ?_⟩
        · rw [upd_ne (ne_of_none qe hR)]; exact s34 _ _ (sH _ _ qe)
        · rw [enx]
          exact (hrv.mono fun _ _ r => (ItIn.tup (Tup.of s34) r).tup tk).snoc ⟨t4, v', rfl, tk _ _ upd_same, (hv'.tup (Tup.of s4)).tup tk⟩
    · rintro σ H' ⟨v4, v5, rv, rfl, sH, hRv, hrv⟩
      rw [hal.1, List.take_length] at hrv
      exact ⟨_, rfl, q H' R rv sH hRv hrv⟩
abbrev NL : List Str := ["_law_script", "_law_count", "_law_items_here", "_law_handed", "_law_names", "_law_known", "_law_alike", "_law_found"]
theorem scLaw : FnScope NL ["_law_script"] (defScope sLaw) := ⟨rfl, rfl, rfl, by decide +kernel, rfl, by decide +kernel, by decide +kernel⟩
theorem ok_law {f fX fP fJ fN fQ fV : Addr} {fd fdX fdP fdJ fdN fdQ fdV : FuncData} {c : C4} (F : Fun K "law" "law" sLaw f fd) (T : Txt mg)
    (kX : PySem.W.keepIn K (.ref fX) = true) (bX : Binds K fdX ["_law_script", "_law_k"] []) (mX : mg "_law_cell_at" = some (.ref fX)) (GX : FnOk P w K mg base CX0 1 fX fdX ["_law_script", "_law_k"] (spCell K))
    (kP : PySem.W.keepIn K (.ref fP) = true) (bP : Binds K fdP ["_law_cell"] []) (mP : mg "_law_pool" = some (.ref fP)) (GP : FnOk P w K mg base CX0 1 fP fdP ["_law_cell"] spPool)
    (kJ : PySem.W.keepIn K (.ref fJ) = true) (bJ : Binds K fdJ ["_law_script", "_law_pool_here", "_law_count"] []) (mJ : mg "_law_items" = some (.ref fJ)) (GJ : FnOk P w K mg base CX0 14 fJ fdJ ["_law_script", "_law_pool_here", "_law_count"] (spItems K))
    (kN : PySem.W.keepIn K (.ref fN) = true) (bN : Binds K fdN ["items"] []) (mN : mg "names_of" = some (.ref fN)) (GN : FnOk P w K mg base CX0 3 fN fdN ["items"] spNames)
    (kQ : PySem.W.keepIn K (.ref fQ) = true) (bQ : Binds K fdQ pAl []) (mQ : mg "_law_all" = some (.ref fQ)) (GQ : FnOk P w K mg base CX0 9 fQ fdQ pAl spAll)
    (kV : PySem.W.keepIn K (.ref fV) = true) (bV : Binds K fdV ["items"] []) (mV : mg "written" = some (.ref fV)) (GV : FnOk P w K mg base CX0 65 fV fdV ["items"] (spWritten c)) :
    FnOk P w K mg base CX0 66 f fd ["_law_script"] (spLaw K) := by
  refine F.ok scLaw (fun vs H Q E h => ?_) (fun cdv A outer s H vs Q E hr h => ?_)
  · obtain ⟨a, ns, rfl, _⟩ := h; rfl
  · obtain ⟨a, ns, rfl, hS, hl, q⟩ := h
    have nd := scLaw.nd
    have hu := hu_of hr
    have hr1 : Room 1 _ := hr.mono (by lia)
    have hr3 : Room 3 _ := hr.mono (by lia)
    have hr9 : Room 9 _ := hr.mono (by lia)
    have hr14 : Room 14 _ := hr.mono (by lia)
    have z1 : 1 ≤ sizeLine := by rw [sizeLine_eq]; decide
    refine ⟨_, Z.suite (Z.pss_cons (Z.ps_set (i := 1) nd rfl (Or.inl rfl) (Z.pe_lst (Z.pa_cons (Z.pe_op op_mod (Z.pe_op op_fdiv (Z.pe_call GX hr1 (by rfl) mX kX bX .nil pass0 (Z.pa_cons (Z.pv 0) (Z.pa_cons Z.pe_int Z.pa_nil))) Z.pe_int) (Z.pe_op op_pow Z.pe_int Z.pe_int)) Z.pa_nil)))
      (Z.pss_cons (Z.ps_set (i := 2) nd rfl (Or.inl rfl) (Z.pe_call GJ hr14 (by rfl) mJ kJ bJ .nil pass0 (Z.pa_cons (Z.pv 0) (Z.pa_cons (Z.pe_call GP hr1 (by rfl) mP kP bP .nil pass0 (Z.pa_cons (Z.pe_call GX hr1 (by rfl) mX kX bX .nil pass0 (Z.pa_cons (Z.pv 0) (Z.pa_cons Z.pe_int Z.pa_nil))) Z.pa_nil)) (Z.pa_cons (Z.pv 1) Z.pa_nil)))))
      (Z.pss_cons (Z.ps_set (i := 3) nd rfl (Or.inl rfl) ⟨pe_callTy call_list_of (by rfl) T.list bt_list (pa_cons (pv 2) pa_nil)⟩)
      (Z.pss_cons (Z.ps_set (i := 4) nd rfl (Or.inl rfl) (Z.pe_call GN hr3 (by rfl) mN kN bN .nil pass0 (Z.pa_cons (Z.pv 3) Z.pa_nil)))
      (Z.pss_cons (Z.ps_if ⟨PW.pt (pw_or (pt_not (pt_val (pe_callB call_isI (by rfl) T.isi bt_isinstance (pa_cons (pv 4) (pa_cons (pe_bltn (v := .ty "dict") (by rfl) T.dict bt_dict' rfl) pa_nil))))) (pw_or1 (pt_cmpR (op_neSame hu) (pv 3) (pv 2) (nomark _))))⟩
      (Z.pss_one (Z.ps_ret Z.pe_bl))
      Z.pss_nil)
      (Z.pss_cons (Z.ps_set (i := 5) nd rfl (Or.inl rfl) ⟨pe_callTy call_dcopy (by rfl) T.dict bt_dict' (pa_cons (pv 4) pa_nil)⟩)
      (Z.pss_cons (Z.ps_set (i := 6) nd rfl (Or.inl rfl) (Z.pe_call GQ hr9 (by rfl) mQ kQ bQ .nil pass0 (Z.pa_cons (Z.pv 2) (Z.pa_cons (Z.pv 5) (Z.pa_cons Z.pe_int Z.pa_nil)))))
      (Z.pss_cons (Z.ps_if (Z.pt (Z.pw_or (Z.pt_cmpR (op_neD hu) (Z.pe_call GN hr3 (by rfl) mN kN bN .nil pass0 (Z.pa_cons (Z.pv 6) Z.pa_nil)) (Z.pv 5) (nomark _)) (Z.pw_or1 (Z.pt_cmpR (op_neD hu) (Z.pv 4) (Z.pv 5) (nomark _)))))
      (Z.pss_one (Z.ps_ret Z.pe_bl))
      Z.pss_nil)
      (Z.pss_cons (Z.ps_set (i := 7) nd rfl (Or.inl rfl) (Z.pe_call GV hr (by rfl) mV kV bV .nil pass0 (Z.pa_cons (Z.pv 3) Z.pa_nil)))
      (Z.pss_cons (Z.ps_if ⟨PW.pt (pw_or (pt_not (pt_val (pe_callB call_isI (by rfl) T.isi bt_isinstance (pa_cons (pv 7) (pa_cons (pe_bltn (v := .ty "str") (by rfl) T.str bt_str rfl) pa_nil))))) (pw_or (pt_cmpR op_ne (pe_call GV hr (by rfl) mV kV bV .nil pass0 (pa_cons (pv 6) pa_nil)) (pv 7) (nomark _)) (pw_or1 (pt_cmpR (op_neSame hu) (pv 3) (pv 2) (nomark _)))))⟩
      (Z.pss_one (Z.ps_ret Z.pe_bl))
      Z.pss_nil)
      (Z.pss_one (Z.ps_ret (Z.pe_cmpR op_eq (Z.pe_call GV hr (by rfl) mV kV bV .nil pass0 (Z.pa_cons (Z.pe_call GQ hr9 (by rfl) mQ kQ bQ .nil pass0 (Z.pa_cons (Z.pv 2) (Z.pa_cons ⟨pe_dnewK⟩ (Z.pa_cons (Z.pe_op op_add Z.pe_int (Z.pe_op op_mod (Z.pe_call GX hr1 (by rfl) mX kX bX .nil pass0 (Z.pa_cons (Z.pv 0) (Z.pa_cons Z.pe_int Z.pa_nil))) Z.pe_int)) Z.pa_nil)))) Z.pa_nil)) (Z.pv 7) (nomark _)))))))))))))), ?_⟩
    refine ⟨_, rfl, a, 1, ns, rfl, hS, hl, fun z => ⟨_, _, rfl, rfl, ⟨by decide, by decide⟩, _, _, rfl, rfl, ⟨by decide, by decide, by decide⟩, _, _, rfl, rfl, (by show (0 : Int) < _; decide), z1, fun cn hcn => ?_⟩⟩
    have c0 : 0 ≤ z / 5 % 10 ^ (18 : Int).toNat := Int.emod_nonneg _ (by decide)
    have c1 : z / 5 % 10 ^ (18 : Int).toNat < 10 ^ (18 : Int).toNat := Int.emod_lt_of_pos _ (by decide)
    have s1 := same_upd (o := .lst [.int (z / 5 % 10 ^ (18 : Int).toNat)]) hcn
    have hcn1 : upd H cn (.lst [.int (z / 5 % 10 ^ (18 : Int).toNat)]) cn = some (.lst [.int (z / 5 % 10 ^ (18 : Int).toNat)]) := upd_same
    have c1' : z / 5 % 10 ^ (18 : Int).toNat ≤ 10 ^ 18 := Int.le_of_lt c1
    generalize upd H cn (.lst [.int (z / 5 % 10 ^ (18 : Int).toNat)]) = H1 at s1 hcn1 ⊢
    have hS1 := s1.seq hS
    refine ⟨_, rfl, _, rfl, a, 0, ns, rfl, hS1, hl, fun z0 => ⟨_, rfl, fun H2 D s2 hD => ⟨_, rfl, ?_⟩⟩⟩
    have hcn2 := s2 _ _ hcn1
    have s12 := s1.trans s2
    have nDc : D ≠ cn := fun e => by
      obtain ⟨nn, e1, e2, _⟩ := hD
      rw [e, hcn2] at e1
      have := congrArg (fun o : Option HO => match o with | some (.lst xs) => xs.length | _ => 0) e1
      simp [e2] at this
    refine ⟨a, D, cn, ns, _, rfl, fun H' hk => sq_keep hS fun o e => hk o (s12 _ _ e) (ne_of_none e hcn), hl, hD, ⟨hcn2, c0⟩, c1', nDc, fun H3 I its iv hI hal hWf hnd hkeep => ?_⟩
    have hS3 : ∀ o, H a = some o → H3 a = some o := fun o e => hkeep _ _ (ne_of_none e hcn) (s12 _ _ e)
    have hW := hWf.wri hal
    have hil := hWf.len
    have hiv : iv.length = its.length := hal.1
    -- handed, names
    refine ⟨_, rfl, I, iv, rfl, .inl (SqL.of hI), fun L hL => ?_⟩
    have s4 := same_upd (o := .lst iv) hL
    have hL4 : upd H3 L (.lst iv) L = some (.lst iv) := upd_same
    have hI4 := s4 _ _ hI
    have hal4 := hal.mono fun _ _ r => ItIn.tup (Tup.of s4) r
    generalize upd H3 L (.lst iv) = H4 at s4 hL4 hI4 hal4 ⊢
    refine ⟨_, rfl, L, its, iv, rfl, hL4, hal4, hW.ok, fun H5 dn r U kvs hNT hFN hdn s5 hdnH => ?_⟩
    have hNam : Nam its kvs := ⟨r, U, hNT, hFN⟩
    have hall := hW.all kvs hNam
    have hst : Strs kvs := hFN.strs (Strs.puts r Strs.nil)
    have hgk := hNam.good hWf
    have hL5 := s5 _ _ hL4
    have hI5 := s5 _ _ hI4
    have hal5 := hal4.mono fun _ _ r => ItIn.tup (Tup.of s5) r
    refine ⟨_, rfl, _, .ty "dict", _, _, true, rfl, rfl, .dK hdn, rfl, _, rfl, iteF ?_⟩
    refine ⟨_, rfl, _, rfl, L, I, iv, rfl, rfl, SqL.of hL5, SqL.of hI5, fun x hx => ?_, _, rfl, iteF ?_⟩
    · obtain ⟨it, _, hit⟩ := hal5.of_mem hx
      exact hit.ref
    -- known, alike
    refine ⟨_, rfl, dn, kvs, rfl, hdn, fun kd hkd => ?_⟩
    have s6 := same_upd (o := .dK kvs) hkd
    have hkd6 : upd H5 kd (.dK kvs) kd = some (.dK kvs) := upd_same
    have hdn6 := s6 _ _ hdn
    have hL6 := s6 _ _ hL5
    have hI6 := s6 _ _ hI5
    have hal6 := hal5.mono fun _ _ r => ItIn.tup (Tup.of s6) r
    generalize upd H5 kd (.dK kvs) = H6 at s6 hkd6 hdn6 hL6 hI6 hal6 ⊢
    refine ⟨_, rfl, _, rfl, I, kd, its, iv, kvs, kvs, 0, rfl, hI6, hal6, hkd6, hst, ⟨by decide, by decide⟩, (fun it hit => ⟨(hall it hit).1, (hall it hit).2.2⟩), hil, fun H7 R rv s7 hR hrv => ?_⟩
    have hN0 : Nam (its.map (chI kvs 0)) kvs := hNam.rn hnd
    have hW0 : Wri (its.map (chI kvs 0)) := hW.ch hNam hN0 (Rel.same kvs) fun p n hn => hgk.get p n hn
    refine ⟨_, rfl, R, _, rv, rfl, hR, hrv, hW0.ok, fun H8 d8 r8 U8 k8 hNT8 hFN8 hd8 s8 hd8n => ?_⟩
    have hk8 : k8 = kvs := Nam.uniq ⟨r8, U8, hNT8, hFN8⟩ hN0
    subst hk8
    have s78 := s7.trans s8
    refine ⟨_, rfl, d8, kd, k8, rfl, rfl, hd8, s78 _ _ hkd6, hst, _, rfl, iteF ?_⟩
    refine ⟨_, rfl, _, rfl, dn, kd, k8, rfl, rfl, s78 _ _ hdn6, s78 _ _ hkd6, hst, _, rfl, iteF ?_⟩
    have hL8 := s78 _ _ hL6
    have hI8 := s78 _ _ hI6
    have hal8 := hal6.mono fun _ _ r => ItIn.tup (Tup.of s78) r
    have hR8 := s8 _ _ hR
    have hrv8 := hrv.mono fun _ _ r => ItIn.tup (Tup.of s8) r
    -- found
    refine ⟨_, rfl, L, its, iv, rfl, hL8, hal8, hW, fun H9 zf k9 hk9 hzf s9 => ?_⟩
    rw [hk9.uniq hNam] at hzf
    have hR9 := s9 _ _ hR8
    have hrv9 := hrv8.mono fun _ _ r => ItIn.tup (Tup.of s9) r
    refine ⟨_, rfl, _, .ty "str", _, _, true, rfl, rfl, .str _, rfl, _, rfl, iteF ?_⟩
    refine ⟨_, rfl, R, _, rv, rfl, hR9, hrv9, hW0, fun H10 z10 k10 hk10 hz10 s10 => ?_⟩
    have e10 : z10 = zf := by
      apply cpl_inj
      rw [hz10, hzf, hk10.uniq hN0, treeW_ch (Rel.same k8)]
    subst e10
    refine ⟨_, rfl, rfl, false, ?_, iteF ?_⟩
    · rw [decide_eq_true rfl]; rfl
    have s810 := s9.trans s10
    have hI10 := s810 _ _ hI8
    have hal10 := hal8.mono fun _ _ r => ItIn.tup (Tup.of s810) r
    refine ⟨_, rfl, _, rfl, L, I, iv, rfl, rfl, SqL.of (s810 _ _ hL8), SqL.of hI10, fun x hx => ?_, _, rfl, iteF ?_⟩
    · obtain ⟨it, _, hit⟩ := hal10.of_mem hx
      exact hit.ref
    -- other places
    refine ⟨_, rfl, fun nd' hnd' => ?_⟩
    have s11 := same_upd (o := .dK []) hnd'
    have s3T := ((((s4.trans s5).trans s6).trans s78).trans s810).trans s11
    refine ⟨_, rfl, a, 2, ns, rfl, sq_keep hS fun o e => s3T _ _ (hS3 o e), hl, fun z2 => ?_⟩
    have m0 := Int.emod_nonneg z2 (show (2 : Int) ≠ 0 by decide)
    have m1 := Int.emod_lt_of_pos z2 (show (0 : Int) < 2 by decide)
    have hw : 0 ≤ 1 + z2 % 2 ∧ 1 + z2 % 2 ≤ 2 := ⟨by lia, by lia⟩
    refine ⟨_, _, rfl, rfl, (by show (0 : Int) < _; decide), _, _, rfl, rfl, I, nd', its, iv, [], k8, 1 + z2 % 2, rfl, s11 _ _ hI10, hal10.mono fun _ _ r => ItIn.tup (Tup.of s11) r, upd_same, Strs.nil, hw, (fun it hit => ⟨(hall it hit).1, (hall it hit).2.2⟩), hil, fun H12 R12 rv12 s12' hR12 hrv12 => ?_⟩
    obtain ⟨K', hN', hRel⟩ := hNam.mv hw
    have hW' : Wri (its.map (chI [] (1 + z2 % 2))) := hW.ch hNam hN' hRel fun p n hn => by rw [getN_nil]; exact hn
    refine ⟨R12, _, rv12, rfl, hR12, hrv12, hW', fun H13 z13 k13 hk13 hz13 s13 => ?_⟩
    have e13 : z13 = z10 := by
      apply cpl_inj
      rw [hz13, hzf, hk13.uniq hN', treeW_ch hRel]
    subst e13
    refine ⟨_, rfl, rfl, ?_⟩
    rw [decide_eq_true rfl]
    exact q H13
end
end K75

set_option Elab.async false
set_option linter.all false
set_option maxRecDepth 100000
set_option maxHeartbeats 4000000
namespace K75
open PySem L2 TR SH
/-! ### what the top has written; the law's head -/
theorem lenS {α : Type} {us : List α} {n : Nat} (h : us.length = n + 1) : ∃ a r, us = a :: r ∧ r.length = n := by
  cases us with
  | nil => exact nomatch h
  | cons a r => exact ⟨a, r, rfl, Nat.succ.inj h⟩
theorem len1 {α : Type} {us : List α} (h : us.length = 1) : ∃ a0, us = [a0] := by
  obtain ⟨a0, r0, rfl, h0⟩ := lenS h
  obtain rfl := List.eq_nil_of_length_eq_zero h0
  exact ⟨a0, rfl⟩
theorem len2 {α : Type} {us : List α} (h : us.length = 2) : ∃ a0 a1, us = [a0, a1] := by
  obtain ⟨a0, r0, rfl, h0⟩ := lenS h
  obtain ⟨a1, r1, rfl, h1⟩ := lenS h0
  obtain rfl := List.eq_nil_of_length_eq_zero h1
  exact ⟨a0, a1, rfl⟩
theorem len3 {α : Type} {us : List α} (h : us.length = 3) : ∃ a0 a1 a2, us = [a0, a1, a2] := by
  obtain ⟨a0, r0, rfl, h0⟩ := lenS h
  obtain ⟨a1, r1, rfl, h1⟩ := lenS h0
  obtain ⟨a2, r2, rfl, h2⟩ := lenS h1
  obtain rfl := List.eq_nil_of_length_eq_zero h2
  exact ⟨a0, a1, a2, rfl⟩
theorem len4 {α : Type} {us : List α} (h : us.length = 4) : ∃ a0 a1 a2 a3, us = [a0, a1, a2, a3] := by
  obtain ⟨a0, r0, rfl, h0⟩ := lenS h
  obtain ⟨a1, r1, rfl, h1⟩ := lenS h0
  obtain ⟨a2, r2, rfl, h2⟩ := lenS h1
  obtain ⟨a3, r3, rfl, h3⟩ := lenS h2
  obtain rfl := List.eq_nil_of_length_eq_zero h3
  exact ⟨a0, a1, a2, a3, rfl⟩
theorem len5 {α : Type} {us : List α} (h : us.length = 5) : ∃ a0 a1 a2 a3 a4, us = [a0, a1, a2, a3, a4] := by
  obtain ⟨a0, r0, rfl, h0⟩ := lenS h
  obtain ⟨a1, r1, rfl, h1⟩ := lenS h0
  obtain ⟨a2, r2, rfl, h2⟩ := lenS h1
  obtain ⟨a3, r3, rfl, h3⟩ := lenS h2
  obtain ⟨a4, r4, rfl, h4⟩ := lenS h3
  obtain rfl := List.eq_nil_of_length_eq_zero h4
  exact ⟨a0, a1, a2, a3, a4, rfl⟩
theorem len6 {α : Type} {us : List α} (h : us.length = 6) : ∃ a0 a1 a2 a3 a4 a5, us = [a0, a1, a2, a3, a4, a5] := by
  obtain ⟨a0, r0, rfl, h0⟩ := lenS h
  obtain ⟨a1, r1, rfl, h1⟩ := lenS h0
  obtain ⟨a2, r2, rfl, h2⟩ := lenS h1
  obtain ⟨a3, r3, rfl, h3⟩ := lenS h2
  obtain ⟨a4, r4, rfl, h4⟩ := lenS h3
  obtain ⟨a5, r5, rfl, h5⟩ := lenS h4
  obtain rfl := List.eq_nil_of_length_eq_zero h5
  exact ⟨a0, a1, a2, a3, a4, a5, rfl⟩
theorem all_mk {l : PySem.W.OpenLaw} {w : World} {K : PySem.W.Frag} {h : Heap} {mg : Str → Option Value} {fa gT gW gF gR T0 fINN fWTH fNAM fTAK fPTN fNBR fSHO fSHA fPSG fWRT fROO fWOO fITT fCOT fHDT fCEL fNXT fPOO fNEW fLEA fMNY fCOR fITS fMOV fCHA fALL fZ fWI fTI fFI fRI : Addr} (X : K.In h) (G : h.Ns mainGlobals mg) (hfa : mg "law" = some (.ref fa))
    {odT0 odINN anINN odWTH anWTH odNAM anNAM odTAK anTAK odPTN anPTN odNBR anNBR odSHO anSHO odSHA anSHA odPSG anPSG odWRT anWRT odROO anROO odWOO anWOO odITT anITT odCOT anCOT odHDT anHDT odCEL anCEL odNXT anNXT odPOO anPOO odNEW anNEW odLEA anLEA odMNY anMNY odCOR anCOR odITS anITS odMOV anMOV odCHA anCHA odALL anALL odZ anZ odWI anWI odTI anTI odFI anFI odRI anRI : Option Addr} {slT0 slINN slWTH slNAM slTAK slPTN slNBR slSHO slSHA slPSG slWRT slROO slWOO slITT slCOT slHDT slCEL slNXT slPOO slNEW slLEA slMNY slCOR slITS slMOV slCHA slALL slZ slWI slTI slFI slRI : Array (Option Value)} {ocT0 ocINN kVINN dcINN pmINN cdINN ctINN ocWTH kVWTH dcWTH pmWTH cdWTH ctWTH ocNAM kVNAM dcNAM pmNAM cdNAM ctNAM ocTAK kVTAK dcTAK pmTAK cdTAK ctTAK ocPTN kVPTN dcPTN pmPTN cdPTN ctPTN ocNBR kVNBR dcNBR pmNBR cdNBR ctNBR ocSHO kVSHO dcSHO pmSHO cdSHO ctSHO ocSHA kVSHA dcSHA pmSHA cdSHA ctSHA ocPSG kVPSG dcPSG pmPSG cdPSG ctPSG ocWRT kVWRT dcWRT pmWRT cdWRT ctWRT ocROO kVROO dcROO pmROO cdROO ctROO ocWOO kVWOO dcWOO pmWOO cdWOO ctWOO ocITT kVITT dcITT pmITT cdITT ctITT ocCOT kVCOT dcCOT pmCOT cdCOT ctCOT ocHDT kVHDT dcHDT pmHDT cdHDT ctHDT ocCEL kVCEL dcCEL pmCEL cdCEL ctCEL ocNXT kVNXT dcNXT pmNXT cdNXT ctNXT ocPOO kVPOO dcPOO pmPOO cdPOO ctPOO ocNEW kVNEW dcNEW pmNEW cdNEW ctNEW ocLEA kVLEA dcLEA pmLEA cdLEA ctLEA ocMNY kVMNY dcMNY pmMNY cdMNY ctMNY ocCOR kVCOR dcCOR pmCOR cdCOR ctCOR ocITS kVITS dcITS pmITS cdITS ctITS ocMOV kVMOV dcMOV pmMOV cdMOV ctMOV ocCHA kVCHA dcCHA pmCHA cdCHA ctCHA ocALL kVALL dcALL pmALL cdALL ctALL ocZ kVZ dcZ pmZ cdZ ctZ ocWI kVWI dcWI pmWI cdWI ctWI ocTI kVTI dcTI pmTI cdTI ctTI ocFI kVFI dcFI pmFI cdFI ctFI ocRI kVRI dcRI pmRI cdRI ctRI : Value} {t0 : Tok} {nT0 : Nat}
    (qT : PySem.W.nsIn K mainGlobals "Tree" = some (some (.ref gT)))
    (qW : PySem.W.nsIn K mainGlobals "Word" = some (some (.ref gW)))
    (qF : PySem.W.nsIn K mainGlobals "Figure" = some (some (.ref gF)))
    (qR : PySem.W.nsIn K mainGlobals "Row" = some (some (.ref gR)))
    (aINN : PySem.W.nsIn K mainGlobals "inner_cores" = some (some (.ref fINN)))
    (lINN : K.lookup fINN = some ⟨ocINN, odINN, .func (PySem.W.fnOf "inner_cores" "inner_cores" (defArgs sInner) (defBody sInner) (defScope sInner) .none kVINN dcINN pmINN anINN cdINN ctINN), slINN⟩)
    (cINN : PySem.W.codeIn K cdINN "inner_cores" = true)
    (kINN : PySem.W.keepIn K (.ref fINN) = true)
    (aWTH : PySem.W.nsIn K mainGlobals "cores_within" = some (some (.ref fWTH)))
    (lWTH : K.lookup fWTH = some ⟨ocWTH, odWTH, .func (PySem.W.fnOf "cores_within" "cores_within" (defArgs sWithin) (defBody sWithin) (defScope sWithin) .none kVWTH dcWTH pmWTH anWTH cdWTH ctWTH), slWTH⟩)
    (cWTH : PySem.W.codeIn K cdWTH "cores_within" = true)
    (kWTH : PySem.W.keepIn K (.ref fWTH) = true)
    (aNAM : PySem.W.nsIn K mainGlobals "names_of" = some (some (.ref fNAM)))
    (lNAM : K.lookup fNAM = some ⟨ocNAM, odNAM, .func (PySem.W.fnOf "names_of" "names_of" (defArgs sNames) (defBody sNames) (defScope sNames) .none kVNAM dcNAM pmNAM anNAM cdNAM ctNAM), slNAM⟩)
    (cNAM : PySem.W.codeIn K cdNAM "names_of" = true)
    (kNAM : PySem.W.keepIn K (.ref fNAM) = true)
    (aTAK : PySem.W.nsIn K mainGlobals "taken_in" = some (some (.ref fTAK)))
    (lTAK : K.lookup fTAK = some ⟨ocTAK, odTAK, .func (PySem.W.fnOf "taken_in" "taken_in" (defArgs sTaken) (defBody sTaken) (defScope sTaken) .none kVTAK dcTAK pmTAK anTAK cdTAK ctTAK), slTAK⟩)
    (cTAK : PySem.W.codeIn K cdTAK "taken_in" = true)
    (kTAK : PySem.W.keepIn K (.ref fTAK) = true)
    (aPTN : PySem.W.nsIn K mainGlobals "put_names" = some (some (.ref fPTN)))
    (lPTN : K.lookup fPTN = some ⟨ocPTN, odPTN, .func (PySem.W.fnOf "put_names" "put_names" (defArgs sPut) (defBody sPut) (defScope sPut) .none kVPTN dcPTN pmPTN anPTN cdPTN ctPTN), slPTN⟩)
    (cPTN : PySem.W.codeIn K cdPTN "put_names" = true)
    (kPTN : PySem.W.keepIn K (.ref fPTN) = true)
    (aNBR : PySem.W.nsIn K mainGlobals "numbered_name" = some (some (.ref fNBR)))
    (lNBR : K.lookup fNBR = some ⟨ocNBR, odNBR, .func (PySem.W.fnOf "numbered_name" "numbered_name" (defArgs sNumbered) (defBody sNumbered) (defScope sNumbered) .none kVNBR dcNBR pmNBR anNBR cdNBR ctNBR), slNBR⟩)
    (cNBR : PySem.W.codeIn K cdNBR "numbered_name" = true)
    (kNBR : PySem.W.keepIn K (.ref fNBR) = true)
    (aSHO : PySem.W.nsIn K mainGlobals "shown" = some (some (.ref fSHO)))
    (lSHO : K.lookup fSHO = some ⟨ocSHO, odSHO, .func (PySem.W.fnOf "shown" "shown" (defArgs sShown) (defBody sShown) (defScope sShown) .none kVSHO dcSHO pmSHO anSHO cdSHO ctSHO), slSHO⟩)
    (cSHO : PySem.W.codeIn K cdSHO "shown" = true)
    (kSHO : PySem.W.keepIn K (.ref fSHO) = true)
    (aSHA : PySem.W.nsIn K mainGlobals "shown_all" = some (some (.ref fSHA)))
    (lSHA : K.lookup fSHA = some ⟨ocSHA, odSHA, .func (PySem.W.fnOf "shown_all" "shown_all" (defArgs sShownAll) (defBody sShownAll) (defScope sShownAll) .none kVSHA dcSHA pmSHA anSHA cdSHA ctSHA), slSHA⟩)
    (cSHA : PySem.W.codeIn K cdSHA "shown_all" = true)
    (kSHA : PySem.W.keepIn K (.ref fSHA) = true)
    (aPSG : PySem.W.nsIn K mainGlobals "put_signs" = some (some (.ref fPSG)))
    (lPSG : K.lookup fPSG = some ⟨ocPSG, odPSG, .func (PySem.W.fnOf "put_signs" "put_signs" (defArgs sPutSigns) (defBody sPutSigns) (defScope sPutSigns) .none kVPSG dcPSG pmPSG anPSG cdPSG ctPSG), slPSG⟩)
    (cPSG : PySem.W.codeIn K cdPSG "put_signs" = true)
    (kPSG : PySem.W.keepIn K (.ref fPSG) = true)
    (aWRT : PySem.W.nsIn K mainGlobals "written" = some (some (.ref fWRT)))
    (lWRT : K.lookup fWRT = some ⟨ocWRT, odWRT, .func (PySem.W.fnOf "written" "written" (defArgs sWritten) (defBody sWritten) (defScope sWritten) .none kVWRT dcWRT pmWRT anWRT cdWRT ctWRT), slWRT⟩)
    (cWRT : PySem.W.codeIn K cdWRT "written" = true)
    (kWRT : PySem.W.keepIn K (.ref fWRT) = true)
    (aROO : PySem.W.nsIn K mainGlobals "row_of" = some (some (.ref fROO)))
    (lROO : K.lookup fROO = some ⟨ocROO, odROO, .func (PySem.W.fnOf "row_of" "row_of" (defArgs sRowOf) (defBody sRowOf) (defScope sRowOf) .none kVROO dcROO pmROO anROO cdROO ctROO), slROO⟩)
    (cROO : PySem.W.codeIn K cdROO "row_of" = true)
    (kROO : PySem.W.keepIn K (.ref fROO) = true)
    (aWOO : PySem.W.nsIn K mainGlobals "word_of" = some (some (.ref fWOO)))
    (lWOO : K.lookup fWOO = some ⟨ocWOO, odWOO, .func (PySem.W.fnOf "word_of" "word_of" (defArgs sWordOf) (defBody sWordOf) (defScope sWordOf) .none kVWOO dcWOO pmWOO anWOO cdWOO ctWOO), slWOO⟩)
    (cWOO : PySem.W.codeIn K cdWOO "word_of" = true)
    (kWOO : PySem.W.keepIn K (.ref fWOO) = true)
    (aITT : PySem.W.nsIn K mainGlobals "item_tree" = some (some (.ref fITT)))
    (lITT : K.lookup fITT = some ⟨ocITT, odITT, .func (PySem.W.fnOf "item_tree" "item_tree" (defArgs sItemTree) (defBody sItemTree) (defScope sItemTree) .none kVITT dcITT pmITT anITT cdITT ctITT), slITT⟩)
    (cITT : PySem.W.codeIn K cdITT "item_tree" = true)
    (kITT : PySem.W.keepIn K (.ref fITT) = true)
    (aCOT : PySem.W.nsIn K mainGlobals "core_tree" = some (some (.ref fCOT)))
    (lCOT : K.lookup fCOT = some ⟨ocCOT, odCOT, .func (PySem.W.fnOf "core_tree" "core_tree" (defArgs sCoreTree) (defBody sCoreTree) (defScope sCoreTree) .none kVCOT dcCOT pmCOT anCOT cdCOT ctCOT), slCOT⟩)
    (cCOT : PySem.W.codeIn K cdCOT "core_tree" = true)
    (kCOT : PySem.W.keepIn K (.ref fCOT) = true)
    (aHDT : PySem.W.nsIn K mainGlobals "head_trees" = some (some (.ref fHDT)))
    (lHDT : K.lookup fHDT = some ⟨ocHDT, odHDT, .func (PySem.W.fnOf "head_trees" "head_trees" (defArgs sHeadTrees) (defBody sHeadTrees) (defScope sHeadTrees) .none kVHDT dcHDT pmHDT anHDT cdHDT ctHDT), slHDT⟩)
    (cHDT : PySem.W.codeIn K cdHDT "head_trees" = true)
    (kHDT : PySem.W.keepIn K (.ref fHDT) = true)
    (aCEL : PySem.W.nsIn K mainGlobals "_law_cell_at" = some (some (.ref fCEL)))
    (lCEL : K.lookup fCEL = some ⟨ocCEL, odCEL, .func (PySem.W.fnOf "_law_cell_at" "_law_cell_at" (defArgs sCell) (defBody sCell) (defScope sCell) .none kVCEL dcCEL pmCEL anCEL cdCEL ctCEL), slCEL⟩)
    (cCEL : PySem.W.codeIn K cdCEL "_law_cell_at" = true)
    (kCEL : PySem.W.keepIn K (.ref fCEL) = true)
    (aNXT : PySem.W.nsIn K mainGlobals "_law_next" = some (some (.ref fNXT)))
    (lNXT : K.lookup fNXT = some ⟨ocNXT, odNXT, .func (PySem.W.fnOf "_law_next" "_law_next" (defArgs sNext) (defBody sNext) (defScope sNext) .none kVNXT dcNXT pmNXT anNXT cdNXT ctNXT), slNXT⟩)
    (cNXT : PySem.W.codeIn K cdNXT "_law_next" = true)
    (kNXT : PySem.W.keepIn K (.ref fNXT) = true)
    (aPOO : PySem.W.nsIn K mainGlobals "_law_pool" = some (some (.ref fPOO)))
    (lPOO : K.lookup fPOO = some ⟨ocPOO, odPOO, .func (PySem.W.fnOf "_law_pool" "_law_pool" (defArgs sPool) (defBody sPool) (defScope sPool) .none kVPOO dcPOO pmPOO anPOO cdPOO ctPOO), slPOO⟩)
    (cPOO : PySem.W.codeIn K cdPOO "_law_pool" = true)
    (kPOO : PySem.W.keepIn K (.ref fPOO) = true)
    (aNEW : PySem.W.nsIn K mainGlobals "_law_new" = some (some (.ref fNEW)))
    (lNEW : K.lookup fNEW = some ⟨ocNEW, odNEW, .func (PySem.W.fnOf "_law_new" "_law_new" (defArgs sNew) (defBody sNew) (defScope sNew) .none kVNEW dcNEW pmNEW anNEW cdNEW ctNEW), slNEW⟩)
    (cNEW : PySem.W.codeIn K cdNEW "_law_new" = true)
    (kNEW : PySem.W.keepIn K (.ref fNEW) = true)
    (aLEA : PySem.W.nsIn K mainGlobals "_law_leaf" = some (some (.ref fLEA)))
    (lLEA : K.lookup fLEA = some ⟨ocLEA, odLEA, .func (PySem.W.fnOf "_law_leaf" "_law_leaf" (defArgs sLeaf) (defBody sLeaf) (defScope sLeaf) .none kVLEA dcLEA pmLEA anLEA cdLEA ctLEA), slLEA⟩)
    (cLEA : PySem.W.codeIn K cdLEA "_law_leaf" = true)
    (kLEA : PySem.W.keepIn K (.ref fLEA) = true)
    (aMNY : PySem.W.nsIn K mainGlobals "_law_many" = some (some (.ref fMNY)))
    (lMNY : K.lookup fMNY = some ⟨ocMNY, odMNY, .func (PySem.W.fnOf "_law_many" "_law_many" (defArgs sMany) (defBody sMany) (defScope sMany) .none kVMNY dcMNY pmMNY anMNY cdMNY ctMNY), slMNY⟩)
    (cMNY : PySem.W.codeIn K cdMNY "_law_many" = true)
    (kMNY : PySem.W.keepIn K (.ref fMNY) = true)
    (aCOR : PySem.W.nsIn K mainGlobals "_law_core" = some (some (.ref fCOR)))
    (lCOR : K.lookup fCOR = some ⟨ocCOR, odCOR, .func (PySem.W.fnOf "_law_core" "_law_core" (defArgs sCore) (defBody sCore) (defScope sCore) .none kVCOR dcCOR pmCOR anCOR cdCOR ctCOR), slCOR⟩)
    (cCOR : PySem.W.codeIn K cdCOR "_law_core" = true)
    (kCOR : PySem.W.keepIn K (.ref fCOR) = true)
    (aITS : PySem.W.nsIn K mainGlobals "_law_items" = some (some (.ref fITS)))
    (lITS : K.lookup fITS = some ⟨ocITS, odITS, .func (PySem.W.fnOf "_law_items" "_law_items" (defArgs sItems) (defBody sItems) (defScope sItems) .none kVITS dcITS pmITS anITS cdITS ctITS), slITS⟩)
    (cITS : PySem.W.codeIn K cdITS "_law_items" = true)
    (kITS : PySem.W.keepIn K (.ref fITS) = true)
    (aMOV : PySem.W.nsIn K mainGlobals "_law_moved" = some (some (.ref fMOV)))
    (lMOV : K.lookup fMOV = some ⟨ocMOV, odMOV, .func (PySem.W.fnOf "_law_moved" "_law_moved" (defArgs sMoved) (defBody sMoved) (defScope sMoved) .none kVMOV dcMOV pmMOV anMOV cdMOV ctMOV), slMOV⟩)
    (cMOV : PySem.W.codeIn K cdMOV "_law_moved" = true)
    (kMOV : PySem.W.keepIn K (.ref fMOV) = true)
    (aCHA : PySem.W.nsIn K mainGlobals "_law_changed" = some (some (.ref fCHA)))
    (lCHA : K.lookup fCHA = some ⟨ocCHA, odCHA, .func (PySem.W.fnOf "_law_changed" "_law_changed" (defArgs sChanged) (defBody sChanged) (defScope sChanged) .none kVCHA dcCHA pmCHA anCHA cdCHA ctCHA), slCHA⟩)
    (cCHA : PySem.W.codeIn K cdCHA "_law_changed" = true)
    (kCHA : PySem.W.keepIn K (.ref fCHA) = true)
    (aALL : PySem.W.nsIn K mainGlobals "_law_all" = some (some (.ref fALL)))
    (lALL : K.lookup fALL = some ⟨ocALL, odALL, .func (PySem.W.fnOf "_law_all" "_law_all" (defArgs sAll) (defBody sAll) (defScope sAll) .none kVALL dcALL pmALL anALL cdALL ctALL), slALL⟩)
    (cALL : PySem.W.codeIn K cdALL "_law_all" = true)
    (kALL : PySem.W.keepIn K (.ref fALL) = true)
    (aZ : PySem.W.nsIn K mainGlobals "law" = some (some (.ref fZ)))
    (lZ : K.lookup fZ = some ⟨ocZ, odZ, .func (PySem.W.fnOf "law" "law" (defArgs sLaw) (defBody sLaw) (defScope sLaw) .none kVZ dcZ pmZ anZ cdZ ctZ), slZ⟩)
    (cZ : PySem.W.codeIn K cdZ "law" = true)
    (kZ : PySem.W.keepIn K (.ref fZ) = true)
    (aWI : PySem.W.findIn K (.ref gW) "__init__" = some (some (.ref fWI)))
    (lWI : K.lookup fWI = some ⟨ocWI, odWI, .func (PySem.W.fnOf "__init__" "Word.__init__" (defArgs sWI) (defBody sWI) (defScope sWI) (.ref T0) kVWI dcWI pmWI anWI cdWI ctWI), slWI⟩)
    (cWI : PySem.W.codeIn K cdWI "Word.__init__" = true)
    (kWI : PySem.W.keepIn K (.ref fWI) = true)
    (iWI : PySem.W.isFn K (.ref fWI) = true)
    (lT0 : K.lookup T0 = some ⟨ocT0, odT0, .seq #[.int 0 t0] nT0, slT0⟩)
    (aTI : PySem.W.findIn K (.ref gT) "__init__" = some (some (.ref fTI)))
    (lTI : K.lookup fTI = some ⟨ocTI, odTI, .func (PySem.W.fnOf "__init__" "Tree.__init__" (defArgs sTI) (defBody sTI) (defScope sTI) .none kVTI dcTI pmTI anTI cdTI ctTI), slTI⟩)
    (cTI : PySem.W.codeIn K cdTI "Tree.__init__" = true)
    (kTI : PySem.W.keepIn K (.ref fTI) = true)
    (iTI : PySem.W.isFn K (.ref fTI) = true)
    (aFI : PySem.W.findIn K (.ref gF) "__init__" = some (some (.ref fFI)))
    (lFI : K.lookup fFI = some ⟨ocFI, odFI, .func (PySem.W.fnOf "__init__" "Figure.__init__" (defArgs sFI) (defBody sFI) (defScope sFI) .none kVFI dcFI pmFI anFI cdFI ctFI), slFI⟩)
    (cFI : PySem.W.codeIn K cdFI "Figure.__init__" = true)
    (kFI : PySem.W.keepIn K (.ref fFI) = true)
    (iFI : PySem.W.isFn K (.ref fFI) = true)
    (aRI : PySem.W.findIn K (.ref gR) "__init__" = some (some (.ref fRI)))
    (lRI : K.lookup fRI = some ⟨ocRI, odRI, .func (PySem.W.fnOf "__init__" "Row.__init__" (defArgs sRI) (defBody sRI) (defScope sRI) .none kVRI dcRI pmRI anRI cdRI ctRI), slRI⟩)
    (cRI : PySem.W.codeIn K cdRI "Row.__init__" = true)
    (kRI : PySem.W.keepIn K (.ref fRI) = true)
    (iRI : PySem.W.isFn K (.ref fRI) = true)
    (mkW : PySem.W.makesIn K gW = true)
    (kcW : PySem.W.keepIn K (.ref gW) = true)
    (pgW : PySem.W.plainGet K gW Str.empty = true)
    (hdW : PySem.W.hasDictIn K gW = true)
    (poW : PySem.W.plainOver K gW = true)
    (saW : PySem.W.findIn K (.ref gW) "__setattr__" = some (some (.builtin "object.__setattr__")))
    (nAW : PySem.W.findIn K (.ref gW) "at" = some none)
    (nMW : PySem.W.findIn K (.ref gW) "many" = some none)
    (nDW : PySem.W.findIn K (.ref gW) "deep" = some none)
    (haW : PySem.W.findIn K (.ref gW) "__class__" = some (some (.builtin "object.__class__")))
    (hmW : PySem.W.mroIn K gW (.type "object") = some true)
    (mkF : PySem.W.makesIn K gF = true)
    (kcF : PySem.W.keepIn K (.ref gF) = true)
    (pgF : PySem.W.plainGet K gF Str.empty = true)
    (hdF : PySem.W.hasDictIn K gF = true)
    (poF : PySem.W.plainOver K gF = true)
    (saF : PySem.W.findIn K (.ref gF) "__setattr__" = some (some (.builtin "object.__setattr__")))
    (nAF : PySem.W.findIn K (.ref gF) "at" = some none)
    (nMF : PySem.W.findIn K (.ref gF) "many" = some none)
    (nDF : PySem.W.findIn K (.ref gF) "deep" = some none)
    (haF : PySem.W.findIn K (.ref gF) "__class__" = some (some (.builtin "object.__class__")))
    (hmF : PySem.W.mroIn K gF (.type "object") = some true)
    (mkR : PySem.W.makesIn K gR = true)
    (kcR : PySem.W.keepIn K (.ref gR) = true)
    (pgR : PySem.W.plainGet K gR Str.empty = true)
    (hdR : PySem.W.hasDictIn K gR = true)
    (poR : PySem.W.plainOver K gR = true)
    (saR : PySem.W.findIn K (.ref gR) "__setattr__" = some (some (.builtin "object.__setattr__")))
    (nAR : PySem.W.findIn K (.ref gR) "at" = some none)
    (nMR : PySem.W.findIn K (.ref gR) "many" = some none)
    (nDR : PySem.W.findIn K (.ref gR) "deep" = some none)
    (haR : PySem.W.findIn K (.ref gR) "__class__" = some (some (.builtin "object.__class__")))
    (hmR : PySem.W.mroIn K gR (.type "object") = some true)
    (nWn : PySem.W.findIn K (.ref gW) "name" = some none)
    (nWb : PySem.W.findIn K (.ref gW) "bits" = some none)
    (nFn : PySem.W.findIn K (.ref gF) "number" = some none)
    (nRp : PySem.W.findIn K (.ref gR) "parts" = some none)
    (gtT : PySem.W.specialIn K (.ref gT) "__getattribute__" = some (some (.builtin "type.__getattribute__")))
    (rdT : PySem.W.readsIn K gT (.type "type") = true)
    (fcT : PySem.W.findCls K (.ref gT) (.type "type") "__init__" = some (.val (.ref fTI)))
    (hn : PySem.W.specialIn K (.builtin "object.__class__") "__get__" = some (some (.builtin "getset_descriptor.__get__")))
    (htk : PySem.W.takesIn K (.builtin "object.__class__") = some true)
    (iWW : PySem.W.kitOne K (.ref gW) (.ref gW) = some true)
    (iFW : PySem.W.kitOne K (.ref gF) (.ref gW) = some false)
    (iRW : PySem.W.kitOne K (.ref gR) (.ref gW) = some false)
    (iWF : PySem.W.kitOne K (.ref gW) (.ref gF) = some false)
    (iFF : PySem.W.kitOne K (.ref gF) (.ref gF) = some true)
    (iRF : PySem.W.kitOne K (.ref gR) (.ref gF) = some false)
    (iWR : PySem.W.kitOne K (.ref gW) (.ref gR) = some false)
    (iFR : PySem.W.kitOne K (.ref gF) (.ref gR) = some false)
    (iRR : PySem.W.kitOne K (.ref gR) (.ref gR) = some true)
    (iWT : PySem.W.kitOne K (.ref gW) (.ref gT) = some true)
    (iFT : PySem.W.kitOne K (.ref gF) (.ref gT) = some true)
    (iRT : PySem.W.kitOne K (.ref gR) (.ref gT) = some true)
    (z0 : PySem.W.nsIn K mainGlobals "len" = some none)
    (z1 : PySem.W.nsIn K mainGlobals "list" = some none)
    (z2 : PySem.W.nsIn K mainGlobals "reversed" = some none)
    (z3 : PySem.W.nsIn K mainGlobals "range" = some none)
    (z4 : PySem.W.nsIn K mainGlobals "isinstance" = some none)
    (z5 : PySem.W.nsIn K mainGlobals "tuple" = some none)
    (z6 : PySem.W.nsIn K mainGlobals "dict" = some none)
    (z7 : PySem.W.nsIn K mainGlobals "str" = some none)
    (z8 : PySem.W.nsIn K mainGlobals "sum" = some none)
    (z9 : PySem.W.nsIn K mainGlobals "max" = some none)
    : ∃ fd : FuncData, (∀ (s : Shared) (v : Value), BindsTo s fd ⟨[v], []⟩ [("_law_script", v)]) ∧ ∀ base : Heap, K.In base → base.Ns mainGlobals mg → FnOk l.prog w K mg base CX0 66 fa fd ["_law_script"] (spLaw K) := by
  have e := hfa.symm.trans (PySem.W.mg_of X G aZ)
  cases e
  have TX : Txt mg := ⟨PySem.W.mg_none_of X G z0, PySem.W.mg_none_of X G z1, PySem.W.mg_none_of X G z2, PySem.W.mg_none_of X G z3, PySem.W.mg_none_of X G z4, PySem.W.mg_none_of X G z5, PySem.W.mg_none_of X G z6, PySem.W.mg_none_of X G z7⟩
  have T : Tcs K mg ⟨gT, gW, gF, gR⟩ := ⟨⟨⟨pgW, hdW, poW, saW⟩, nAW, nMW, nDW, haW, hmW⟩, ⟨⟨pgF, hdF, poF, saF⟩, nAF, nMF, nDF, haF, hmF⟩, ⟨⟨pgR, hdR, poR, saR⟩, nAR, nMR, nDR, haR, hmR⟩, nWn, nWb, nFn, nRp, PySem.W.mg_of X G qT, PySem.W.mg_of X G qW, PySem.W.mg_of X G qF, PySem.W.mg_of X G qR, hn, htk, iWW, iFW, iRW, iWF, iFF, iRF, iWR, iFR, iRR, iWT, iFT, iRT, PySem.W.mg_none_of X G z1, PySem.W.mg_none_of X G z9, PySem.W.mg_none_of X G z8⟩
  have FINN := fun_mk (st := sInner) lINN cINN kINN
  have bINN := FINN.binds (ps := ["core"]) fun _ _ _ _ _ _ us hl => by obtain ⟨_, rfl⟩ := len1 hl; rfl
  have mINN := PySem.W.mg_of X G aINN
  have FWTH := fun_mk (st := sWithin) lWTH cWTH kWTH
  have bWTH := FWTH.binds (ps := ["core"]) fun _ _ _ _ _ _ us hl => by obtain ⟨_, rfl⟩ := len1 hl; rfl
  have mWTH := PySem.W.mg_of X G aWTH
  have FNAM := fun_mk (st := sNames) lNAM cNAM kNAM
  have bNAM := FNAM.binds (ps := ["items"]) fun _ _ _ _ _ _ us hl => by obtain ⟨_, rfl⟩ := len1 hl; rfl
  have mNAM := PySem.W.mg_of X G aNAM
  have FTAK := fun_mk (st := sTaken) lTAK cTAK kTAK
  have bTAK := FTAK.binds (ps := ["scope", "names"]) fun _ _ _ _ _ _ us hl => by obtain ⟨_, _, rfl⟩ := len2 hl; rfl
  have mTAK := PySem.W.mg_of X G aTAK
  have FPTN := fun_mk (st := sPut) lPTN cPTN kPTN
  have bPTN := FPTN.binds (ps := ["names", "places", "taken"]) fun _ _ _ _ _ _ us hl => by obtain ⟨_, _, _, rfl⟩ := len3 hl; rfl
  have mPTN := PySem.W.mg_of X G aPTN
  have FNBR := fun_mk (st := sNumbered) lNBR cNBR kNBR
  have bNBR := FNBR.binds (ps := ["name", "number"]) fun _ _ _ _ _ _ us hl => by obtain ⟨_, _, rfl⟩ := len2 hl; rfl
  have mNBR := PySem.W.mg_of X G aNBR
  have FSHO := fun_mk (st := sShown) lSHO cSHO kSHO
  have bSHO := FSHO.binds (ps := ["tree"]) fun _ _ _ _ _ _ us hl => by obtain ⟨_, rfl⟩ := len1 hl; rfl
  have mSHO := PySem.W.mg_of X G aSHO
  have FSHA := fun_mk (st := sShownAll) lSHA cSHA kSHA
  have bSHA := FSHA.binds (ps := ["trees"]) fun _ _ _ _ _ _ us hl => by obtain ⟨_, rfl⟩ := len1 hl; rfl
  have mSHA := PySem.W.mg_of X G aSHA
  have FPSG := fun_mk (st := sPutSigns) lPSG cPSG kPSG
  have bPSG := FPSG.binds (ps := ["tree", "signs"]) fun _ _ _ _ _ _ us hl => by obtain ⟨_, _, rfl⟩ := len2 hl; rfl
  have mPSG := PySem.W.mg_of X G aPSG
  have FWRT := fun_mk (st := sWritten) lWRT cWRT kWRT
  have bWRT := FWRT.binds (ps := ["items"]) fun _ _ _ _ _ _ us hl => by obtain ⟨_, rfl⟩ := len1 hl; rfl
  have mWRT := PySem.W.mg_of X G aWRT
  have FROO := fun_mk (st := sRowOf) lROO cROO kROO
  have bROO := FROO.binds (ps := ["parts"]) fun _ _ _ _ _ _ us hl => by obtain ⟨_, rfl⟩ := len1 hl; rfl
  have mROO := PySem.W.mg_of X G aROO
  have FWOO := fun_mk (st := sWordOf) lWOO cWOO kWOO
  have bWOO := FWOO.binds (ps := ["name"]) fun _ _ _ _ _ _ us hl => by obtain ⟨_, rfl⟩ := len1 hl; rfl
  have mWOO := PySem.W.mg_of X G aWOO
  have FITT := fun_mk (st := sItemTree) lITT cITT kITT
  have bITT := FITT.binds (ps := ["item", "names"]) fun _ _ _ _ _ _ us hl => by obtain ⟨_, _, rfl⟩ := len2 hl; rfl
  have mITT := PySem.W.mg_of X G aITT
  have FCOT := fun_mk (st := sCoreTree) lCOT cCOT kCOT
  have bCOT := FCOT.binds (ps := ["core", "names"]) fun _ _ _ _ _ _ us hl => by obtain ⟨_, _, rfl⟩ := len2 hl; rfl
  have mCOT := PySem.W.mg_of X G aCOT
  have FHDT := fun_mk (st := sHeadTrees) lHDT cHDT kHDT
  have bHDT := FHDT.binds (ps := ["core", "names"]) fun _ _ _ _ _ _ us hl => by obtain ⟨_, _, rfl⟩ := len2 hl; rfl
  have mHDT := PySem.W.mg_of X G aHDT
  have FCEL := fun_mk (st := sCell) lCEL cCEL kCEL
  have bCEL := FCEL.binds (ps := ["_law_script", "_law_k"]) fun _ _ _ _ _ _ us hl => by obtain ⟨_, _, rfl⟩ := len2 hl; rfl
  have mCEL := PySem.W.mg_of X G aCEL
  have FNXT := fun_mk (st := sNext) lNXT cNXT kNXT
  have bNXT := FNXT.binds (ps := ["_law_draws"]) fun _ _ _ _ _ _ us hl => by obtain ⟨_, rfl⟩ := len1 hl; rfl
  have mNXT := PySem.W.mg_of X G aNXT
  have FPOO := fun_mk (st := sPool) lPOO cPOO kPOO
  have bPOO := FPOO.binds (ps := ["_law_cell"]) fun _ _ _ _ _ _ us hl => by obtain ⟨_, rfl⟩ := len1 hl; rfl
  have mPOO := PySem.W.mg_of X G aPOO
  have FNEW := fun_mk (st := sNew) lNEW cNEW kNEW
  have bNEW := FNEW.binds (ps := ["_law_count", "_law_many_here"]) fun _ _ _ _ _ _ us hl => by obtain ⟨_, _, rfl⟩ := len2 hl; rfl
  have mNEW := PySem.W.mg_of X G aNEW
  have FLEA := fun_mk (st := sLeaf) lLEA cLEA kLEA
  have bLEA := FLEA.binds (ps := ["_law_cell", "_law_known", "_law_pool_here"]) fun _ _ _ _ _ _ us hl => by obtain ⟨_, _, _, rfl⟩ := len3 hl; rfl
  have mLEA := PySem.W.mg_of X G aLEA
  have FMNY := fun_mk (st := sMany) lMNY cMNY kMNY
  have bMNY := FMNY.binds (ps := ["_law_draws", "_law_depth", "_law_known", "_law_pool_here", "_law_count", "_law_many_here"]) fun _ _ _ _ _ _ us hl => by obtain ⟨_, _, _, _, _, _, rfl⟩ := len6 hl; rfl
  have mMNY := PySem.W.mg_of X G aMNY
  have FCOR := fun_mk (st := sCore) lCOR cCOR kCOR
  have bCOR := FCOR.binds (ps := ["_law_draws", "_law_depth", "_law_known", "_law_pool_here", "_law_count"]) fun _ _ _ _ _ _ us hl => by obtain ⟨_, _, _, _, _, rfl⟩ := len5 hl; rfl
  have mCOR := PySem.W.mg_of X G aCOR
  have FITS := fun_mk (st := sItems) lITS cITS kITS
  have bITS := FITS.binds (ps := ["_law_script", "_law_pool_here", "_law_count"]) fun _ _ _ _ _ _ us hl => by obtain ⟨_, _, _, rfl⟩ := len3 hl; rfl
  have mITS := PySem.W.mg_of X G aITS
  have FMOV := fun_mk (st := sMoved) lMOV cMOV kMOV
  have bMOV := FMOV.binds (ps := ["_law_place", "_law_way"]) fun _ _ _ _ _ _ us hl => by obtain ⟨_, _, rfl⟩ := len2 hl; rfl
  have mMOV := PySem.W.mg_of X G aMOV
  have FCHA := fun_mk (st := sChanged) lCHA cCHA kCHA
  have bCHA := FCHA.binds (ps := ["_law_core_here", "_law_names", "_law_way"]) fun _ _ _ _ _ _ us hl => by obtain ⟨_, _, _, rfl⟩ := len3 hl; rfl
  have mCHA := PySem.W.mg_of X G aCHA
  have FALL := fun_mk (st := sAll) lALL cALL kALL
  have bALL := FALL.binds (ps := ["_law_items_here", "_law_names", "_law_way"]) fun _ _ _ _ _ _ us hl => by obtain ⟨_, _, _, rfl⟩ := len3 hl; rfl
  have mALL := PySem.W.mg_of X G aALL
  have FZ := fun_mk (st := sLaw) lZ cZ kZ
  have FTI := fun_mk (st := sTI) lTI cTI kTI
  have bTI := FTI.binds (ps := ["self", "at", "many", "deep"]) fun _ _ _ _ _ _ us hl => by obtain ⟨_, _, _, _, rfl⟩ := len4 hl; rfl
  have FFI := fun_mk (st := sFI) lFI cFI kFI
  have bFI := FFI.binds (ps := ["self", "number", "at"]) fun _ _ _ _ _ _ us hl => by obtain ⟨_, _, _, rfl⟩ := len3 hl; rfl
  have FRI := fun_mk (st := sRI) lRI cRI kRI
  have bRI := FRI.binds (ps := ["self", "parts", "at"]) fun _ _ _ _ _ _ us hl => by obtain ⟨_, _, _, rfl⟩ := len3 hl; rfl
  have FWI := fund_mk (st := sWI) lWI cWI kWI
  have bWI0 : Binds K (PySem.W.fnOf "__init__" "Word.__init__" (defArgs sWI) (defBody sWI) (defScope sWI) (.ref T0) kVWI dcWI pmWI anWI cdWI ctWI) ["self", "name", "at", "bits"] [.int 0 t0] := fun s us hK hl => by
    obtain ⟨_, _, _, rfl⟩ := len3 (show us.length = 3 by simpa using hl)
    exact PySem.W.binds_K hK rfl lT0 rfl rfl rfl
  have cT' : ClsFn K (C4.mk gT gW gF gR).T "__init__" fTI := ⟨gtT, rdT, fcT, kTI⟩
  refine ⟨PySem.W.fnOf "law" "law" (defArgs sLaw) (defBody sLaw) (defScope sLaw) .none kVZ dcZ pmZ anZ cdZ ctZ, fun s v => .of_eq rfl, fun base _ _ => ?_⟩
  have GWI : FnOk l.prog w K mg base CX0 2 fWI _ ["self", "name", "at", "bits"] (spWI ⟨gT, gW, gF, gR⟩) := ok_wi FWI T FTI bTI cT'
  have GFI : FnOk l.prog w K mg base CX0 2 fFI _ ["self", "number", "at"] (spFI ⟨gT, gW, gF, gR⟩) := ok_fi FFI T FTI bTI cT'
  have GRI : FnOk l.prog w K mg base CX0 2 fRI _ ["self", "parts", "at"] (spRI ⟨gT, gW, gF, gR⟩) := ok_ri FRI T FTI bTI cT'
  have MW : Mk K gW fWI := ⟨mkW, aWI, iWI, kcW⟩
  have MF : Mk K gF fFI := ⟨mkF, aFI, iFI, kcF⟩
  have MR : Mk K gR fRI := ⟨mkR, aRI, iRI, kcR⟩
  have M : Mks K ⟨gT, gW, gF, gR⟩ fWI fFI fRI := ⟨MW, MF, MR⟩
  have NM : Nms mg := ⟨PySem.W.mg_none_of X G z4, PySem.W.mg_none_of X G z7⟩
  have GWO : FnOk l.prog w K mg base CX0 4 fWOO _ ["name"] (spWordOf ⟨gT, gW, gF, gR⟩) := ok_wordOf FWOO T M GWI bWI0
  have GRO : FnOk l.prog w K mg base CX0 4 fROO _ ["parts"] (spRowOf ⟨gT, gW, gF, gR⟩) := ok_rowOf FROO T M GRI bRI
  have GHD : FnOk l.prog w K mg base CX0 5 fHDT _ ["core", "names"] (spHead ⟨gT, gW, gF, gR⟩) := ok_headT FHDT GWO FWOO bWOO mWOO GRO FROO bROO mROO
  have GIN : FnOk l.prog w K mg base CX0 1 fINN _ ["core"] spInner := ok_inner FINN TX
  have S : Calls l.prog w K mg base ⟨gT, gW, gF, gR⟩ fFI fFI fWOO fROO fHDT fINN _ _ _ _ _ := ⟨GFI, bFI, MF, GWO, kWOO, bWOO, mWOO, GRO, kROO, bROO, mROO, GHD, kHDT, bHDT, mHDT, GIN, kINN, bINN, mINN⟩
  have GCT : FnOk l.prog w K mg base CX0 12 fCOT _ ["core", "names"] (spTreeC ⟨gT, gW, gF, gR⟩ 6) := ok_treeF FCOT T S bCOT mCOT 6
  have GIT : FnOk l.prog w K mg base CX0 13 fITT _ ["item", "names"] (spTreeI ⟨gT, gW, gF, gR⟩) := ok_treeI FITT S GCT kCOT bCOT mCOT
  have GNA : FnOk l.prog w K mg base CX0 3 fNAM _ ["items"] spNames := ok_names FNAM TX FINN bINN mINN FWTH bWTH mWTH FTAK bTAK mTAK FPTN bPTN mPTN FNBR bNBR mNBR
  have GSH : FnOk l.prog w K mg base CX0 64 fSHO _ ["tree"] (spShown ⟨gT, gW, gF, gR⟩) := ok_shown FSHO T NM FPSG bPSG mPSG FSHA bSHA mSHA
  have GWR : FnOk l.prog w K mg base CX0 65 fWRT _ ["items"] (spWritten ⟨gT, gW, gF, gR⟩) := ok_written FWRT S GIT kITT bITT mITT GNA kNAM bNAM mNAM GSH kSHO bSHO mSHO
  have GCO := ok_core (P := l.prog) (w := w) (base := base) FCOR TX bCOR mCOR FNXT bNXT mNXT FLEA bLEA mLEA FNEW bNEW mNEW FMNY bMNY mMNY
  have GJ : FnOk l.prog w K mg base CX0 14 fITS _ ["_law_script", "_law_pool_here", "_law_count"] (spItems K) := ok_items FITS TX kCEL bCEL mCEL (ok_cell FCEL TX) kNEW bNEW mNEW (ok_new FNEW TX) kCOR bCOR mCOR ((GCO 4).mono (by decide)) (GCO 5)
  have GMV : FnOk l.prog w K mg base CX0 1 fMOV _ ["_law_place", "_law_way"] spMoved := ok_moved FMOV
  have GCH : FnOk l.prog w K mg base CX0 8 fCHA _ pCh (spChanged 6) := ok_changed FCHA TX kMOV bMOV mMOV GMV bCHA mCHA 6
  have GAL : FnOk l.prog w K mg base CX0 9 fALL _ pAl spAll := ok_all FALL kMOV bMOV mMOV GMV kCHA bCHA mCHA GCH
  exact ok_law FZ TX kCEL bCEL mCEL (ok_cell FCEL TX) kPOO bPOO mPOO (ok_pool FPOO TX) kITS bITS mITS GJ kNAM bNAM mNAM GNA kALL bALL mALL GAL kWRT bWRT mWRT GWR
theorem walk {l : PySem.W.OpenLaw} {q : Program} {loose : List Str} {XP : (Str → Option Value) → Heap → Prop} {YP : World → Heap → Prop} {d : DefRec} {K : Params → PySem.W.Frag} (hn : l.most = some 63) (hdf : d.params.defaults = [])
    (hY : ∀ (w : World) (h : Heap), YP w h → (K w.params).In h)
    (F : ∀ (w : World) (mg : Str → Option Value) (fa : Addr) (h : Heap), (K w.params).In h → h.Ns mainGlobals mg → mg d.name = some (.ref fa) →
      ∃ fd : FuncData, (∀ (s : Shared) (u : Value), BindsTo s fd ⟨[u], []⟩ [("_law_script", u)]) ∧ ∀ base : Heap, (K w.params).In base → base.Ns mainGlobals mg → FnOk l.prog w (K w.params) mg base CX0 66 fa fd ["_law_script"] (spLaw (K w.params))) :
    PySem.W.WalkO q loose XP YP l.row.toRowW d [] (fun f vs => PySem.call f vs) :=
  L2.walk_of (n := 63) (k := 66) (x := "_law_script") (CX := fun _ => CX0) (sp := fun w => spLaw (K w.params)) hn (by decide) hdf ⟨rfl, by decide, by decide⟩ hY F (fun _ _ a ns hl _ hS => ⟨a, ns, rfl, hS, hl, fun _ => rfl⟩) fun _ _ _ _ _ z => z
end K75
open PySem PySem.W PyProof.Rows
set_option maxRecDepth 100000 in
set_option maxHeartbeats 0 in
theorem PySem.Challenge.cw_macrohouse_k75_named_so_already_holds : PySem.Challenge.rw_macrohouse_k75_named_so_already.Holds := by
  w_on; o_law; k_head; (case hw => w_witness2)
  k_fill
  refine K75.walk (l := PySem.Challenge.rw_macrohouse_k75_named_so_already) rfl rfl (fun w h Y => PySem.W.kIn_of Y) ?F
  case F =>
    intro w mg fa h KX G hmg
    refine' K75.all_mk KX G hmg ?qT ?qW ?qF ?qR ?aINN ?lINN ?cINN ?kINN ?aWTH ?lWTH ?cWTH ?kWTH ?aNAM ?lNAM ?cNAM ?kNAM ?aTAK ?lTAK ?cTAK ?kTAK ?aPTN ?lPTN ?cPTN ?kPTN ?aNBR ?lNBR ?cNBR ?kNBR ?aSHO ?lSHO ?cSHO ?kSHO ?aSHA ?lSHA ?cSHA ?kSHA ?aPSG ?lPSG ?cPSG ?kPSG ?aWRT ?lWRT ?cWRT ?kWRT ?aROO ?lROO ?cROO ?kROO ?aWOO ?lWOO ?cWOO ?kWOO ?aITT ?lITT ?cITT ?kITT ?aCOT ?lCOT ?cCOT ?kCOT ?aHDT ?lHDT ?cHDT ?kHDT ?aCEL ?lCEL ?cCEL ?kCEL ?aNXT ?lNXT ?cNXT ?kNXT ?aPOO ?lPOO ?cPOO ?kPOO ?aNEW ?lNEW ?cNEW ?kNEW ?aLEA ?lLEA ?cLEA ?kLEA ?aMNY ?lMNY ?cMNY ?kMNY ?aCOR ?lCOR ?cCOR ?kCOR ?aITS ?lITS ?cITS ?kITS ?aMOV ?lMOV ?cMOV ?kMOV ?aCHA ?lCHA ?cCHA ?kCHA ?aALL ?lALL ?cALL ?kALL ?aZ ?lZ ?cZ ?kZ ?aWI ?lWI ?cWI ?kWI ?iWI ?lT0 ?aTI ?lTI ?cTI ?kTI ?iTI ?aFI ?lFI ?cFI ?kFI ?iFI ?aRI ?lRI ?cRI ?kRI ?iRI ?mkW ?kcW ?pgW ?hdW ?poW ?saW ?nAW ?nMW ?nDW ?haW ?hmW ?mkF ?kcF ?pgF ?hdF ?poF ?saF ?nAF ?nMF ?nDF ?haF ?hmF ?mkR ?kcR ?pgR ?hdR ?poR ?saR ?nAR ?nMR ?nDR ?haR ?hmR ?nWn ?nWb ?nFn ?nRp ?gtT ?rdT ?fcT ?hn ?htk ?iWW ?iFW ?iRW ?iWF ?iFF ?iRF ?iWR ?iFR ?iRR ?iWT ?iFT ?iRT ?z0 ?z1 ?z2 ?z3 ?z4 ?z5 ?z6 ?z7 ?z8 ?z9
    (case qT => k_is); (case qW => k_is); (case qF => k_is); (case qR => k_is); (case aINN => k_is); (case lINN => k_is)
    (case cINN => k_is); (case kINN => k_is); (case aWTH => k_is); (case lWTH => k_is); (case cWTH => k_is); (case kWTH => k_is)
    (case aNAM => k_is); (case lNAM => k_is); (case cNAM => k_is); (case kNAM => k_is); (case aTAK => k_is); (case lTAK => k_is)
    (case cTAK => k_is); (case kTAK => k_is); (case aPTN => k_is); (case lPTN => k_is); (case cPTN => k_is); (case kPTN => k_is)
    (case aNBR => k_is); (case lNBR => k_is); (case cNBR => k_is); (case kNBR => k_is); (case aSHO => k_is); (case lSHO => k_is)
    (case cSHO => k_is); (case kSHO => k_is); (case aSHA => k_is); (case lSHA => k_is); (case cSHA => k_is); (case kSHA => k_is)
    (case aPSG => k_is); (case lPSG => k_is); (case cPSG => k_is); (case kPSG => k_is); (case aWRT => k_is); (case lWRT => k_is)
    (case cWRT => k_is); (case kWRT => k_is); (case aROO => k_is); (case lROO => k_is); (case cROO => k_is); (case kROO => k_is)
    (case aWOO => k_is); (case lWOO => k_is); (case cWOO => k_is); (case kWOO => k_is); (case aITT => k_is); (case lITT => k_is)
    (case cITT => k_is); (case kITT => k_is); (case aCOT => k_is); (case lCOT => k_is); (case cCOT => k_is); (case kCOT => k_is)
    (case aHDT => k_is); (case lHDT => k_is); (case cHDT => k_is); (case kHDT => k_is); (case aCEL => k_is); (case lCEL => k_is)
    (case cCEL => k_is); (case kCEL => k_is); (case aNXT => k_is); (case lNXT => k_is); (case cNXT => k_is); (case kNXT => k_is)
    (case aPOO => k_is); (case lPOO => k_is); (case cPOO => k_is); (case kPOO => k_is); (case aNEW => k_is); (case lNEW => k_is)
    (case cNEW => k_is); (case kNEW => k_is); (case aLEA => k_is); (case lLEA => k_is); (case cLEA => k_is); (case kLEA => k_is)
    (case aMNY => k_is); (case lMNY => k_is); (case cMNY => k_is); (case kMNY => k_is); (case aCOR => k_is); (case lCOR => k_is)
    (case cCOR => k_is); (case kCOR => k_is); (case aITS => k_is); (case lITS => k_is); (case cITS => k_is); (case kITS => k_is)
    (case aMOV => k_is); (case lMOV => k_is); (case cMOV => k_is); (case kMOV => k_is); (case aCHA => k_is); (case lCHA => k_is)
    (case cCHA => k_is); (case kCHA => k_is); (case aALL => k_is); (case lALL => k_is); (case cALL => k_is); (case kALL => k_is)
    (case aZ => k_is); (case lZ => k_is); (case cZ => k_is); (case kZ => k_is); (case aWI => k_is); (case lWI => k_is)
    (case cWI => k_is); (case kWI => k_is); (case iWI => k_is); (case lT0 => k_is); (case aTI => k_is); (case lTI => k_is)
    (case cTI => k_is); (case kTI => k_is); (case iTI => k_is); (case aFI => k_is); (case lFI => k_is); (case cFI => k_is)
    (case kFI => k_is); (case iFI => k_is); (case aRI => k_is); (case lRI => k_is); (case cRI => k_is); (case kRI => k_is)
    (case iRI => k_is); (case mkW => k_is); (case kcW => k_is); (case pgW => k_is); (case hdW => k_is); (case poW => k_is)
    (case saW => k_is); (case nAW => k_is); (case nMW => k_is); (case nDW => k_is); (case haW => k_is); (case hmW => k_is)
    (case mkF => k_is); (case kcF => k_is); (case pgF => k_is); (case hdF => k_is); (case poF => k_is); (case saF => k_is)
    (case nAF => k_is); (case nMF => k_is); (case nDF => k_is); (case haF => k_is); (case hmF => k_is); (case mkR => k_is)
    (case kcR => k_is); (case pgR => k_is); (case hdR => k_is); (case poR => k_is); (case saR => k_is); (case nAR => k_is)
    (case nMR => k_is); (case nDR => k_is); (case haR => k_is); (case hmR => k_is); (case nWn => k_is); (case nWb => k_is)
    (case nFn => k_is); (case nRp => k_is); (case gtT => k_is); (case rdT => k_is); (case fcT => k_is); (case hn => k_is)
    (case htk => k_is); (case iWW => kit_is); (case iFW => kit_is); (case iRW => kit_is); (case iWF => kit_is); (case iFF => kit_is)
    (case iRF => kit_is); (case iWR => kit_is); (case iFR => kit_is); (case iRR => kit_is); (case iWT => kit_is); (case iFT => kit_is)
    (case iRT => kit_is); (case z0 => k_is); (case z1 => k_is); (case z2 => k_is); (case z3 => k_is); (case z4 => k_is)
    (case z5 => k_is); (case z6 => k_is); (case z7 => k_is); (case z8 => k_is); (case z9 => k_is)
#print axioms PySem.Challenge.cw_macrohouse_k75_named_so_already_holds
