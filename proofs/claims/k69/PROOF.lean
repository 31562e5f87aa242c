import PyProof.Rows.All
import PyProof.FactsAll.NoneType_1
import Wide.All
import OpenK.AllK
import Wide.FinOn
import Lean
import PyProof.EqAt
import PyProof.EqKinds
import PyProof.TupleCall
import PyProof.SetScanFacts
import PyProof.SetKind
import PyProof.DictStraight
import PyProof.DictIter
import PyProof.Seq
import PyProof.CollectWalk
import PyProof.MakeMany
import PyProof.Rows.SetFrom
import PyProof.Rows.SortShell
import PyProof.ListRange
import PyProof.SetRoads
import PyProof.NeKinds
import PyProof.SumAny
import PyProof.Rows.RuleM_int
import PyProof.ZipIter
import PyProof.EnumFor
import PyProof.EnumMake
import PyProof.EnumStmt
import PyProof.MinMaxWalk
import PyProof.Rows.CallKwBuiltin
import PyProof.DictUpdate
import PyProof.Rows.FStr
import PyProof.AttrMissHeap
import KE.KDictOf
import KE.KRevIter
import PyProof.CollectIter
import PyProof.StrBlockH
import PyProof.StrWalks
import PyProof.StrLawsReplace
import PyProof.StrLawsTight
import PyProof.StrLawsChain
import PyProof.StrLawsIn
import PyProof.StrOps2
import PyProof.StrCalls6
import PyProof.ToksMono
import PyProof.Rows.StrNews
import PyProof.StrLawsJoin
import PyProof.WalksMore
import PyProof.AutoListH
import PySem.Challenge.RW_macrohouse_k69_whole_ahead
set_option genInjectivity false
set_option genSizeOf false
noncomputable section
set_option Elab.async false
set_option linter.all false
set_option maxRecDepth 100000
/-! THE HAND LAYER, for ints, bools, texts, own classes, LISTS and tuples (index, slices, in, append, pop ..), calls, loops. Paste it whole ahead of your own text; what your proof does not reach may be deleted. -/
namespace L2
open PySem PySem.Spec PyProof.Rows

theorem hash_none {prog : Program} {w : World} {A : Around} {E : Value → Shared → Prop} {s : Shared} {Q : Int → Shared → Prop} (h : Q 0xFCA86420 { s with toks := s.toks + 1 }) : wpAny (model prog w) A (pyHash .none) Q E s := by
  have hT : s.TypeIs .none "NoneType" := rfl
  unfold pyHash
  have hv : [Value.none].any Value.onHeap = false := rfl
  refine wpAny_bind ?_
  rw [cRoomFor, if_neg (by rw [hv]; exact Bool.false_ne_true)]
  refine wpAny_pure ?_
  refine wpAny_bind (wpAny_specialOf hT PySem.F.slot_NoneType_hash.lookup ?_)
  show wpAny _ _ (if (some (Value.builtin "NoneType.__hash__") == some Value.none) = true then _ else _) Q E s
  rw [if_neg (by rw [beq_builtin_none]; exact Bool.false_ne_true)]
  refine wpAny_bind (wpAny_specialOf hT PySem.F.slot_NoneType_hash.lookup ?_)
  show wpAny _ _ (callSpecialIfBoundUnlessNone? .none "__hash__" _ >>= _) Q E s
  refine wpAny_bind (wpAny_callSpecialIfBoundUnlessNone?_slot hT PySem.F.slot_NoneType_hash (wpAny_call_entry PySem.F.slot_NoneType_hash hT PySem.F.entry_NoneType_hash (show wpAny _ _ (retInt 0xFCA86420) _ _ s from wpAny_ret_mkInt ?_) (PySem.F.args_NoneType_hash_1 _)))
  show wpAny _ _ (if (decide (-(2 : Int) ^ 63 ≤ 0xFCA86420) && decide ((0xFCA86420 : Int) < 2 ^ 63)) = true then _ else _) Q E _
  rw [if_pos (by decide)]
  exact wpAny_pure h
theorem eqb_none {prog : Program} {w : World} {A : Around} {E : Value → Shared → Prop} {s : Shared} {Q : Bool → Shared → Prop} (h : Q true s) : wpAny (model prog w) A (eqBool .none .none) Q E s := by
  exact SeqAt.EqAt.same _ _ _ _ _ h
/-- a key: None, an int or a str -/
abbrev Key := Sum (Option Int) Str
def keyIs : Key → Value → Bool
  | .inl none, v => v == Value.none
  | .inl (some k), v => Value.isInt k v
  | .inr x, v => Value.isStrOf x v
def keyH (w : World) : Key → Int
  | .inl none => 0xFCA86420
  | .inl (some k) => hashInt k
  | .inr x => hashStr w x
theorem keyIs_shape : ∀ {k : Key} {v : Value}, keyIs k v = true → (k = Sum.inl none ∧ v = Value.none) ∨ (∃ i t, k = Sum.inl (some i) ∧ v = Value.int i t) ∨ (∃ x t, k = Sum.inr x ∧ v = Value.str x t)
  | .inl none, v, h => .inl ⟨rfl, eq_of_beq h⟩
  | .inl (some i), v, h => by
    obtain ⟨t, e⟩ := Value.isInt_shape (k := i) (v := v) h
    exact .inr (.inl ⟨i, t, rfl, e⟩)
  | .inr x, v, h => by
    obtain ⟨t, e⟩ := Value.isStrOf_shape (x := x) (v := v) h
    exact .inr (.inr ⟨x, t, rfl, e⟩)
theorem keyIs_int (i : Int) (t : Tok) : keyIs (.inl (some i)) (.int i t) = true := by simp [keyIs, Value.isInt]
theorem keyIs_str (x : Str) (t : Tok) : keyIs (.inr x) (.str x t) = true := by simp [keyIs, Value.isStrOf]
theorem keyIs_none : keyIs (.inl none) .none = true := rfl
theorem key_ne {a b : Key} (h : a ≠ b) : decide (a = b) = false := decide_eq_false h
theorem key_ll (a b : Int) : decide ((Sum.inl (some a) : Key) = Sum.inl (some b)) = (a == b) := by
  by_cases e : a = b
  · subst e; simp
  · rw [key_ne fun q => e (Option.some.inj (Sum.inl.inj q))]
    exact (beq_eq_false_iff_ne.mpr e).symm
theorem key_rr (a b : Str) : decide ((Sum.inr a : Key) = Sum.inr b) = decide (a = b) := by
  by_cases e : a = b
  · subst e; simp
  · rw [key_ne fun q => e (Sum.inr.inj q), decide_eq_false e]
def mixKind (prog : Program) (w : World) : PySem.KeyKind prog w Key where
  is := keyIs
  hash := keyH w
  inj := fun v a b ha hb => by
    rcases keyIs_shape ha with ⟨rfl, rfl⟩ | ⟨i, t, rfl, rfl⟩ | ⟨x, t, rfl, rfl⟩ <;> rcases keyIs_shape hb with ⟨rfl, e⟩ | ⟨j, u, rfl, e⟩ | ⟨y, u, rfl, e⟩
    · rfl
    · exact nomatch e
    · exact nomatch e
    · exact nomatch e
    · injection e with e1 _; rw [e1]
    · exact nomatch e
    · exact nomatch e
    · exact nomatch e
    · injection e with e1 _; rw [e1]
  byValue := fun k v h => by
    rcases keyIs_shape h with ⟨rfl, rfl⟩ | ⟨i, t, rfl, rfl⟩ | ⟨x, t, rfl, rfl⟩ <;> rfl
  pyHash := fun hv h => by
    rcases keyIs_shape hv with ⟨rfl, rfl⟩ | ⟨i, t, rfl, rfl⟩ | ⟨x, t, rfl, rfl⟩
    · exact hash_none h
    · exact wpAny_pyHash_int h
    · exact wpAny_pyHash_str h
  eqBool := fun hu hv h => by
    rcases keyIs_shape hu with ⟨rfl, rfl⟩ | ⟨i, t, rfl, rfl⟩ | ⟨x, t, rfl, rfl⟩ <;> rcases keyIs_shape hv with ⟨rfl, rfl⟩ | ⟨j, u, rfl, rfl⟩ | ⟨y, u, rfl, rfl⟩
    · exact eqb_none h
    · rw [key_ne] at h
      · exact SeqAt.EqAt.none_int j u _ _ _ _ h
      · intro q; cases q
    · rw [key_ne] at h
      · exact SeqAt.EqAt.none_str y u _ _ _ _ h
      · intro q; cases q
    · rw [key_ne] at h
      · exact SeqAt.EqAt.int_none i t _ _ _ _ h
      · intro q; cases q
    · rw [key_ll] at h; exact wpAny_eqBool_int h
    · rw [key_ne] at h
      · exact SeqAt.EqAt.int_str i t y u _ _ _ _ h
      · intro q; cases q
    · rw [key_ne] at h
      · exact SeqAt.EqAt.str_none x t _ _ _ _ h
      · intro q; cases q
    · rw [key_ne] at h
      · exact SeqAt.EqAt.str_int x t j u _ _ _ _ h
      · intro q; cases q
    · rw [key_rr] at h; exact wpAny_eqBool_str h
  «strs» := fun k x t v h => by
    rcases keyIs_shape h with ⟨rfl, e⟩ | ⟨i, u, rfl, e⟩ | ⟨y, u, rfl, e⟩
    · exact nomatch e
    · exact nomatch e
    · injection e with e1 _
      subst e1
      cases v <;> rfl

theorem mixKind_none (prog : Program) (w : World) : (mixKind prog w).is (.inl none) .none = true := keyIs_none
theorem mixKind_int (prog : Program) (w : World) (i : Int) (t : Tok) : (mixKind prog w).is (.inl (some i)) (.int i t) = true := keyIs_int i t
theorem mixKind_str (prog : Program) (w : World) (x : Str) (t : Tok) : (mixKind prog w).is (.inr x) (.str x t) = true := keyIs_str x t
end L2

namespace L2
open PySem PySem.Spec PyProof.Rows

set_option genInjectivity true in
/-- a value, without the heap -/
inductive V where
  | non | bl (b : Bool) | int (i : Int) | str (x : Str) | byt (b : Array UInt8) | flt (b : UInt64) | ref (a : Addr) | ty (n : String)
  deriving DecidableEq

def RelV : V → Value → Prop
  | .non, u => u = Value.none
  | .bl b, u => u = Value.bool b
  | .int i, u => ∃ t, u = Value.int i t
  | .str x, u => ∃ t, u = Value.str x t
  | .byt b, u => ∃ t, u = Value.bytes b t
  | .flt b, u => ∃ t, u = Value.float b t
  | .ref a, u => u = Value.ref a
  | .ty n, u => u = Value.type n

abbrev Vals : List V → List Value → Prop := Paired RelV
theorem Vals.length {xs : List V} {us : List Value} (r : Vals xs us) : xs.length = us.length := Paired.length r
theorem Vals.get : ∀ {xs : List V} {us : List Value} {i : Nat} {x : V}, Vals xs us → xs[i]? = some x → ∃ u, us[i]? = some u ∧ RelV x u
  | _, _, _, _, .nil, e => by simp at e
  | _, _, 0, _, .cons r _, e => by simp at e; subst e; exact ⟨_, rfl, r⟩
  | _, _, i + 1, x, .cons _ t, e => by
    obtain ⟨u, h1, h2⟩ := Vals.get (i := i) (x := x) t (by simpa using e)
    exact ⟨u, by simpa using h1, h2⟩
theorem Vals.set {x : V} {u : Value} (r : RelV x u) : ∀ {xs : List V} {us : List Value} (i : Nat), Vals xs us → Vals (xs.set i x) (us.set i u)
  | _, _, _, .nil => .nil
  | _, _, 0, .cons _ t => .cons r t
  | _, _, i + 1, .cons q t => .cons q (Vals.set r i t)
theorem Vals.append {xs ys : List V} {us ws : List Value} (h : Vals xs us) (g : Vals ys ws) : Vals (xs ++ ys) (us ++ ws) := by
  induction h with
  | nil => exact g
  | cons r t ih => exact .cons r ih
theorem Vals.take : ∀ {xs : List V} {us : List Value} (n : Nat), Vals xs us → Vals (xs.take n) (us.take n)
  | _, _, 0, _ => .nil
  | _, _, _ + 1, .nil => .nil
  | _, _, n + 1, .cons r t => .cons r (Vals.take n t)
theorem Vals.drop : ∀ {xs : List V} {us : List Value} (n : Nat), Vals xs us → Vals (xs.drop n) (us.drop n)
  | _, _, 0, r => r
  | _, _, _ + 1, .nil => .nil
  | _, _, n + 1, .cons _ t => Vals.drop n t
theorem Vals.none_of : ∀ {xs : List V} {us : List Value} {i : Nat}, Vals xs us → xs[i]? = none → us[i]? = none := fun {xs us i} r e => by
  have h1 := r.length
  have h2 : xs.length ≤ i := List.getElem?_eq_none_iff.mp e
  exact List.getElem?_eq_none_iff.mpr (by lia)

def RelO : Option V → Option Value → Prop
  | some v, some u => RelV v u
  | none, none => True
  | _, _ => False
def KV {κ : Type} : List (κ × V) → List (κ × Value) → Prop := Paired fun (p : κ × V) (q : κ × Value) => p.1 = q.1 ∧ RelV p.2 q.2

/-- a key of a dict (00_mix): an int or a text -/
def kV : Key → V
  | .inl none => .non
  | .inl (some i) => .int i
  | .inr x => .str x

/-- what stands at a tracked address -/
inductive HO where
  /-- a list -/
  | lst (xs : List V)
  /-- a tuple (never changes) -/
  | tup (xs : List V)
  /-- a dict whose keys are ints and texts; one whose keys are tuples of ints and texts (the empty one is both) -/
  | dK (kvs : List (Key × V)) | dT (kvs : List (List Key × V))
  /-- a set of ints: its members, its size -/
  | set (S : Int → Bool) (n : Nat)
  /-- an instance of the class at C, its dict at dx, its attributes -/
  | ins (C dx : Addr) (fs : List (Str × V))
  /-- the dict of the instance at x -/
  | own (x : Addr)
  /-- the dict of an exception -/
  | xd (fs : List (Str × V))
  /-- a bound method, f of x -/
  | met (f x : Addr)
  /-- a range object lo, lo + 1, .. below hi -/
  | rng (lo hi : Int)
  /-- a thing that is known to the object (the script; a dict while a loop walks it): read, never written while it is so -/
  | frz (o : Obj) (u : HO)
  /-- a code object's table -/
  | tbl (ps : Array Value)
  /-- any other thing, by what is true of its one object (a def of one's own: SetO a S n := HO.ext fun h => ..) -/
  | ext (φ : Heap → Prop)

abbrev Hp := Addr → Option HO
def upd (H : Hp) (a : Addr) (o : HO) : Hp := fun b => if b = a then some o else H b
theorem upd_same {H : Hp} {a : Addr} {o : HO} : upd H a o a = some o := by unfold upd; rw [if_pos rfl]
theorem upd_ne {H : Hp} {a b : Addr} {o : HO} (h : b ≠ a) : upd H a o b = H b := by unfold upd; rw [if_neg h]
theorem upd_upd {H : Hp} {a : Addr} {o u : HO} : upd (upd H a o) a u = upd H a u := by
  funext b; unfold upd; split <;> rfl
/-- two objects of different content stand apart -/
theorem ne_of {H : Hp} {a b : Addr} {o u : HO} (h : H a = some o) (h' : H b = some u) (d : o ≠ u) : a ≠ b := by
  intro e; subst e; rw [h] at h'; exact d (Option.some.inj h')
theorem ne_of_none {H : Hp} {a b : Addr} {o : HO} (h : H a = some o) (h' : H b = none) : a ≠ b := by
  intro e; subst e; rw [h] at h'; cases h'

/-- a tuple of no dict of its own -/
def TupN (h : Heap) (a : Addr) (items : Array Value) : Prop := ∃ o, h.get? a = some o ∧ o.cls = .type "tuple" ∧ (∃ n, o.data = .seq items n) ∧ o.dict = none
theorem TupN.tup {h : Heap} {a : Addr} {items : Array Value} (x : TupN h a items) : IsTup h a items := let ⟨o, e, c, d, _⟩ := x; ⟨o, e, c, d⟩
theorem TupN.new (h : Heap) (items : Array Value) : TupN (h.push { cls := .type "tuple", data := .seq items }) h.objs.size items := ⟨_, Heap.get?_push_size _ rfl, rfl, ⟨_, rfl⟩, rfl⟩
section
variable (P : Program) (w : World)
def ObjOk (H : Hp) (h : Heap) (a : Addr) : HO → Prop
  | .lst xs => xs.length ≤ sizeLine ∧ ∃ (its : List Value) (n : Nat), Vals xs its ∧ h.get? a = some { cls := .type "list", data := .seq its.toArray n }
  | .tup xs => xs.length ≤ sizeLine ∧ ∃ its : List Value, Vals xs its ∧ TupN h a its.toArray
  | .dK kvs => kvs.length ≤ sizeLine ∧ (a == sysModules) = false ∧ ∃ vs, KV kvs vs ∧ h.DictOf (mixKind P w) a vs
  | .dT kvs => kvs.length ≤ sizeLine ∧ (a == sysModules) = false ∧ ∃ xs : List (List Key × Addr × Value),
      Paired (fun (p : List Key × V) (q : List Key × Addr × Value) => p.1 = q.1 ∧ H q.2.1 = some (.tup (p.1.map kV)) ∧ RelV p.2 q.2.2) kvs xs ∧
      ∃ o es ep, h.get? a = some o ∧ o.ExactDict ∧ o.data = .dict es ep ∧ es.toList = xs.map (entryOfKey (tupleKind (mixKind P w))) ∧ (xs.map (·.1)).Nodup
  | .set S n => h.SetOf (intKind P w) a S n
  | .ins C dx fs => H dx = some (.own a) ∧ fs.length ≤ 1000 ∧ dx ≠ a ∧ h.get? a = some (PySem.W.instObj C dx) ∧
      ∃ mA, h.Ns1 dx mA ∧ (∀ f, RelO (fs.lookup f) (mA f)) ∧ PySem.Within mA (fs.map (·.1))
  | .own _ => ∃ o, h.get? a = some o
  | .xd fs => ∃ mA, h.Ns1 a mA ∧ ∀ f, RelO (fs.lookup f) (mA f)
  | .rng lo hi => ∃ t u v, h.get? a = some { cls := .type "range", data := .fields #[.int lo t, .int hi u, .int 1 v] }
  | .frz o u => h.get? a = some o ∧ ObjOk H h a u
  | .tbl ps => h.get? a = some { cls := .none, data := .fields ps }
  | .met f x => h.get? a = some (PySem.W.methodObj (.ref f) (.ref x))
  | .ext φ => φ h ∧ (∃ o, h.get? a = some o) ∧ ∀ h1 h2 : Heap, φ h1 → (∀ o, h1.get? a = some o → h2.get? a = some o) → φ h2
/-- the abstract heap is held -/
def HOk (H : Hp) (h : Heap) : Prop := ∀ a o, H a = some o → ObjOk P w H h a o
end

section
variable {P : Program} {w : World} {H H' : Hp} {h h' : Heap} {a : Addr} {o : HO}
theorem ObjOk.lt (x : ObjOk P w H h a o) : a < h.objs.size := by
  cases o with
  | lst xs => obtain ⟨_, _, _, _, e⟩ := x; exact Heap.lt_size e
  | tup xs => obtain ⟨_, _, _, p⟩ := x; exact p.tup.lt
  | dK kvs => obtain ⟨_, _, _, _, o, _, _, e, _⟩ := x; exact Heap.lt_size e
  | dT kvs => obtain ⟨_, _, _, _, o, _, _, e, _⟩ := x; exact Heap.lt_size e
  | set S n => obtain ⟨o, _, _, _, e, _⟩ := x; exact Heap.lt_size e
  | ins C dx fs => obtain ⟨_, _, _, e, _⟩ := x; exact Heap.lt_size e
  | own y => obtain ⟨_, e⟩ := x; exact Heap.lt_size e
  | xd fs => obtain ⟨_, ⟨_, _, _, e, _⟩, _⟩ := x; exact Heap.lt_size e
  | rng lo hi => obtain ⟨_, _, _, e⟩ := x; exact Heap.lt_size e
  | frz ob u => obtain ⟨e, _⟩ := x; exact Heap.lt_size e
  | tbl ps => exact Heap.lt_size (show h.get? a = some _ from x)
  | met f y => exact Heap.lt_size (show h.get? a = some _ from x)
  | ext φ => obtain ⟨_, ⟨_, e⟩, _⟩ := x; exact Heap.lt_size e
theorem Paired.mapP {α β : Type} {F G : α → β → Prop} {l₁ : List α} {l₂ : List β} (h : Paired F l₁ l₂) (f : ∀ a b, F a b → G a b) : Paired G l₁ l₂ := by
  induction h with
  | nil => exact .nil
  | cons r t ih => exact .cons (f _ _ r) ih
/-- what an object's description leans on: its own object, its own dict, the tuples -/
theorem ObjOk.stay (x : ObjOk P w H h a o) (k : ∀ b u, (b = a ∨ H b = some (.own a)) → h.get? b = some u → h'.get? b = some u)
    (ho : ∀ b, H b = some (.own a) → H' b = some (.own a)) (ht : ∀ b xs, H b = some (.tup xs) → H' b = some (.tup xs)) : ObjOk P w H' h' a o := by
  induction o with
  | lst xs => obtain ⟨z, its, n, r, e⟩ := x; exact ⟨z, its, n, r, k _ _ (.inl rfl) e⟩
  | tup xs => obtain ⟨z, its, r, ob, e, c⟩ := x; exact ⟨z, its, r, ob, k _ _ (.inl rfl) e, c⟩
  | dK kvs => obtain ⟨z, y, vs, r, ob, es, ep, e, c⟩ := x; exact ⟨z, y, vs, r, ob, es, ep, k _ _ (.inl rfl) e, c⟩
  | dT kvs =>
    obtain ⟨z, y, xs, r, ob, es, ep, e, c⟩ := x
    exact ⟨z, y, xs, Paired.mapP r fun p q z => ⟨z.1, ht _ _ z.2.1, z.2.2⟩, ob, es, ep, k _ _ (.inl rfl) e, c⟩
  | set S n => obtain ⟨ob, es, ep, t, e, c⟩ := x; exact ⟨ob, es, ep, t, k _ _ (.inl rfl) e, c⟩
  | ins C dx fs =>
    obtain ⟨d, z, ne, e, mA, ⟨od, es, ep, e2, c⟩, r⟩ := x
    exact ⟨ho _ d, z, ne, k _ _ (.inl rfl) e, mA, ⟨od, es, ep, k _ _ (.inr d) e2, c⟩, r⟩
  | own y => obtain ⟨ob, e⟩ := x; exact ⟨ob, k _ _ (.inl rfl) e⟩
  | xd fs => obtain ⟨mA, ⟨od, es, ep, e, c⟩, r⟩ := x; exact ⟨mA, ⟨od, es, ep, k _ _ (.inl rfl) e, c⟩, r⟩
  | rng lo hi => obtain ⟨t, u, v, e⟩ := x; exact ⟨t, u, v, k _ _ (.inl rfl) e⟩
  | frz ob u ih => obtain ⟨e, q⟩ := x; exact ⟨k _ _ (.inl rfl) e, ih q⟩
  | tbl ps =>
    have e : h.get? a = some { cls := .none, data := .fields ps } := x
    show h'.get? a = some { cls := .none, data := .fields ps }
    exact k a _ (.inl rfl) e
  | met f y =>
    have e : h.get? a = some (PySem.W.methodObj (.ref f) (.ref y)) := x
    show h'.get? a = some (PySem.W.methodObj (.ref f) (.ref y))
    exact k a _ (.inl rfl) e
  | ext φ => obtain ⟨p, ⟨o, e⟩, st⟩ := x; exact ⟨st _ _ p fun o q => k _ _ (.inl rfl) q, ⟨o, k _ _ (.inl rfl) e⟩, st⟩
theorem HOk.lt (x : HOk P w H h) (e : H a = some o) : a < h.objs.size := (x a o e).lt
theorem HOk.fresh (x : HOk P w H h) (e : h.objs.size ≤ a) : H a = none := by
  cases q : H a with
  | none => rfl
  | some u => exact absurd (Nat.lt_of_lt_of_le (x.lt q) e) (Nat.lt_irrefl _)
/-- every object of the heap is kept -/
theorem HOk.kept (x : HOk P w H h) (k : ∀ b u, h.get? b = some u → h'.get? b = some u) : HOk P w H h' := fun a o e =>
  (x a o e).stay (fun b u _ q => k b u q) (fun _ q => q) fun _ _ q => q
/-- a new object is laid and tracked -/
theorem HOk.laid (x : HOk P w H h) (k : ∀ b u, h.get? b = some u → h'.get? b = some u) (hp : h.objs.size ≤ a) (new : ObjOk P w (upd H a o) h' a o) : HOk P w (upd H a o) h' := fun b u e => by
  have hn := x.fresh hp
  by_cases hb : b = a
  · subst hb; rw [upd_same] at e; cases e; exact new
  · rw [upd_ne hb] at e
    exact (x b u e).stay (fun c v _ q => k c v q) (fun c q => by rw [upd_ne (ne_of_none q hn)]; exact q) fun c xs q => by rw [upd_ne (ne_of_none q hn)]; exact q
end

/-- what may be read as u: it is u, or a known u -/
def Rd (H : Hp) (a : Addr) (u : HO) : Prop := H a = some u ∨ ∃ o, H a = some (.frz o u)
theorem Rd.ok {P : Program} {w : World} {H : Hp} {h : Heap} {a : Addr} {u : HO} (r : Rd H a u) (x : HOk P w H h) : ObjOk P w H h a u := by
  rcases r with r | ⟨o, r⟩
  · exact x a u r
  · obtain ⟨_, q⟩ := x a _ r
    exact q
/-- what may be written -/
def Mut : Option HO → Prop
  | some (.lst _) => True
  | some (.dK _) => True
  | some (.dT _) => True
  | some (.set _ _) => True
  | some (.ins _ _ _) => True
  | some (.ext _) => True
  | _ => False
section
variable {P : Program} {w : World} {H : Hp} {h h' : Heap} {x e : Addr} {o' : HO}
/-- the object at e is changed: x itself, or the dict of the instance x -/
theorem HOk.write (ok : HOk P w H h) (mu : Mut (H x)) (he : e = x ∨ H e = some (.own x)) (k : ∀ b u, b ≠ e → h.get? b = some u → h'.get? b = some u) (heo : ∃ u, h'.get? e = some u)
    (new : ObjOk P w (upd H x o') h' x o') : HOk P w (upd H x o') h' := fun b u q => by
  have nown : ∀ c y, H c = some (.own y) → c ≠ x := fun c y r z => by subst z; rw [r] at mu; exact mu
  have ntup : ∀ c xs, H c = some (.tup xs) → c ≠ x := fun c xs r z => by subst z; rw [r] at mu; exact mu
  by_cases hb : b = x
  · subst hb; rw [upd_same] at q; cases q; exact new
  · rw [upd_ne hb] at q
    by_cases hbe : b = e
    · have q' : H b = some (.own x) := by
        rcases he with z | z
        · exact absurd (hbe.trans z) hb
        · rw [hbe]; exact z
      rw [q] at q'; cases q'
      obtain ⟨v, hv⟩ := heo
      exact ⟨v, by rw [hbe]; exact hv⟩
    · refine (ok b u q).stay (fun c v hc r => k c v ?_ r) (fun c r => by rw [upd_ne (nown c b r)]; exact r) fun c xs r => by rw [upd_ne (ntup c xs r)]; exact r
      rcases hc with rfl | hc
      · exact hbe
      · rintro rfl
        rcases he with z | z
        · exact nown c b hc z
        · rw [hc] at z; cases z; exact hb rfl
end

/-! ### kept unless tracked; of the frames at fs (the callers') the slots may change (an exception that passes writes there); of the records at ex (iterators) nothing is said -/
structure Un (fs ex : List Addr) (H H' : Hp) (h h' : Heap) : Prop where
  keep : ∀ b o, h.get? b = some o → H b = none → b ∉ fs → b ∉ ex → h'.get? b = some o
  slot : ∀ b o, h.get? b = some o → H b = none → b ∈ fs → b ∉ ex → ∃ sl, h'.get? b = some { o with slots := sl }
  free : ∀ b o, h.get? b = some o → H b = none → b ∉ ex → H' b = none
  there : ∀ b o, h.get? b = some o → b ∉ ex → ∃ o', h'.get? b = some o'
  tups : ∀ b xs, H b = some (.tup xs) → H' b = some (.tup xs)
  frzs : ∀ b o u, H b = some (.frz o u) → H' b = some (.frz o u)
  tbls : ∀ b ps, H b = some (.tbl ps) → ∃ more, H' b = some (.tbl (ps ++ more))
section
variable {fs fs' ex ex' : List Addr} {H H1 H2 : Hp} {h h1 h2 h' : Heap} {a x e : Addr} {o : HO}
theorem Un.any (u : Un fs ex H H1 h h1) {b : Addr} {ob : Obj} (q : h.get? b = some ob) (n : H b = none) (hx : b ∉ ex) : ∃ sl, h1.get? b = some { ob with slots := sl } := by
  by_cases hb : b ∈ fs
  · exact u.slot b ob q n hb hx
  · exact ⟨ob.slots, u.keep b ob q n hb hx⟩
theorem Un.kept (k : ∀ b u, h.get? b = some u → h'.get? b = some u) : Un fs ex H H h h' :=
  ⟨fun b ob q _ _ _ => k b ob q, fun b ob q _ _ _ => ⟨ob.slots, k b ob q⟩, fun _ _ _ n _ => n, fun b ob q _ => ⟨ob, k b ob q⟩, fun _ _ q => q, fun _ _ _ q => q, fun _ ps q => ⟨#[], by rw [q]; simp⟩⟩
theorem Un.refl : Un fs ex H H h h := Un.kept fun _ _ q => q
theorem Un.laid (k : ∀ b u, h.get? b = some u → h'.get? b = some u) (hp : h.objs.size ≤ a) (hn : H a = none) : Un fs ex H (upd H a o) h h' where
  keep := fun b u q _ _ _ => k b u q
  slot := fun b u q _ _ _ => ⟨u.slots, k b u q⟩
  free := fun b u q n _ => by rw [upd_ne (Nat.ne_of_lt (Nat.lt_of_lt_of_le (Heap.lt_size q) hp))]; exact n
  there := fun b u q _ => ⟨u, k b u q⟩
  tups := fun b xs q => by rw [upd_ne (ne_of_none q hn)]; exact q
  frzs := fun b u xs q => by rw [upd_ne (ne_of_none q hn)]; exact q
  tbls := fun b ps q => ⟨#[], by rw [upd_ne (ne_of_none q hn), q]; simp⟩
theorem Un.write (mu : Mut (H x)) (he : e = x ∨ H e = some (.own x)) (k : ∀ b u, b ≠ e → h.get? b = some u → h'.get? b = some u) (heo : ∃ u, h'.get? e = some u) : Un fs ex H (upd H x o) h h' := by
  have hx : ∀ b, H b = none → b ≠ x := fun b n z => by subst z; rw [n] at mu; exact mu
  have hb : ∀ b, H b = none → b ≠ e := fun b n z => by
    subst z
    rcases he with r | r
    · exact hx b n r
    · rw [n] at r; cases r
  have hm : ∀ b u, H b = some u → ¬ Mut (some u) → b ≠ x := fun b u q nm z => by subst z; rw [q] at mu; exact nm mu
  refine ⟨fun b u q n _ _ => k b u (hb b n) q, fun b u q n _ _ => ⟨u.slots, k b u (hb b n) q⟩, fun b u q n _ => by rw [upd_ne (hx b n)]; exact n, fun b u q _ => ?_,
    fun b xs q => by rw [upd_ne (hm b _ q fun z => z)]; exact q, fun b u xs q => by rw [upd_ne (hm b _ q fun z => z)]; exact q, fun b ps q => ⟨#[], by rw [upd_ne (hm b _ q fun z => z), q]; simp⟩⟩
  by_cases hbe : b = e
  · subst hbe; exact heo
  · exact ⟨u, k b u hbe q⟩
end

/-! ### the heap without what is tracked -/
def trk (h : Heap) (H : Hp) : List Addr := (List.range h.objs.size).filter fun a => (H a).isSome
def hidT (h : Heap) (H : Hp) : Heap := PySem.W.hideAll h (trk h H)
theorem hidT_size (h : Heap) (H : Hp) : (hidT h H).objs.size = h.objs.size := PySem.W.hideAll_size _ _
theorem hidT_get {h : Heap} {H : Hp} {b : Addr} {o : Obj} (e : h.get? b = some o) (n : H b = none) : (hidT h H).get? b = some o :=
  PySem.W.hideAll_get _ e fun hm => by
    have q : (H b).isSome = true := (List.mem_filter.mp hm).2
    rw [n] at q; simp at q
theorem of_hidT {h : Heap} {H : Hp} {b : Addr} {o : Obj} (e : (hidT h H).get? b = some o) : h.get? b = some o ∧ H b = none := by
  have e' : h.get? b = some o := PySem.W.of_hideAll (trk h H) e
  refine ⟨e', ?_⟩
  cases q : H b with
  | none => rfl
  | some x =>
    have hm : b ∈ trk h H := List.mem_filter.mpr ⟨List.mem_range.mpr (Heap.lt_size e'), by simp [q]⟩
    have z : (hidT h H).get? b = none := PySem.W.hideAll_none (trk h H) hm
    rw [z] at e; cases e

/-! ### OpenK's ledger, filled with every new object but one -/
def allNews (g h : Heap) (L : Addr) : List (Addr × Obj) := (List.range h.objs.size).filterMap fun a => if a = L ∨ (g.get? a).isSome = true then none else (h.get? a).map fun o => (a, o)
def rest (g h : Heap) (L d : Addr) : List (Addr × Obj) := (allNews g h L).filter fun p => decide (p.1 ≠ d)
end L2

namespace L2
open PySem PySem.Spec PyProof.Rows

/-- the module's facts, over the base: the heap at the law's entry without what is tracked there -/
structure Mod (K : PySem.W.Frag) (mg : Str → Option Value) (base : Heap) : Prop where
  kin : K.In base
  glob : base.Ns mainGlobals mg
  blt : ∃ mb, base.Ns builtinsNs mb ∧ ∀ x : Str, x ≠ "__name__" → mb x = bootBuiltins x
  nolimit : base.NoLimit

/-- the context: a def's body (or a comprehension's block) running. base: fixed through the whole law; s₀, H₀: the entry; outer: the frames whose slots others may change (a def's callers); stack: all frames that run;
   ex: iterators that were made ahead of the entry and are walked here (a comprehension's); fn: the names whose cells were made at the entry (a def: all; a comprehension's block: its own); calm: not within an except suite; pn: pins that every state bears; xe: what is wanted of an exception that leaves the code -/
structure Cx where
  prog : Program
  w : World
  K : PySem.W.Frag
  mg : Str → Option Value
  base : Heap
  A : Around
  N : List Str
  s₀ : Shared
  H₀ : Hp
  env : Env
  outer : List Env
  stack : List Env
  ex : List Addr
  fn : Str → Bool
  calm : Bool
  pn : List (Addr × Obj)
  xe : Value → Shared → Prop
/-- the callers' frames -/
def frs (l : List Env) : List Addr := l.filterMap (·.frame)
abbrev Cx.fs (X : Cx) : List Addr := frs X.outer

def Vis (sc : Scope) (x : Str) : Prop := sc.names.lookup x = some .local ∨ sc.names.lookup x = some .cell ∨ sc.names.lookup x = some .free
def Loc (sc : Scope) (x : Str) : Prop := sc.names.lookup x = some .local ∨ sc.names.lookup x = some .cell
def Look (env : Env) (h : Heap) (m : Str → Option Value) (x : Str) (u : Value) : Prop :=
  (env.kindOf x = some .local ∧ m x = some u) ∨ ((env.kindOf x = some .cell ∨ env.kindOf x = some .free) ∧ ∃ c, env.cells.lookup x = some c ∧ h.IsCell c (some u))

structure Cx.Ok (X : Cx) : Prop where
  mod : Mod X.K X.mg X.base
  kind : X.env.scope.kind = .function
  glob : X.env.globals = mainGlobals
  blt : X.env.builtins = builtinsNs
  above : X.s₀.heap.objs.size ≤ X.env.locals
  inj : ∀ x y c, X.env.cells.lookup x = some c → X.env.cells.lookup y = some c → x = y
  has : ∀ x, (X.env.kindOf x = some .cell ∨ X.env.kindOf x = some .free) → ∃ c, X.env.cells.lookup x = some c
  cab : ∀ x c, X.fn x = true → X.env.cells.lookup x = some c → X.s₀.heap.objs.size ≤ c
  hd : X.calm = true → X.A.handled = none
  frames : X.A.frames = some X.stack
  stk : X.stack = X.outer ∨ (X.stack = X.env :: X.outer ∧ X.env.frame = some X.env.locals)
  exf : ∀ b ∈ X.ex, b ≠ X.env.locals ∧ ∀ x c, X.env.cells.lookup x = some c → c ≠ b
  bs : ∀ b o, X.base.get? b = some o → X.s₀.heap.get? b = some o ∧ X.H₀ b = none
  bsz : X.base.objs.size ≤ X.s₀.heap.objs.size
  noex : ∀ b o, X.base.get? b = some o → b ∉ X.ex
  exfs : ∀ b ∈ X.ex, b ∉ X.fs
  funs : X.s₀.heap.FunFrames X.base X.outer
  frf : ∀ b ∈ X.fs, X.H₀ b = none

structure Inv (X : Cx) (pins : List (Addr × Obj)) (σ : List (Option V)) (H : Hp) (s : Shared) : Prop where
  ok : X.Ok
  os : s.os = X.s₀.os
  bare : AllBare s.gens
  base : Un X.fs X.ex X.H₀ H X.s₀.heap s.heap
  loc : ∃ m, s.heap.Ns X.env.locals m ∧ ∀ (i : Nat) (x : Str) (v : V), X.N[i]? = some x → σ[i]? = some (some v) → Vis X.env.scope x → ∃ u, RelV v u ∧ Look X.env s.heap m x u
  cell : ∀ x c, X.env.cells.lookup x = some c → ∃ v, s.heap.IsCell c v
  free : H X.env.locals = none
  freeC : ∀ x c, X.env.cells.lookup x = some c → H c = none
  pin : ∀ p ∈ X.pn ++ pins, s.heap.get? p.1 = some p.2 ∧ H p.1 = none ∧ p.1 ≠ X.env.locals ∧ p.1 ∉ X.fs ∧ ∀ v, p.2.data ≠ .cell v
  hok : HOk X.prog X.w H s.heap
  len : σ.length = X.N.length

section
variable {X : Cx} {pins : List (Addr × Obj)} {σ : List (Option V)} {H H' : Hp} {s : Shared} {h' : Heap}

theorem Cx.Ok.nofr (ok : X.Ok) {b : Addr} {o : Obj} (e : X.base.get? b = some o) : b ∉ X.fs := fun hb => by
  have := (ok.funs.mem hb).1
  rw [e] at this; cases this
theorem Inv.bs (I : Inv X pins σ H s) : ∀ b o, X.base.get? b = some o → s.heap.get? b = some o ∧ H b = none := fun b o e =>
  ⟨I.base.keep b o (I.ok.bs b o e).1 (I.ok.bs b o e).2 (I.ok.nofr e) (I.ok.noex b o e), I.base.free b o (I.ok.bs b o e).1 (I.ok.bs b o e).2 (I.ok.noex b o e)⟩
theorem Inv.bk (I : Inv X pins σ H s) : ∀ b o, X.base.get? b = some o → s.heap.get? b = some o := fun b o e => (I.bs b o e).1
theorem Inv.mod (I : Inv X pins σ H s) : Mod X.K X.mg X.base := I.ok.mod
theorem Inv.kIn (I : Inv X pins σ H s) : X.K.In s.heap := I.ok.mod.kin.keeps I.bk
theorem Inv.lt (I : Inv X pins σ H s) : X.env.locals < s.heap.objs.size := let ⟨_, hn, _⟩ := I.loc; hn.lt
theorem Inv.sz (I : Inv X pins σ H s) : X.s₀.heap.objs.size ≤ s.heap.objs.size := Nat.le_trans I.ok.above (Nat.le_of_lt I.lt)
theorem Inv.nofs (I : Inv X pins σ H s) {a : Addr} (h : s.heap.objs.size ≤ a) : a ∉ X.fs := fun hb => by
  obtain ⟨_, o, ho, _⟩ := I.ok.funs.mem hb
  exact absurd (Nat.lt_of_lt_of_le (Heap.lt_size ho) (Nat.le_trans I.sz h)) (Nat.lt_irrefl _)
theorem Inv.cne (I : Inv X pins σ H s) : ∀ x c, X.env.cells.lookup x = some c → c ≠ X.env.locals := fun x c e z => by
  obtain ⟨v, o, ho, hd⟩ := I.cell x c e
  obtain ⟨m, ⟨o', es, ep, ho', hd', _⟩, _⟩ := I.loc
  rw [z, ho'] at ho; cases ho; rw [hd'] at hd; cases hd
theorem Inv.funs (I : Inv X pins σ H s) : s.heap.FunFrames X.base X.outer := by
  have all : ∀ (l : List Env), (∀ b ∈ frs l, b ∈ X.fs) → X.s₀.heap.FunFrames X.base l → s.heap.FunFrames X.base l := by
    intro l
    induction l with
    | nil => intro _ _; trivial
    | cons env r ih =>
      intro hs hl
      obtain ⟨hk, ⟨L, o, hf, hn, ho, hd⟩, hr⟩ := hl
      have hL : L ∈ X.fs := hs L (by unfold frs; rw [List.filterMap_cons, hf]; exact List.mem_cons_self)
      obtain ⟨sl, e⟩ := I.base.slot L o ho (I.ok.frf L hL) hL fun z => I.ok.exfs L z hL
      exact ⟨hk, ⟨L, _, hf, hn, e, hd⟩, ih (fun b hb => hs b (by unfold frs; rw [List.filterMap_cons, hf]; exact List.mem_cons_of_mem _ hb)) hr⟩
  exact all X.outer (fun _ hb => hb) I.ok.funs

/-- the frames that run, for a call -/
theorem Inv.stack (I : Inv X pins σ H s) : s.heap.FunFrames X.base X.stack := by
  rcases I.ok.stk with e | ⟨e, hf⟩
  · rw [e]; exact I.funs
  · rw [e]
    obtain ⟨m, hn, _⟩ := I.loc
    refine .cons (by rw [I.ok.kind]; decide) hf hn ?_ I.funs
    exact Heap.get?_none_of_le (Nat.le_trans I.ok.bsz I.ok.above)
theorem Inv.stkSub (I : Inv X pins σ H s) : ∀ b ∈ frs X.stack, b ∈ X.env.locals :: X.fs := fun b hb => by
  rcases I.ok.stk with e | ⟨e, hf⟩
  · rw [e] at hb; exact List.mem_cons_of_mem _ hb
  · rw [e] at hb
    unfold frs at hb
    rw [List.filterMap_cons, hf] at hb
    exact hb
theorem Inv.stkFree (I : Inv X pins σ H s) : ∀ b ∈ frs X.stack, H b = none := fun b hb => by
  rcases List.mem_cons.mp (I.stkSub b hb) with e | hb
  · rw [e]; exact I.free
  · obtain ⟨_, o, ho, _⟩ := I.ok.funs.mem hb
    exact I.base.free b o ho (I.ok.frf b hb) fun z => I.ok.exfs b z hb

/-- THE STEP: the untracked objects but the frame and the records at ch are kept (the callers' frames up to slots), the frame's map is kept, the new abstract heap is held -/
theorem Inv.step {g' : Array GenState} {t' : Nat} {d' : Drawn} {ch : List Addr} (I : Inv X pins σ H s)
    (hch : ∀ b ∈ ch, (b ∈ X.ex ∨ X.s₀.heap.objs.size ≤ b) ∧ b ≠ X.env.locals ∧ (∀ x c, X.env.cells.lookup x = some c → c ≠ b) ∧ ∀ p ∈ X.pn ++ pins, p.1 ≠ b)
    (keep : ∀ b o, b ≠ X.env.locals → b ∉ X.fs → b ∉ ch → s.heap.get? b = some o → H b = none → h'.get? b = some o)
    (slot : ∀ b o, b ≠ X.env.locals → b ∈ X.fs → b ∉ ch → s.heap.get? b = some o → H b = none → ∃ sl, h'.get? b = some { o with slots := sl }) (free : ∀ b o, b ∉ ch → s.heap.get? b = some o → H b = none → H' b = none)
    (there : ∀ b o, b ∉ ch → s.heap.get? b = some o → ∃ o', h'.get? b = some o')
    (tups : ∀ b xs, H b = some (.tup xs) → H' b = some (.tup xs)) (frzs : ∀ b o u, H b = some (.frz o u) → H' b = some (.frz o u)) (tbls : ∀ b ps, H b = some (.tbl ps) → ∃ more, H' b = some (.tbl (ps ++ more)))
    (ns : ∀ m, s.heap.Ns X.env.locals m → h'.Ns X.env.locals m) (hok : HOk X.prog X.w H' h') (hg : AllBare g') :
    Inv X pins σ H' { s with heap := h', gens := g', drawn := d', toks := t' } := by
  have neL : ∀ b o, X.s₀.heap.get? b = some o → b ≠ X.env.locals := fun b o e => Nat.ne_of_lt (Nat.lt_of_lt_of_le (Heap.lt_size e) I.ok.above)
  have neC : ∀ b o, X.s₀.heap.get? b = some o → b ∉ X.ex → b ∉ ch := fun b o e hx hb => by
    rcases (hch b hb).1 with z | z
    · exact hx z
    · exact absurd (Nat.lt_of_lt_of_le (Heap.lt_size e) z) (Nat.lt_irrefl _)
  have cellK : ∀ x c, X.env.cells.lookup x = some c → ∀ v, s.heap.IsCell c v → h'.IsCell c v := fun x c e v ⟨o, ho, hd⟩ => by
    have nch : c ∉ ch := fun z => (hch c z).2.2.1 x c e rfl
    by_cases hc : c ∈ X.fs
    · obtain ⟨sl, q⟩ := slot c o (I.cne x c e) hc nch ho (I.freeC x c e)
      exact ⟨_, q, hd⟩
    · exact ⟨o, keep c o (I.cne x c e) hc nch ho (I.freeC x c e), hd⟩
  refine ⟨I.ok, I.os, hg, ⟨fun b o e n hb hx => ?_, fun b o e n hb hx => ?_, fun b o e n hx => ?_, fun b o e hx => ?_, fun b xs e => tups b xs (I.base.tups b xs e), fun b o xs e => frzs b o xs (I.base.frzs b o xs e), fun b ps e => ?_⟩, ?_, fun x c e => ?_, ?_, fun x c e => ?_, fun p hp => ?_, hok, I.len⟩
  · exact keep b o (neL b o e) hb (neC b o e hx) (I.base.keep b o e n hb hx) (I.base.free b o e n hx)
  · obtain ⟨sl, e1⟩ := I.base.slot b o e n hb hx
    obtain ⟨sl', e2⟩ := slot b _ (neL b o e) hb (neC b o e hx) e1 (I.base.free b o e n hx)
    exact ⟨sl', e2⟩
  · obtain ⟨o', e1⟩ := I.base.there b o e hx
    exact free b o' (neC b o e hx) e1 (I.base.free b o e n hx)
  · obtain ⟨o', e1⟩ := I.base.there b o e hx
    exact there b o' (neC b o e hx) e1
  · obtain ⟨m1, e1⟩ := I.base.tbls b ps e
    obtain ⟨m2, e2⟩ := tbls b _ e1
    exact ⟨m1 ++ m2, by rw [e2, Array.append_assoc]⟩
  · obtain ⟨m, hn, hl⟩ := I.loc
    refine ⟨m, ns m hn, fun i x v e1 e2 e3 => ?_⟩
    obtain ⟨u, r, l⟩ := hl i x v e1 e2 e3
    refine ⟨u, r, ?_⟩
    rcases l with l | ⟨k, c, e, z⟩
    · exact .inl l
    · exact .inr ⟨k, c, e, cellK x c e _ z⟩
  · obtain ⟨v, z⟩ := I.cell x c e
    exact ⟨v, cellK x c e v z⟩
  · obtain ⟨m, ⟨o, _, _, ho, _⟩, _⟩ := I.loc
    exact free _ o (fun z => (hch _ z).2.1 rfl) ho I.free
  · obtain ⟨v, o, ho, hd⟩ := I.cell x c e
    exact free c o (fun z => (hch c z).2.2.1 x c e rfl) ho (I.freeC x c e)
  · obtain ⟨e, n, ne, nf, d⟩ := I.pin p hp
    have nch : p.1 ∉ ch := fun z => (hch p.1 z).2.2.2 p hp rfl
    exact ⟨keep p.1 p.2 ne nf nch e n, free p.1 p.2 nch e n, ne, nf, d⟩
/-- .. where the frame's own object is kept too -/
theorem Inv.un {t' : Nat} (I : Inv X pins σ H s) (u : Un X.fs [] H H' s.heap h') (hok : HOk X.prog X.w H' h') : Inv X pins σ H' { s with heap := h', toks := t' } := by
  obtain ⟨m, ⟨o, es, ep, ho, r⟩, _⟩ := id I.loc
  obtain ⟨sl, hL⟩ := u.any ho I.free (by simp)
  exact I.step (g' := s.gens) (d' := s.drawn) (ch := []) (fun _ z => nomatch z) (fun b o _ hb _ e n => u.keep b o e n hb (by simp)) (fun b o _ hb _ e n => u.slot b o e n hb (by simp)) (fun b o _ e n => u.free b o e n (by simp)) (fun b o _ e => u.there b o e (by simp)) u.tups u.frzs u.tbls (fun m' hm => by
    obtain ⟨o', es', ep', ho', r'⟩ := hm
    rw [ho] at ho'; cases ho'
    exact ⟨_, es', ep', hL, r'⟩) hok I.bare
/-- behind a call (or a comprehension's block): the slots of this frame may have changed too, the records at ch may have turned -/
theorem Inv.call {g' : Array GenState} {t' : Nat} {d' : Drawn} {ch : List Addr} (I : Inv X pins σ H s) (u : Un (frs X.stack) ch H H' s.heap h') (hok : HOk X.prog X.w H' h') (hg : AllBare g')
    (hch : ∀ b ∈ ch, (b ∈ X.ex ∨ X.s₀.heap.objs.size ≤ b) ∧ b ≠ X.env.locals ∧ (∀ x c, X.env.cells.lookup x = some c → c ≠ b) ∧ ∀ p ∈ X.pn ++ pins, p.1 ≠ b) :
    Inv X pins σ H' { s with heap := h', gens := g', drawn := d', toks := t' } := by
  obtain ⟨m, ⟨o, es, ep, ho, r⟩, _⟩ := id I.loc
  obtain ⟨sl, hL⟩ := u.any ho I.free fun z => (hch _ z).2.1 rfl
  exact I.step (ch := ch) hch (fun b o hL hb hc e n => u.keep b o e n (fun z => (List.mem_cons.mp (I.stkSub b z)).elim hL hb) hc) (fun b o _ _ hc e n => u.any e n hc) (fun b o hc e n => u.free b o e n hc) (fun b o hc e => u.there b o e hc) u.tups u.frzs u.tbls (fun m' hm => by
    obtain ⟨o', es', ep', ho', r'⟩ := hm
    rw [ho] at ho'; cases ho'
    exact ⟨_, es', ep', hL, r'⟩) hok hg
/-- an untracked record of ours (an iterator) has turned -/
theorem Inv.turned {t' : Nat} {it : Addr} (I : Inv X pins σ H s) (k : ∀ b o, b ≠ it → s.heap.get? b = some o → h'.get? b = some o) (hn : H it = none) (hL : it ≠ X.env.locals)
    (h1 : it ∈ X.ex ∨ X.s₀.heap.objs.size ≤ it) (h2 : ∀ x c, X.env.cells.lookup x = some c → c ≠ it) (h3 : ∀ p ∈ X.pn ++ pins, p.1 ≠ it) : Inv X pins σ H { s with heap := h', toks := t' } := by
  have nit : ∀ b u, H b = some u → b ≠ it := fun b u e z => by rw [z, hn] at e; cases e
  refine I.step (g' := s.gens) (d' := s.drawn) (ch := [it]) (fun b hb => ?_) (fun b o _ _ hc e _ => k b o (fun z => hc (by simp [z])) e) (fun b o _ _ hc e _ => ⟨o.slots, k b o (fun z => hc (by simp [z])) e⟩) (fun _ _ _ _ n => n)
    (fun b o hc e => ⟨o, k b o (fun z => hc (by simp [z])) e⟩) (fun _ _ e => e) (fun _ _ _ e => e) (fun b ps e => ⟨#[], by rw [e]; simp⟩) (fun m hm => ?_) (fun b u e => ?_) I.bare
  · have e : b = it := by simpa using hb
    subst e
    exact ⟨h1, hL, h2, h3⟩
  · obtain ⟨o, es, ep, ho, r⟩ := hm
    exact ⟨o, es, ep, k _ o (Ne.symm hL) ho, r⟩
  · refine (I.hok b u e).stay (fun c v hc q => k c v ?_ q) (fun _ q => q) fun _ _ q => q
    rcases hc with z | z
    · rw [z]; exact nit b u e
    · exact nit c _ z
theorem Inv.tok (I : Inv X pins σ H s) (t : Nat) : Inv X pins σ H { s with toks := t } := I.un (h' := s.heap) (t' := t) Un.refl I.hok
/-- all objects kept -/
theorem Inv.kept {t' : Nat} (I : Inv X pins σ H s) (k : ∀ b u, s.heap.get? b = some u → h'.get? b = some u) : Inv X pins σ H { s with heap := h', toks := t' } := I.un (Un.kept k) (I.hok.kept k)
/-- a new object laid and tracked -/
theorem Inv.laid {a : Addr} {o : HO} {t' : Nat} (I : Inv X pins σ H s) (k : ∀ b u, s.heap.get? b = some u → h'.get? b = some u) (hp : s.heap.objs.size ≤ a) (new : ObjOk X.prog X.w (upd H a o) h' a o) :
    Inv X pins σ (upd H a o) { s with heap := h', toks := t' } := I.un (Un.laid k hp (I.hok.fresh hp)) (I.hok.laid k hp new)
/-- an object written -/
theorem Inv.write {x e : Addr} {o : HO} {t' : Nat} (I : Inv X pins σ H s) (mu : Mut (H x)) (he : e = x ∨ H e = some (.own x)) (k : ∀ b u, b ≠ e → s.heap.get? b = some u → h'.get? b = some u) (heo : ∃ u, h'.get? e = some u)
    (new : ObjOk X.prog X.w (upd H x o) h' x o) : Inv X pins σ (upd H x o) { s with heap := h', toks := t' } := I.un (Un.write mu he k heo) (I.hok.write mu he k heo new)
theorem Inv.pins_of {pins' : List (Addr × Obj)} (I : Inv X pins σ H s) (h : ∀ p ∈ pins', s.heap.get? p.1 = some p.2 ∧ H p.1 = none ∧ p.1 ≠ X.env.locals ∧ p.1 ∉ X.fs ∧ ∀ v, p.2.data ≠ .cell v) : Inv X pins' σ H s :=
  ⟨I.ok, I.os, I.bare, I.base, I.loc, I.cell, I.free, I.freeC, fun p hp => (List.mem_append.mp hp).elim (fun z => I.pin p (List.mem_append_left _ z)) (h p), I.hok, I.len⟩

theorem nodup_ix {N : List Str} (hN : N.Nodup) {i j : Nat} {x : Str} (a : N[i]? = some x) (b : N[j]? = some x) : i = j := by
  obtain ⟨h1, e1⟩ := List.getElem?_eq_some_iff.mp a
  obtain ⟨h2, e2⟩ := List.getElem?_eq_some_iff.mp b
  exact (List.getElem_inj hN).mp (e1.trans e2.symm)

/-- a name is stored; what changed -/
theorem store_ok2 {M : Model} {A : Around} {E : Value → Shared → Prop} {i : Nat} {x : Str} {v : V} {u : Value} {Q : Unit → Shared → Prop} (I : Inv X pins σ H s) (hN : X.N.Nodup) (hi : X.N[i]? = some x) (hx : Loc X.env.scope x) (r : RelV v u)
    (h : ∀ s', Inv X pins (σ.set i (some v)) H s' → (∃ a, Heap.SameBut a s.heap s'.heap ∧ (a = X.env.locals ∨ X.env.cells.lookup x = some a)) → Q () s') (hf : X.fn x = true ∨ X.env.scope.names.lookup x = some .local := by first | exact .inl rfl | exact .inr rfl | assumption) : wpAny M A (storeName X.env x u) Q E s := by
  obtain ⟨m, hn, hl⟩ := id I.loc
  have hcls : (X.env.scope.kind == .class || (X.env.scope.kind == .module && X.env.locals != X.env.globals)) = false := by rw [I.ok.kind]; rfl
  have hiσ : i < σ.length := by rw [I.len]; exact (List.getElem?_eq_some_iff.mp hi).1
  have cne := I.cne
  have tracked : ∀ {a : Addr} {h' : Heap}, (∃ o, s.heap.get? a = some o ∧ H a = none) → Heap.SameBut a s.heap h' → HOk X.prog X.w H h' := fun {a h'} ha hs b ob e => by
    obtain ⟨_, _, hfree⟩ := ha
    refine (I.hok b ob e).stay (fun c w' hc q => (hs.2 c ?_).trans q) (fun _ q => q) fun _ _ q => q
    rintro rfl
    rcases hc with rfl | hc
    · rw [hfree] at e; cases e
    · rw [hfree] at hc; cases hc
  rcases hx with hk | hk
  · refine wpAny_storeName_local hk hn (fun h' hn' hs => ?_) hcls
    obtain ⟨oL, _, _, hoL, _⟩ := id hn
    refine h _ ⟨I.ok, I.os, I.bare, ⟨fun b o e n hb hx => ?_, fun b o e n hb hx => ?_, I.base.free, fun b o e hx => ?_, I.base.tups, I.base.frzs, I.base.tbls⟩, ⟨_, hn', fun j y v' e1 e2 e3 => ?_⟩, fun y c e => ?_, I.free, I.freeC, fun p hp => ?_, tracked ⟨oL, hoL, I.free⟩ hs, by simpa using I.len⟩ ⟨_, hs, .inl rfl⟩
    · exact (hs.2 b (Nat.ne_of_lt (Nat.lt_of_lt_of_le (Heap.lt_size e) I.ok.above))).trans (I.base.keep b o e n hb hx)
    · obtain ⟨sl, e1⟩ := I.base.slot b o e n hb hx
      exact ⟨sl, (hs.2 b (Nat.ne_of_lt (Nat.lt_of_lt_of_le (Heap.lt_size e) I.ok.above))).trans e1⟩
    · obtain ⟨o', e1⟩ := I.base.there b o e hx
      exact ⟨o', (hs.2 b (Nat.ne_of_lt (Nat.lt_of_lt_of_le (Heap.lt_size e) I.ok.above))).trans e1⟩
    · by_cases hj : j = i
      · subst hj
        rw [hi] at e1; cases e1
        rw [List.getElem?_set_self hiσ] at e2
        cases e2
        exact ⟨u, r, .inl ⟨hk, by simp⟩⟩
      · rw [List.getElem?_set_ne (Ne.symm hj)] at e2
        obtain ⟨u', r', q⟩ := hl j y v' e1 e2 e3
        refine ⟨u', r', ?_⟩
        rcases q with ⟨k, e⟩ | ⟨k, c, e, z⟩
        · refine .inl ⟨k, ?_⟩
          have : y ≠ x := fun e => hj (nodup_ix hN e1 (e ▸ hi))
          simp [this, e]
        · exact .inr ⟨k, c, e, z.sameBut hs (cne y c e)⟩
    · obtain ⟨w', z⟩ := I.cell y c e
      exact ⟨w', z.sameBut hs (cne y c e)⟩
    · obtain ⟨e, n, ne, nf, d⟩ := I.pin p hp
      exact ⟨(hs.2 p.1 ne).trans e, n, ne, nf, d⟩
  · have hfn : X.fn x = true := by
      rcases hf with z | z
      · exact z
      · rw [z] at hk; cases hk
    obtain ⟨c, hc⟩ := I.ok.has x (.inl hk)
    obtain ⟨w', z⟩ := I.cell x c hc
    refine wpAny_storeName_cell I.ok.kind hk hc z (fun h' hc' hs => ?_)
    obtain ⟨oc, hoc, hocd⟩ := id z
    refine h { s with heap := h' } ⟨I.ok, I.os, I.bare, ⟨fun b o e n hb hx => ?_, fun b o e n hb hx => ?_, I.base.free, fun b o e hx => ?_, I.base.tups, I.base.frzs, I.base.tbls⟩, ⟨m, hn.sameBut hs (Ne.symm (cne x c hc)), fun j y v' e1 e2 e3 => ?_⟩, fun y c' e => ?_, I.free, I.freeC, fun p hp => ?_, tracked ⟨oc, hoc, I.freeC x c hc⟩ hs, by simpa using I.len⟩ ⟨c, hs, .inr hc⟩
    · exact (hs.2 b (Nat.ne_of_lt (Nat.lt_of_lt_of_le (Heap.lt_size e) (I.ok.cab x c hfn hc)))).trans (I.base.keep b o e n hb hx)
    · obtain ⟨sl, e1⟩ := I.base.slot b o e n hb hx
      exact ⟨sl, (hs.2 b (Nat.ne_of_lt (Nat.lt_of_lt_of_le (Heap.lt_size e) (I.ok.cab x c hfn hc)))).trans e1⟩
    · obtain ⟨o', e1⟩ := I.base.there b o e hx
      exact ⟨o', (hs.2 b (Nat.ne_of_lt (Nat.lt_of_lt_of_le (Heap.lt_size e) (I.ok.cab x c hfn hc)))).trans e1⟩
    · by_cases hj : j = i
      · subst hj
        rw [hi] at e1; cases e1
        rw [List.getElem?_set_self hiσ] at e2
        cases e2
        exact ⟨u, r, .inr ⟨.inl hk, c, hc, hc'⟩⟩
      · rw [List.getElem?_set_ne (Ne.symm hj)] at e2
        obtain ⟨u', r', q⟩ := hl j y v' e1 e2 e3
        refine ⟨u', r', ?_⟩
        rcases q with q | ⟨k, c', e, z'⟩
        · exact .inl q
        · refine .inr ⟨k, c', e, z'.sameBut hs ?_⟩
          rintro rfl
          exact hj (nodup_ix hN e1 (I.ok.inj _ _ _ e hc ▸ hi))
    · by_cases hcc : c' = c
      · subst hcc; exact ⟨_, hc'⟩
      · obtain ⟨w2, z2⟩ := I.cell y c' e
        exact ⟨w2, z2.sameBut hs hcc⟩
    · obtain ⟨e, n, ne, nf, d⟩ := I.pin p hp
      refine ⟨(hs.2 p.1 ?_).trans e, n, ne, nf, d⟩
      intro q
      rw [q, hoc] at e
      have q' : oc = p.2 := Option.some.inj e
      exact d w' (by rw [← q']; exact hocd)
theorem store_ok {M : Model} {A : Around} {E : Value → Shared → Prop} {i : Nat} {x : Str} {v : V} {u : Value} {Q : Unit → Shared → Prop} (I : Inv X pins σ H s) (hN : X.N.Nodup) (hi : X.N[i]? = some x) (hx : Loc X.env.scope x) (r : RelV v u)
    (h : ∀ s', Inv X pins (σ.set i (some v)) H s' → Q () s') (hf : X.fn x = true ∨ X.env.scope.names.lookup x = some .local := by first | exact .inl rfl | exact .inr rfl | assumption) : wpAny M A (storeName X.env x u) Q E s :=
  store_ok2 I hN hi hx r (fun s' I' _ => h s' I') hf
/-- behind a call or a block, the state as it is -/
theorem Inv.call' {s' : Shared} {ch : List Addr} (I : Inv X pins σ H s) (ho : s'.os = s.os) (u : Un (frs X.stack) ch H H' s.heap s'.heap) (hok : HOk X.prog X.w H' s'.heap) (hg : AllBare s'.gens)
    (hch : ∀ b ∈ ch, (b ∈ X.ex ∨ X.s₀.heap.objs.size ≤ b) ∧ b ≠ X.env.locals ∧ (∀ x c, X.env.cells.lookup x = some c → c ≠ b) ∧ ∀ p ∈ X.pn ++ pins, p.1 ≠ b) : Inv X pins σ H' s' := by
  obtain ⟨h', g', d', t', o'⟩ := s'
  have e : o' = s.os := ho
  subst e
  exact I.call (g' := g') (t' := t') (d' := d') u hok hg hch
end

/-! ### the judgements -/
/-- an exception: its class, its own dict's address (where it has one), the abstract heap behind it -/
abbrev XK := Value → Option Addr → Hp → Prop
abbrev St := List (Option V)
abbrev VK := V → Hp → Prop
/-- an expression's reading; a test's; an argument list's -/
abbrev TE := St → Hp → VK → Prop
abbrev TT := St → Hp → (Bool → Hp → Prop) → Prop
abbrev TA := St → Hp → (List V → Hp → Prop) → Prop
/-- what is wanted behind a statement -/
structure Ends where
  nx : St → Hp → Prop
  rt : VK
  bk : St → Hp → Prop := fun _ _ => False
  ct : St → Hp → Prop := fun _ _ => False
abbrev TS := Ends → St → Hp → Prop

def EP (X : Cx) (pins : List (Addr × Obj)) (σ : St) (Q : VK) (u : Value) (s' : Shared) : Prop := ∃ v H', Inv X pins σ H' s' ∧ RelV v u ∧ Q v H'
def TP (X : Cx) (pins : List (Addr × Obj)) (σ : St) (Q : Bool → Hp → Prop) (b : Bool) (s' : Shared) : Prop := ∃ H', Inv X pins σ H' s' ∧ Q b H'
def AP (X : Cx) (pins : List (Addr × Obj)) (σ : St) (Q : List V → Hp → Prop) (us : List Value) (s' : Shared) : Prop := ∃ vs H', Inv X pins σ H' s' ∧ Vals vs us ∧ Q vs H'
def SP (X : Cx) (pins : List (Addr × Obj)) (D : Ends) (f : Flow) (s' : Shared) : Prop :=
  match f with
  | .next => ∃ σ' H', Inv X pins σ' H' s' ∧ D.nx σ' H'
  | .brk => ∃ σ' H', Inv X pins σ' H' s' ∧ D.bk σ' H'
  | .cont => ∃ σ' H', Inv X pins σ' H' s' ∧ D.ct σ' H'
  | .ret u => ∃ v σ' H', Inv X pins σ' H' s' ∧ RelV v u ∧ D.rt v H'

def PE (X : Cx) (e : Expr) (t : TE) : Prop :=
  ∀ (pins : List (Addr × Obj)) (s : Shared) (σ : St) (H : Hp) (Q : VK), Inv X pins σ H s → t σ H Q → wpAny (model X.prog X.w) X.A (eval e X.env) (EP X pins σ Q) X.xe s
def PT (X : Cx) (e : Expr) (t : TT) : Prop :=
  ∀ (pins : List (Addr × Obj)) (s : Shared) (σ : St) (H : Hp) (Q : Bool → Hp → Prop), Inv X pins σ H s → t σ H Q → wpAny (model X.prog X.w) X.A (isTrue e X.env (eval e X.env)) (TP X pins σ Q) X.xe s
/-- a test whatever its 'whole' is (and, or) -/
def PW (X : Cx) (e : Expr) (t : TT) : Prop :=
  ∀ (whole : Sem Value) (pins : List (Addr × Obj)) (s : Shared) (σ : St) (H : Hp) (Q : Bool → Hp → Prop), Inv X pins σ H s → t σ H Q → wpAny (model X.prog X.w) X.A (isTrue e X.env whole) (TP X pins σ Q) X.xe s
theorem PW.pt {X : Cx} {e : Expr} {t : TT} (h : PW X e t) : PT X e t := h _
/-- an argument list (no star), from the left -/
def PA (X : Cx) (es : List Expr) (t : TA) : Prop :=
  ∀ (pos : Pos) (pins : List (Addr × Obj)) (s : Shared) (σ : St) (H : Hp) (Q : List V → Hp → Prop), Inv X pins σ H s → t σ H Q → wpAny (model X.prog X.w) X.A (spliced (backTo pos (starEach es X.env))) (AP X pins σ Q) X.xe s
def PS (X : Cx) (st : Stmt) (t : TS) : Prop :=
  ∀ (pins : List (Addr × Obj)) (s : Shared) (σ : St) (H : Hp) (D : Ends), Inv X pins σ H s → t D σ H → wpAny (model X.prog X.w) X.A (exec st X.env) (SP X pins D) X.xe s
def PSs (X : Cx) (st : List Stmt) (t : TS) : Prop :=
  ∀ (pins : List (Addr × Obj)) (s : Shared) (σ : St) (H : Hp) (D : Ends), Inv X pins σ H s → t D σ H → wpAny (model X.prog X.w) X.A (execs st X.env) (SP X pins D) X.xe s
/-- weaken the end -/
theorem thn {α : Type} {t : Sem α} {Q Q' : α → Shared → Prop} {M : Model} {A : Around} {E : Value → Shared → Prop} {s : Shared} (h : wpAny M A t Q E s) (hQ : ∀ a s, Q a s → Q' a s) : wpAny M A t Q' E s := wpAny_mono h hQ fun _ _ x => x
end L2

namespace L2
open PySem PySem.Spec PyProof.Rows
section
variable {X : Cx}


/-! ### names and constants -/
def tVar (i : Nat) : TE := fun σ H Q => ∃ v, σ[i]? = some (some v) ∧ Q v H
def tC (v : V) : TE := fun _ H Q => Q v H
theorem pe_var {i : Nat} {x : Str} {pos : Pos} (hN : X.N[i]? = some x) (hv : Vis X.env.scope x) (hd : (x == ("__debug__" : Str)) = false := by decide) (hcd : (x == ("__classdict__" : Str)) = false := by decide) : PE X (.Name x pos) (tVar i) := by
  intro pins s σ H Q I h
  obtain ⟨v, e, h⟩ := h
  obtain ⟨m, hn, hl⟩ := I.loc
  obtain ⟨u, r, l⟩ := hl i x v hN e hv
  have fin : EP X pins σ Q u s := ⟨v, H, I, r, h⟩
  rcases l with ⟨hk, hm⟩ | ⟨hk, c, hc, hcell⟩
  · exact wpAny_Name (wpAny_loadName_local I.ok.kind hk hn hm fin) hd
  · rcases hk with hk | hk
    · exact wpAny_Name (wpAny_loadName_cell I.ok.kind hk hc hcell fin) hd
    · exact wpAny_Name (wpAny_loadName_free I.ok.kind hk hc hcell fin hcd) hd
theorem pe_int {i j pos} : PE X (.Constant (.int i) j pos) (tC (.int i)) := fun _ _ _ H _ I h => wpAny_Constant_int ⟨.int i, H, I.tok _, ⟨_, rfl⟩, h⟩
theorem pe_bl {b j pos} : PE X (.Constant (.bool b) j pos) (tC (.bl b)) := fun _ _ _ H _ I h => Constant_bool ⟨.bl b, H, I, rfl, h⟩
theorem pe_non {j pos} : PE X (.Constant .none j pos) (tC .non) := fun _ _ _ H _ I h => Constant_none ⟨.non, H, I, rfl, h⟩
theorem pe_str {x j pos} : PE X (.Constant (.str x) j pos) (tC (.str x)) := fun _ _ _ H _ I h => Calls.Constant_str ⟨.str x, H, I.tok _, ⟨_, rfl⟩, h⟩

/-- a global name of the def -/
def Gl (X : Cx) (x : Str) : Prop := X.env.kindOf x = some .globalImplicit
theorem ld_glob {E : Value → Shared → Prop} {pins : List (Addr × Obj)} {s : Shared} {σ : St} {H : Hp} {x : Str} {u : Value} {pos : Pos} {Q : Value → Shared → Prop} (I : Inv X pins σ H s) (hg : Gl X x) (hm : X.mg x = some u) (h : Q u s)
    (hd : (x == ("__debug__" : Str)) = false := by decide) : wpAny (model X.prog X.w) X.A (eval (.Name x pos) X.env) Q E s :=
  Calls.Name_function_global I.ok.kind hg (Calls.loadGlobal_global (by rw [I.ok.glob]; exact I.mod.glob.keeps I.bk) hm h) hd
theorem ld_blt {E : Value → Shared → Prop} {pins : List (Addr × Obj)} {s : Shared} {σ : St} {H : Hp} {x : Str} {u : Value} {pos : Pos} {Q : Value → Shared → Prop} (I : Inv X pins σ H s) (hg : Gl X x) (hm : X.mg x = none) (hv : bootBuiltins x = some u) (h : Q u s)
    (hn : x ≠ "__name__" := by decide) (hd : (x == ("__debug__" : Str)) = false := by decide) : wpAny (model X.prog X.w) X.A (eval (.Name x pos) X.env) Q E s := by
  obtain ⟨mb, h1, h2⟩ := I.mod.blt
  exact Calls.Name_function_global I.ok.kind hg (Calls.loadGlobal_builtin (by rw [I.ok.glob]; exact I.mod.glob.keeps I.bk) hm (by rw [I.ok.blt]; exact h1.keeps I.bk) ((h2 x hn).trans hv) h) hd
/-- a module's constant, a class, a function, as a value -/
theorem pe_glob {x : Str} {v : V} {u : Value} {pos : Pos} (hg : Gl X x) (hm : X.mg x = some u) (r : RelV v u) (hd : (x == ("__debug__" : Str)) = false := by decide) : PE X (.Name x pos) (tC v) :=
  fun _ _ _ H _ I h => ld_glob I hg hm ⟨v, H, I, r, h⟩ hd
theorem pe_bltn {x : Str} {v : V} {u : Value} {pos : Pos} (hg : Gl X x) (hm : X.mg x = none) (hv : bootBuiltins x = some u) (r : RelV v u) (hn : x ≠ "__name__" := by decide) (hd : (x == ("__debug__" : Str)) = false := by decide) : PE X (.Name x pos) (tC v) :=
  fun _ _ _ H _ I h => ld_blt I hg hm hv ⟨v, H, I, r, h⟩ hn hd

/-! ### arithmetic -/
variable {a b : Expr} {ta tb : TE} {pos : Pos}

/-! ### comparisons -/
def PC (X : Cx) (op : CmpOp) (a b : Expr) (t : TE) : Prop :=
  ∀ (pins : List (Addr × Obj)) (s : Shared) (σ : St) (H : Hp) (Q : VK), Inv X pins σ H s → t σ H Q →
    wpAny (model X.prog X.w) X.A (eval a X.env) (fun v s₁ => wpAny (model X.prog X.w) X.A (eval b X.env) (fun u s₂ => wpAny (model X.prog X.w) X.A (compareOp op v u) (EP X pins σ Q) X.xe s₂) X.xe s₁) X.xe s
/-- a comparison as a value, as a test -/
def tB (t : TE) : TT := fun σ H Q => t σ H fun x H1 => ∃ c, x = .bl c ∧ Q c H1
theorem pe_cmp {op : CmpOp} {t : TE} (h : PC X op a b t) (h1 : behindInMarks op b = false := by first | exact nobehind _ (by decide) (by decide) | rfl) : PE X (.Compare a [op] [b] pos) t := fun pins s σ H Q I hw => wpAny_Compare1 (h pins s σ H Q I hw) h1
theorem pt_cmp {op : CmpOp} {t : TE} (h : PC X op a b t) (h1 : behindInMarks op b = false := by first | exact nobehind _ (by decide) (by decide) | rfl) : PT X (.Compare a [op] [b] pos) (tB t) := by
  intro pins s σ H Q I hw
  refine wpAny_isTrue_Compare1 (thn (h pins s σ H _ I hw) fun v s1 h1 => thn h1 fun u s2 h2 => thn h2 ?_) h1
  rintro c s3 ⟨x, H1, I1, r1, q1⟩
  obtain ⟨d, rfl, q⟩ := q1
  cases r1
  exact wpAny_truthy_bool ⟨H1, I1, q⟩
/-- an expression whose value is a bool, as a test -/
theorem pt_val {e : Expr} {t : TE} (h : PE X e t) (he : ∀ whole, isTrue e X.env whole = (do let v ← whole; standAt e.pos; holding [v] (truthy v)) := by intro _; rfl) : PT X e (tB t) := by
  intro pins s σ H Q I hw
  refine isTrue_plain (thn (h pins s σ H _ I hw) ?_) (he _)
  rintro v s1 ⟨x, H1, I1, r1, q1⟩
  obtain ⟨d, rfl, q⟩ := q1
  cases r1
  exact wpAny_truthy_bool ⟨H1, I1, q⟩

/-! ### and, or, not -/
variable {tA tB' : TT} {rest : List Expr}
def tAnd (t u : TT) : TT := fun σ H Q => t σ H fun c H1 => if c = true then u σ H1 Q else Q false H1
def tOr (t u : TT) : TT := fun σ H Q => t σ H fun c H1 => if c = true then Q true H1 else u σ H1 Q
def tNot (t : TT) : TT := fun σ H Q => t σ H fun c H1 => Q (!c) H1
theorem pw_and1 (ha : PT X a tA) : PW X (.BoolOp .And [a] pos) tA := by
  intro wh pins s σ H Q I h
  refine isTrue_and (thn (ha pins s σ H Q I h) fun c s1 e => ?_)
  cases c with
  | true => exact isTrue_and_nil e
  | false => exact e
theorem pw_or1 (ha : PT X a tA) : PW X (.BoolOp .Or [a] pos) tA := by
  intro wh pins s σ H Q I h
  refine isTrue_or (thn (ha pins s σ H Q I h) fun c s1 e => ?_)
  cases c with
  | false => exact isTrue_or_nil e
  | true => exact e
theorem pw_and (ha : PT X a tA) (hb : PW X (.BoolOp .And (b :: rest) pos) tB') : PW X (.BoolOp .And (a :: b :: rest) pos) (tAnd tA tB') := by
  intro wh pins s σ H Q I h
  refine isTrue_and (thn (ha pins s σ H _ I h) ?_)
  rintro c s1 ⟨H1, I1, q1⟩
  cases c with
  | true => exact hb wh pins s1 σ H1 Q I1 q1
  | false => exact ⟨H1, I1, q1⟩
theorem pw_or (ha : PT X a tA) (hb : PW X (.BoolOp .Or (b :: rest) pos) tB') : PW X (.BoolOp .Or (a :: b :: rest) pos) (tOr tA tB') := by
  intro wh pins s σ H Q I h
  refine isTrue_or (thn (ha pins s σ H _ I h) ?_)
  rintro c s1 ⟨H1, I1, q1⟩
  cases c with
  | true => exact ⟨H1, I1, q1⟩
  | false => exact hb wh pins s1 σ H1 Q I1 q1
theorem pt_not (ha : PT X a tA) : PT X (.UnaryOp .Not a pos) (tNot tA) := by
  intro pins s σ H Q I h
  exact isTrue_not (ha pins s σ H (fun c H1 => Q (!c) H1) I h)
/-- .. as values (bools) -/
def tAndV (ta tb : TE) : TE := fun σ H Q => ta σ H fun x H1 => ∃ c, x = .bl c ∧ if c = true then tb σ H1 Q else Q (.bl false) H1
def tNotV (ta : TE) : TE := fun σ H Q => ta σ H fun x H1 => ∃ c, x = .bl c ∧ Q (.bl (!c)) H1
theorem pe_one {op} {t : TE} (h : PE X a t) : PE X (.BoolOp op [a] pos) t := fun pins s σ H Q I hw => BoolOp_one (h pins s σ H Q I hw)
theorem pe_and (ha : PE X a ta) (hb : PE X (.BoolOp .And (b :: rest) pos) tb) : PE X (.BoolOp .And (a :: b :: rest) pos) (tAndV ta tb) := by
  intro pins s σ H Q I h
  refine BoolOp_and (thn (ha pins s σ H _ I h) ?_)
  rintro v s1 ⟨x, H1, I1, r1, q1⟩
  obtain ⟨c, rfl, q1⟩ := q1
  cases r1
  refine wpAny_truthy_bool ?_
  cases c with
  | true => exact hb pins s1 σ H1 Q I1 q1
  | false => exact ⟨.bl false, H1, I1, rfl, q1⟩
theorem pe_not (ha : PE X a ta) : PE X (.UnaryOp .Not a pos) (tNotV ta) := by
  intro pins s σ H Q I h
  refine UnaryOp_ (thn (ha pins s σ H _ I h) ?_)
  rintro v s1 ⟨x, H1, I1, r1, q1⟩
  obtain ⟨c, rfl, q1⟩ := q1
  cases r1
  exact not_of (wpAny_truthy_bool ⟨.bl (!c), H1, I1, rfl, q1⟩)
/-- a if t else b -/
def tIf (t : TT) (ta tb : TE) : TE := fun σ H Q => t σ H fun c H1 => if c = true then ta σ H1 Q else tb σ H1 Q
theorem pe_ifExp {c : Expr} (hc : PT X c tA) (ha : PE X a ta) (hb : PE X b tb) : PE X (.IfExp c a b pos) (tIf tA ta tb) := by
  intro pins s σ H Q I h
  refine wpAny_IfExp (thn (hc pins s σ H _ I h) ?_)
  rintro d s1 ⟨H1, I1, q1⟩
  cases d with
  | true => exact ha pins s1 σ H1 Q I1 q1
  | false => exact hb pins s1 σ H1 Q I1 q1
end
end L2

namespace L2
open PySem PySem.Spec PyProof.Rows

/-! ### a list, a tuple that is read: tracked, frozen, or an object of the module -/
def SqL (K : PySem.W.Frag) (H : Hp) (a : Addr) (xs : List V) : Prop :=
  Rd H a (.lst xs) ∨
    ∃ (o : Obj) (its : Array Value) (n : Nat), K.lookup a = some o ∧ o.cls = .type "list" ∧ o.dict = none ∧ o.data = .seq its n ∧ its.size ≤ sizeLine ∧ Vals xs its.toList
def SqT (K : PySem.W.Frag) (H : Hp) (a : Addr) (xs : List V) : Prop :=
  Rd H a (.tup xs) ∨
    ∃ (o : Obj) (its : Array Value) (n : Nat), K.lookup a = some o ∧ o.cls = .type "tuple" ∧ o.data = .seq its n ∧ its.size ≤ sizeLine ∧ Vals xs its.toList
def absV : Value → Option V
  | .none => some .non
  | .bool b => some (.bl b)
  | .int i _ => some (.int i)
  | .str x _ => some (.str x)
  | .bytes b _ => some (.byt b)
  | .float b _ => some (.flt b)
  | .ref a => some (.ref a)
  | .type n => some (.ty n)
  | _ => none
theorem RelV.abs {x : V} {u : Value} (r : RelV x u) : absV u = some x := by
  cases x with
  | non => cases r; rfl
  | bl _ => cases r; rfl
  | int _ => obtain ⟨t, rfl⟩ := r; rfl
  | str _ => obtain ⟨t, rfl⟩ := r; rfl
  | byt _ => obtain ⟨t, rfl⟩ := r; rfl
  | flt _ => obtain ⟨t, rfl⟩ := r; rfl
  | ref _ => cases r; rfl
  | ty _ => cases r; rfl
theorem RelV.inj {x y : V} {u : Value} (r : RelV x u) (q : RelV y u) : x = y := Option.some.inj (r.abs.symm.trans q.abs)
theorem Vals.inj {xs ys : List V} {us : List Value} (h : Vals xs us) : Vals ys us → xs = ys := by
  induction h generalizing ys with
  | nil => intro g; cases g; rfl
  | cons r t ih => intro g; cases g with
    | cons r' t' => rw [r.inj r', ih t']
section
variable {X : Cx} {pins : List (Addr × Obj)} {σ : St} {H : Hp} {s : Shared} {a : Addr} {xs ys : List V}
theorem SqL.of {K : PySem.W.Frag} (h : H a = some (.lst xs)) : SqL K H a xs := .inl (.inl h)
theorem SqT.of {K : PySem.W.Frag} (h : H a = some (.tup xs)) : SqT K H a xs := .inl (.inl h)
theorem Inv.list (I : Inv X pins σ H s) (h : SqL X.K H a xs) : ∃ its : List Value, Vals xs its ∧ PlainL s.heap a its.toArray ∧ xs.length ≤ sizeLine := by
  rcases h with h | ⟨o, its, n, hk, hc, hd, hs, hz, r⟩
  · obtain ⟨z, its, n, r, e⟩ := h.ok I.hok
    exact ⟨its, r, ⟨_, n, e, rfl, rfl, rfl⟩, z⟩
  · refine ⟨its.toList, r, ⟨o, n, I.kIn a o hk, hc, hd, by simpa using hs⟩, ?_⟩
    have e := r.length
    simp only [Array.length_toList] at e
    lia
theorem Inv.tuple (I : Inv X pins σ H s) (h : SqT X.K H a xs) : ∃ its : List Value, Vals xs its ∧ IsTup s.heap a its.toArray ∧ xs.length ≤ sizeLine := by
  rcases h with h | ⟨o, its, n, hk, hc, hs, hz, r⟩
  · obtain ⟨z, its, r, p⟩ := h.ok I.hok
    exact ⟨its, r, p.tup, z⟩
  · refine ⟨its.toList, r, ⟨o, I.kIn a o hk, hc, n, by simpa using hs⟩, ?_⟩
    have e := r.length
    simp only [Array.length_toList] at e
    lia
theorem Inv.list_inj (I : Inv X pins σ H s) (h : SqL X.K H a xs) (h' : SqL X.K H a ys) : xs = ys := by
  obtain ⟨its, r, ⟨o, n, e, _, _, d⟩, _⟩ := I.list h
  obtain ⟨its', r', ⟨o', n', e', _, _, d'⟩, _⟩ := I.list h'
  rw [e] at e'; cases e'
  rw [d] at d'
  injection d' with d1 _
  have : its = its' := by simpa using congrArg Array.toList d1
  subst this
  exact r.inj r'
theorem Inv.tuple_inj (I : Inv X pins σ H s) (h : SqT X.K H a xs) (h' : SqT X.K H a ys) : xs = ys := by
  obtain ⟨its, r, ⟨o, e, _, n, d⟩, _⟩ := I.tuple h
  obtain ⟨its', r', ⟨o', e', _, n', d'⟩, _⟩ := I.tuple h'
  rw [e] at e'; cases e'
  rw [d] at d'
  injection d' with d1 _
  have : its = its' := by simpa using congrArg Array.toList d1
  subst this
  exact r.inj r'
end

/-! ### another wish about exceptions -/
abbrev Cx.wish (X : Cx) (E : Value → Shared → Prop) : Cx := { X with xe := E }
/-- no exception leaves -/
abbrev Cx.nox (X : Cx) : Cx := X.wish fun _ _ => False
theorem Cx.Ok.wish {X : Cx} (ok : X.Ok) (E : Value → Shared → Prop) : (X.wish E).Ok :=
  ⟨ok.mod, ok.kind, ok.glob, ok.blt, ok.above, ok.inj, ok.has, ok.cab, ok.hd, ok.frames, ok.stk, ok.exf, ok.bs, ok.bsz, ok.noex, ok.exfs, ok.funs, ok.frf⟩
theorem Cx.Ok.unwish {X : Cx} {E : Value → Shared → Prop} (ok : (X.wish E).Ok) : X.Ok :=
  ⟨ok.mod, ok.kind, ok.glob, ok.blt, ok.above, ok.inj, ok.has, ok.cab, ok.hd, ok.frames, ok.stk, ok.exf, ok.bs, ok.bsz, ok.noex, ok.exfs, ok.funs, ok.frf⟩
section
variable {X : Cx} {pins : List (Addr × Obj)} {σ : St} {H : Hp} {s : Shared} {E : Value → Shared → Prop}
theorem Inv.wish (I : Inv X pins σ H s) (E : Value → Shared → Prop) : Inv (X.wish E) pins σ H s := ⟨I.ok.wish E, I.os, I.bare, I.base, I.loc, I.cell, I.free, I.freeC, I.pin, I.hok, I.len⟩
theorem Inv.unwish (I : Inv (X.wish E) pins σ H s) : Inv X pins σ H s := ⟨I.ok.unwish, I.os, I.bare, I.base, I.loc, I.cell, I.free, I.freeC, I.pin, I.hok, I.len⟩
theorem SP.unwish {D : Ends} {f : Flow} {s' : Shared} (h : SP (X.wish E) pins D f s') : SP X pins D f s' := by
  cases f with
  | next => obtain ⟨σ', H', I, q⟩ := h; exact ⟨σ', H', I.unwish, q⟩
  | brk => obtain ⟨σ', H', I, q⟩ := h; exact ⟨σ', H', I.unwish, q⟩
  | cont => obtain ⟨σ', H', I, q⟩ := h; exact ⟨σ', H', I.unwish, q⟩
  | ret u => obtain ⟨v, σ', H', I, r, q⟩ := h; exact ⟨v, σ', H', I.unwish, r, q⟩
theorem PSs.nox {st : List Stmt} {t : TS} (h : PSs X.nox st t) : PSs X st t := fun pins s σ H D I hw =>
  wpAny_mono (h pins s σ H D (I.wish _) hw) (fun _ _ q => q.unwish) fun _ _ z => False.elim z
end

/-! ### blocks and small statements -/
section
variable {X : Cx} {st : Stmt} {rest : List Stmt} {t u : TS} {e : Expr} {te : TE} {pos : Pos}
def tNext : TS := fun D σ H => D.nx σ H
def tSeq (t u : TS) : TS := fun D σ H => t { D with nx := u D } σ H
theorem pss_nil : PSs X [] tNext := fun _ _ σ H _ I h => wpAny_execs_nil ⟨σ, H, I, h⟩
theorem pss_cons (h1 : PS X st t) (h2 : PSs X rest u) : PSs X (st :: rest) (tSeq t u) := by
  intro pins s σ H D I h
  refine wpAny_execs_cons (thn (h1 pins s σ H { D with nx := u D } I h) fun f s1 q => ?_)
  cases f with
  | next =>
    obtain ⟨σ', H', I', q⟩ := q
    exact h2 pins s1 σ' H' D I' q
  | ret v => exact q
  | brk => exact q
  | cont => exact q
theorem pss_one (h1 : PS X st t) : PSs X [st] t := by
  intro pins s σ H D I h
  refine wpAny_execs_cons (thn (h1 pins s σ H D I h) fun f s1 q => ?_)
  cases f with
  | next => exact wpAny_execs_nil q
  | ret v => exact q
  | brk => exact q
  | cont => exact q
/-- in a def's body nothing is shown -/
theorem Inv.quiet {pins : List (Addr × Obj)} {σ : St} {H : Hp} {s : Shared} (I : Inv X pins σ H s) : interactive X.env = false := by simp [interactive, I.ok.kind]
/-- an expression whose value is dropped -/
def tDrop (te : TE) : TS := fun D σ H => te σ H fun _ H1 => D.nx σ H1
theorem ps_expr (he : PE X e te) (hs : swapsWith e none pos.line X.env = pure false := by rfl) : PS X (.Expr e pos) (tDrop te) := by
  intro pins s σ H D I h
  refine wpAny_Expr_any (thn (he pins s σ H _ I h) ?_) I.quiet hs
  rintro v s1 ⟨x, H1, I1, r1, q1⟩
  exact ⟨σ, H1, I1, q1⟩
def tRet (te : TE) : TS := fun D σ H => te σ H D.rt
theorem ps_ret (he : PE X e te) : PS X (.Return (some e) pos) (tRet te) := by
  intro pins s σ H D I h
  refine wpAny_Return_some (thn (he pins s σ H _ I h) ?_)
  rintro v s1 ⟨x, H1, I1, r1, q1⟩
  exact ⟨x, σ, H1, I1, r1, q1⟩
def tIfS (c : TT) (t u : TS) : TS := fun D σ H => c σ H fun b H1 => if b = true then t D σ H1 else u D σ H1
theorem ps_if {c : Expr} {a b : List Stmt} {tc : TT} (hc : PT X c tc) (ha : PSs X a t) (hb : PSs X b u) : PS X (.If c a b pos) (tIfS tc t u) := by
  intro pins s σ H D I h
  refine wpAny_If (thn (hc pins s σ H _ I h) ?_)
  rintro d s1 ⟨H1, I1, q1⟩
  cases d with
  | true => exact ha pins s1 σ H1 D I1 q1
  | false => exact hb pins s1 σ H1 D I1 q1
end

/-! ### targets -/
abbrev TG := V → St → Hp → (St → Hp → Prop) → Prop
abbrev TGs := List V → St → Hp → (St → Hp → Prop) → Prop
def PG (X : Cx) (target : Expr) (t : TG) : Prop :=
  ∀ (pins : List (Addr × Obj)) (s : Shared) (σ : St) (H : Hp) (v : V) (u : Value) (Q : St → Hp → Prop), Inv X pins σ H s → RelV v u → t v σ H Q →
    wpAny (model X.prog X.w) X.A (assign target X.env u) (fun _ s' => ∃ σ' H', Inv X pins σ' H' s' ∧ Q σ' H') X.xe s
/-- several targets, one after another -/
def PGs (X : Cx) (ts : List Expr) (t : TGs) : Prop :=
  ∀ (pins : List (Addr × Obj)) (s : Shared) (σ : St) (H : Hp) (vs : List V) (us : List Value) (Q : St → Hp → Prop), Inv X pins σ H s → Vals vs us → t vs σ H Q →
    wpAny (model X.prog X.w) X.A (assignInOrder ((assignEach ts X.env).map (·.2)) us) (fun _ s' => ∃ σ' H', Inv X pins σ' H' s' ∧ Q σ' H') X.xe s
/-- o[i] = v, by values -/
abbrev TSet := V → V → V → Hp → (Hp → Prop) → Prop
def PSet (X : Cx) (t : TSet) : Prop :=
  ∀ (pins : List (Addr × Obj)) (s : Shared) (σ : St) (H : Hp) (o i v : V) (ov iv u : Value) (Q : Hp → Prop), Inv X pins σ H s → RelV o ov → RelV i iv → RelV v u → t o i v H Q →
    wpAny (model X.prog X.w) X.A (setItem ov iv u) (fun _ s' => ∃ H', Inv X pins σ H' s' ∧ Q H') X.xe s
section
variable {X : Cx} {pos : Pos}
def gName (i : Nat) : TG := fun v σ H Q => Q (σ.set i (some v)) H
theorem pg_name {i : Nat} {x : Str} (hN : X.N.Nodup) (hi : X.N[i]? = some x) (hx : Loc X.env.scope x) (hf : X.fn x = true ∨ X.env.scope.names.lookup x = some .local := by first | exact .inl rfl | exact .inr rfl | assumption) : PG X (.Name x pos) (gName i) := by
  intro pins s σ H v u Q I r h
  exact wpAny_assign_Name (store_ok I hN hi hx r (fun s' I' => ⟨_, H, I', h⟩) hf)
def gNil : TGs := fun vs σ H Q => vs = [] ∧ Q σ H
def gCons (t : TG) (u : TGs) : TGs := fun vs σ H Q => ∃ v r, vs = v :: r ∧ t v σ H fun σ' H' => u r σ' H' Q
theorem pgs_nil : PGs X [] gNil := by
  intro pins s σ H vs us Q I r h
  obtain ⟨e, h⟩ := h
  subst e
  cases r
  exact assignInOrder_nil ⟨σ, H, I, h⟩
theorem pgs_cons {e : Expr} {es : List Expr} {t : TG} {u : TGs} (h1 : PG X e t) (h2 : PGs X es u)
    (hs : (assignEach (e :: es) X.env).map (·.2) = assign e X.env :: (assignEach es X.env).map (·.2) := by rfl) : PGs X (e :: es) (gCons t u) := by
  intro pins s σ H vs us Q I r h
  obtain ⟨v, vr, e1, h⟩ := h
  subst e1
  cases r with
  | cons r rr =>
    rw [hs]
    refine assignInOrder_cons (thn (h1 pins s σ H _ _ _ I r h) ?_)
    rintro _ s1 ⟨σ1, H1, I1, q1⟩
    exact h2 pins s1 σ1 H1 _ _ Q I1 rr q1
/-- (a, b, ..) = a tuple of that length -/
def gTup (K : PySem.W.Frag) (n : Nat) (t : TGs) : TG := fun v σ H Q => ∃ a xs, v = .ref a ∧ SqT K H a xs ∧ xs.length = n ∧ t xs σ H Q
theorem pg_tup {es : List Expr} {k : Nat} {t : TGs} {n : Nat} (hc : X.calm = true) (h : PGs X es t)
    (hn : (assignEach es X.env).length = n := by rfl) (hst : (assignEach es X.env).findIdx? (·.1) = none := by rfl) : PG X (.Tuple es k pos) (gTup X.K n t) := by
  intro pins s σ H v u Q I r hw
  obtain ⟨a, xs, e1, hq, hl, hw⟩ := hw
  subst e1
  cases r
  obtain ⟨its, rv, ht, hz⟩ := I.tuple hq
  refine assign_Tuple_tuple (I.ok.hd hc) ht (by simp [hn, ← hl, rv.length]) hst fun h' hx => ?_
  have I1 : Inv X pins σ H { s with heap := h' } := I.kept (t' := s.toks) fun b o e => hx b o (Nat.ne_of_lt (Heap.lt_size e)) e
  exact h pins _ σ H xs _ Q I1 (by simpa using rv) hw
/-- o[i] = .. -/
def gSub (to ti : TE) (t : TSet) : TG := fun v σ H Q => to σ H fun o H1 => ti σ H1 fun i H2 => t o i v H2 fun H3 => Q σ H3
theorem pg_sub {o i : Expr} {to ti : TE} {t : TSet} (ho : PE X o to) (hi : PE X i ti) (hs : PSet X t)
    (ha : ∀ v, assign (.Subscript o i pos) X.env v = (do
      let ov ← holding [v] (eval o X.env)
      let iv ← holding [v, ov] (eval i X.env)
      standAt pos
      holding [v, ov, iv] (setItem ov iv v)
      release [v, ov, iv] []) := by intro _; rfl) : PG X (.Subscript o i pos) (gSub to ti t) := by
  intro pins s σ H v u Q I r h
  rw [ha]
  refine wpAny_bind (wpAny_holding (thn (ho pins s σ H _ I h) ?_))
  rintro ov s1 ⟨x, H1, I1, r1, q1⟩
  refine wpAny_bind (wpAny_holding (thn (hi pins s1 σ H1 _ I1 q1) ?_))
  rintro iv s2 ⟨y, H2, I2, r2, q2⟩
  refine wpAny_bind (wpAny_standAt (wpAny_bind (wpAny_holding (thn (hs pins s2 σ H2 x y v ov iv u _ I2 r1 r2 r q2) ?_))))
  rintro _ s3 ⟨H3, I3, q3⟩
  exact wpAny_release ⟨σ, H3, I3, q3⟩
/-- target = value -/
def tAsg (te : TE) (g : TG) : TS := fun D σ H => te σ H fun x H1 => g x σ H1 D.nx
theorem ps_asg {tg e : Expr} {te : TE} {g : TG} (he : PE X e te) (hg : PG X tg g) (hs : swapsWithSole [tg] e pos.line X.env = pure false := by rfl) (hw : swappedStores [tg] e X.env = pure none := by rfl)
    (h1 : (assignEach [tg] X.env).map (·.2) = [assign tg X.env] := by rfl) : PS X (.Assign [tg] e pos) (tAsg te g) := by
  intro pins s σ H D I h
  refine wpAny_Assign_stores (thn (he pins s σ H _ I h) ?_) hs hw
  rintro v s1 ⟨x, H1, I1, r1, q1⟩
  rw [h1]
  exact thn (hg pins s1 σ H1 x v _ I1 r1 q1) fun _ s2 q => q
/-- name = value -/
theorem ps_set {i : Nat} {x : Str} {e : Expr} {te : TE} {pos' : Pos} (hN : X.N.Nodup) (hi : X.N[i]? = some x) (hx : Loc X.env.scope x) (he : PE X e te) (hs : swapsWith e (some (.Name x pos')) pos.line X.env = pure false := by rfl) (hf : X.fn x = true ∨ X.env.scope.names.lookup x = some .local := by first | exact .inl rfl | exact .inr rfl | assumption) :
    PS X (.Assign [.Name x pos'] e pos) (tAsg te (gName i)) := by
  intro pins s σ H D I h
  refine wpAny_Assign_Name (thn (he pins s σ H _ I h) ?_) hs
  rintro v s1 ⟨y, H1, I1, r1, q1⟩
  exact store_ok I1 hN hi hx r1 (fun s2 I2 => ⟨_, H1, I2, q1⟩) hf
end

/-! ### while -/
section
variable {X : Cx} {pos : Pos}
/-- the invariant W with its measure -/
def tWhile (c : TT) (tb : TS) : TS := fun D σ H => ∃ W : Nat → St → Hp → Prop, (∃ m, W m σ H) ∧ ∀ m σ H, W m σ H →
  c σ H fun b H1 => if b = true then ∃ N : St → Hp → Prop, (∀ σ' H', N σ' H' → ∃ m', m' < m ∧ W m' σ' H') ∧ tb { D with nx := N, ct := N, bk := D.nx } σ H1 else D.nx σ H1
theorem ps_while {c : Expr} {body : List Stmt} {tc : TT} {tb : TS} (hp : PassesOwn (model X.prog X.w) X.A X.env X.xe) (hc : PT X c tc) (hb : PSs X body tb) : PS X (.While c body [] pos) (tWhile tc tb) := by
  intro pins s σ H D I h
  obtain ⟨W, ⟨m0, w0⟩, turn⟩ := h
  refine wpAny_While (codeAny_whileLoop (fun n s' => ∃ σ' H', Inv X pins σ' H' s' ∧ W n σ' H') ?_ m0 ⟨σ, H, I, w0⟩)
  rintro n s1 ⟨σ1, H1, I1, w1⟩
  refine wpAny_passesOwn hp (thn (hc pins s1 σ1 H1 _ I1 (turn n σ1 H1 w1)) ?_)
  rintro b s2 ⟨H2, I2, q2⟩
  cases b with
  | true =>
    obtain ⟨N, hN, q2⟩ := q2
    rw [if_pos rfl]
    refine wpAny_passesOwn hp (thn (hb pins s2 σ1 H2 _ I2 q2) fun f s3 q3 => ?_)
    cases f with
    | next =>
      obtain ⟨σ3, H3, I3, n3⟩ := q3
      obtain ⟨m', hm, w3⟩ := hN σ3 H3 n3
      exact ⟨m', hm, σ3, H3, I3, w3⟩
    | cont =>
      obtain ⟨σ3, H3, I3, n3⟩ := q3
      obtain ⟨m', hm, w3⟩ := hN σ3 H3 n3
      exact ⟨m', hm, σ3, H3, I3, w3⟩
    | brk => exact q3
    | ret v => exact q3
  | false =>
    rw [if_neg Bool.false_ne_true]
    exact wpAny_execs_nil ⟨σ1, H2, I2, q2⟩
end

/-! ### what a loop or a comprehension walks -/
/-- at turn i: it yields x (the heap may grow), or it stops -/
structure It where
  go : Nat → Hp → Prop
  yld : Nat → Hp → V → Hp → Prop
  stop : Nat → Hp → Prop
/-- the iterator's own objects may turn: they are not the frame's, not pinned, younger than the entry (or a comprehension's own) -/
def FpOk (X : Cx) (pins : List (Addr × Obj)) (H : Hp) (b : Addr) : Prop :=
  H b = none ∧ b ≠ X.env.locals ∧ b ∉ X.fs ∧ (b ∈ X.ex ∨ X.s₀.heap.objs.size ≤ b) ∧ (∀ x c, X.env.cells.lookup x = some c → c ≠ b) ∧ ∀ p ∈ X.pn ++ pins, p.1 ≠ b
theorem Inv.fpOk {X : Cx} {pins : List (Addr × Obj)} {σ : St} {H H' : Hp} {s : Shared} {b : Addr} (I : Inv X pins σ H s) (hb : s.heap.objs.size ≤ b) (hn : H' b = none) : FpOk X pins H' b := by
  refine ⟨hn, Nat.ne_of_gt (Nat.lt_of_lt_of_le I.lt hb), I.nofs hb, .inr (Nat.le_trans I.sz hb), fun x c e z => ?_, fun p hp z => ?_⟩
  · obtain ⟨v, q⟩ := I.cell x c e
    exact absurd (Nat.lt_of_lt_of_le q.lt (by rw [z]; exact hb)) (Nat.lt_irrefl _)
  · exact absurd (Nat.lt_of_lt_of_le (Heap.lt_size (I.pin p hp).1) (by rw [z]; exact hb)) (Nat.lt_irrefl _)
structure Turn (P : Program) (w : World) (K : PySem.W.Frag) (tg : Expr) (J : It) (fp : List Addr) (it : Addr) (tn : Nat → Heap → Prop) : Prop where
  mem : it ∈ fp
  obj : ∀ i h, tn i h → ∀ b ∈ fp, ∃ o, h.get? b = some o ∧ ∀ v, o.data ≠ .cell v
  keep : ∀ i h h', tn i h → (∀ b ∈ fp, ∀ o, h.get? b = some o → h'.get? b = some o) → tn i h'
  item : ∀ (X : Cx), X.prog = P → X.w = w → X.K = K → X.calm = true → ∀ (i : Nat) (pins : List (Addr × Obj)) (s : Shared) (σ : St) (H : Hp) (E : Value → Shared → Prop), Inv X pins σ H s → (∀ b ∈ fp, FpOk X pins H b) → tn i s.heap → J.go i H →
    wpAny (model P w) X.A (pyNext (.ref it)) (fun r s1 => ∃ u, r = some u ∧
      wpAny (model P w) X.A (letOwnedTupleGo tg (.ref it) u) (fun _ s2 => ∃ x H', Inv X pins σ H' s2 ∧ RelV x u ∧ J.yld i H x H' ∧ tn (i + 1) s2.heap ∧ ∀ b ∈ fp, H' b = none) E s1) E s
  done : ∀ (X : Cx), X.prog = P → X.w = w → X.K = K → X.calm = true → ∀ (i : Nat) (pins : List (Addr × Obj)) (s : Shared) (σ : St) (H : Hp) (E : Value → Shared → Prop), Inv X pins σ H s → (∀ b ∈ fp, FpOk X pins H b) → tn i s.heap → J.stop i H →
    wpAny (model P w) X.A (pyNext (.ref it)) (fun r s1 => r = none ∧ Inv X pins σ H s1) E s
  self : ∀ (A : Around) (i : Nat) (s : Shared) (Q : Value → Shared → Prop) (E : Value → Shared → Prop), tn i s.heap → Q (.ref it) s → wpAny (model P w) A (pyIter (.ref it)) Q E s
abbrev TI := St → Hp → (It → Hp → Prop) → Prop
/-- an iterator has come -/
def PIE (X : Cx) (pins : List (Addr × Obj)) (σ : St) (tg : Expr) (R : It → Hp → Prop) (itv : Value) (s2 : Shared) : Prop :=
  ∃ (it : Addr) (fp : List Addr) (tn : Nat → Heap → Prop) (J : It) (H' : Hp), itv = .ref it ∧ Inv X pins σ H' s2 ∧ Turn X.prog X.w X.K tg J fp it tn ∧ tn 0 s2.heap ∧ (∀ b ∈ fp, FpOk X pins H' b) ∧ R J H'
def PI (X : Cx) (tg iter : Expr) (wi : TI) : Prop :=
  ∀ (pins : List (Addr × Obj)) (s : Shared) (σ : St) (H : Hp) (R : It → Hp → Prop), Inv X pins σ H s → wi σ H R →
    wpAny (model X.prog X.w) X.A (eval iter X.env) (fun v s1 => wpAny (model X.prog X.w) X.A (pyIter v) (PIE X pins σ tg R) X.xe s1) X.xe s

/-- the step ahead of the store is nothing for an iterator that keeps no tuple -/
theorem go_of {M : Model} {A : Around} {E : Value → Shared → Prop} {s : Shared} {tg : Expr} {it : Addr} {u : Value} {o : Obj} {n : String} {vs : Array Value} {Q : Unit → Shared → Prop} (ho : s.heap.get? it = some o) (hc : o.cls = .type n) (hd : o.data = .fields vs)
    (hn : ["enumerate", "zip", "dict_itemiterator", "dict_reverseitemiterator", "odict_iterator", "itertools.zip_longest", "itertools.pairwise"].contains n = false) (hQ : Q () s) : wpAny M A (letOwnedTupleGo tg (.ref it) u) Q E s := by
  unfold letOwnedTupleGo
  cases tg <;> first
    | exact wpAny_pure hQ
    | (cases u <;> first
        | exact wpAny_pure hQ
        | (refine wpAny_bind (wpAny_load ho ?_)
           rw [hc, hd]
           show wpAny M A (if (["enumerate", "zip", "dict_itemiterator", "dict_reverseitemiterator", "odict_iterator", "itertools.zip_longest", "itertools.pairwise"].contains n && vs[0]? == some (rawInt _)) = true then _ else _) Q E s
           rw [if_neg (by intro h; rw [hn, Bool.false_and] at h; cases h)]
           exact wpAny_pure hQ))

/-- the list at a, as it stands at each turn (a loop may append to it) -/
def Itl (K : PySem.W.Frag) (a : Addr) : It :=
  ⟨fun i H => ∃ xs x, SqL K H a xs ∧ xs[i]? = some x, fun i H x H' => H' = H ∧ ∀ xs, SqL K H a xs → xs[i]? = some x, fun i H => ∃ xs, SqL K H a xs ∧ xs.length ≤ i⟩
/-- lo, lo + 1, .. (n of them) -/
def Itr (lo : Int) (n : Nat) : It := ⟨fun i _ => i < n, fun i H x H' => H' = H ∧ x = .int (lo + i), fun i _ => n ≤ i⟩
theorem turn_list {P : Program} {w : World} {K : PySem.W.Frag} {tg : Expr} (a it : Addr) : Turn P w K tg (Itl K a) [it] it (fun i h => h.IsListIter it a i) where
  mem := by simp
  obj := fun i h st b hb => by
    have e : b = it := by simpa using hb
    subst e
    obtain ⟨o, e, c, d⟩ := st
    exact ⟨o, e, fun v z => by rw [d] at z; cases z⟩
  keep := fun i h h' st k => st.at fun o e => k it (by simp) o e
  item := by
    intro X hP hw hK hc i pins s σ H E I hf st hg
    subst hP hw hK
    obtain ⟨xs, x, hq, hx⟩ := hg
    obtain ⟨its, rv, p, hz⟩ := I.list hq
    obtain ⟨u, hu, ru⟩ := rv.get hx
    obtain ⟨f0, f1, f2, f3, f4, f5⟩ := hf it (by simp)
    refine wpAny_pyNext_list_item st p.isList (x := u) (by simpa using hu) fun h' st' sb => ?_
    have I1 : Inv X pins σ H { s with heap := h' } := I.turned (t' := s.toks) (fun b o hb e => (sb.2 b hb).trans e) f0 f1 f3 f4 f5
    obtain ⟨o, e, c, d⟩ := id st'
    exact ⟨u, rfl, go_of (s := { s with heap := h' }) e c d (by decide) ⟨x, H, I1, ru, ⟨rfl, fun ys hy => by rw [I.list_inj hy hq]; exact hx⟩, st', fun b hb => (hf b hb).1⟩⟩
  done := by
    intro X hP hw hK hc i pins s σ H E I hf st hg
    subst hP hw hK
    obtain ⟨xs, hq, hx⟩ := hg
    obtain ⟨its, rv, p, hz⟩ := I.list hq
    obtain ⟨f0, f1, f2, f3, f4, f5⟩ := hf it (by simp)
    have hl := rv.length
    exact wpAny_pyNext_list_end (I.ok.hd hc) st p.isList (by simp; lia) fun h' eb => ⟨rfl, I.turned (t' := s.toks) (fun b o hb e => eb b o hb e) f0 f1 f3 f4 f5⟩
  self := fun _ _ _ _ _ st h => wpAny_pyIter_listiter st h
theorem turn_range {P : Program} {w : World} {K : PySem.W.Frag} {tg : Expr} (it : Addr) (lo : Int) (n : Nat) : Turn P w K tg (Itr lo n) [it] it (fun i h => IsRangeIter h it (lo + (i : Nat) * 1) ((n : Int) - (i : Nat)) 1) where
  mem := by simp
  obj := fun i h st b hb => by
    have e : b = it := by simpa using hb
    subst e
    exact ⟨_, st, fun v z => by
      have z' : Data.fields _ = Data.cell v := z
      cases z'⟩
  keep := fun i h h' st k => k it (by simp) _ st
  item := by
    intro X hP hw hK hc i pins s σ H E I hf st hg
    subst hP hw hK
    obtain ⟨f0, f1, f2, f3, f4, f5⟩ := hf it (by simp)
    have W := Walks.range (prog := X.prog) (w := X.w) (I.ok.hd hc) it lo 1 n
    refine W.item i s _ _ hg st fun v h' tk hv st' kk => ?_
    obtain ⟨t, rfl⟩ := hv
    have I1 : Inv X pins σ H { s with heap := h', toks := tk } := I.turned (fun b o hb e => kk b o (by simpa using hb) e) f0 f1 f3 f4 f5
    refine ⟨_, rfl, go_of (s := { s with heap := h', toks := tk }) (n := "range_iterator") st' rfl rfl (by decide) ⟨.int (lo + i), H, I1, ⟨t, ?_⟩, ⟨rfl, rfl⟩, st', fun b hb => (hf b hb).1⟩⟩
    rw [Int.mul_one]
  done := by
    intro X hP hw hK hc i pins s σ H E I hf st hg
    subst hP hw hK
    obtain ⟨f0, f1, f2, f3, f4, f5⟩ := hf it (by simp)
    exact wpAny_pyNext_range_end (I.ok.hd hc) st (by have : n ≤ i := hg; lia) fun h' eb => ⟨rfl, I.turned (t' := s.toks) (fun b o hb e => eb b o hb e) f0 f1 f3 f4 f5⟩
  self := fun _ _ _ _ _ st h => wpAny_pyIter_rangeiter st h
end L2

namespace L2
open PySem PySem.Spec PyProof.Rows
section
variable {X : Cx} {tg : Expr}
def iList (K : PySem.W.Frag) (tl : TE) : TI := fun σ H R => tl σ H fun x H1 => ∃ a, x = .ref a ∧ (∃ xs, SqL K H1 a xs) ∧ R (Itl K a) H1
theorem pi_list {l : Expr} {tl : TE} (hl : PE X l tl) : PI X tg l (iList X.K tl) := by
  intro pins s σ H R I h
  refine thn (hl pins s σ H _ I h) ?_
  rintro v s1 ⟨x, H1, I1, r1, q1⟩
  obtain ⟨a, e, ⟨xs, hq⟩, q⟩ := q1
  subst e
  cases r1
  obtain ⟨its, rv, p, hz⟩ := I1.list hq
  refine wpAny_pyIter_list p.isList ?_
  refine ⟨s1.heap.objs.size, [s1.heap.objs.size], _, _, H1, rfl, I1.kept (t' := s1.toks) fun b o e => Heap.get?_push_of_some _ e, turn_list a _, ⟨_, Heap.get?_push_size _ rfl, rfl, rfl⟩, fun b hb => ?_, q⟩
  have e : b = s1.heap.objs.size := by simpa using hb
  subst e
  exact I1.fpOk (Nat.le_refl _) (I1.hok.fresh (Nat.le_refl _))
/-- a range object just made, walked -/
theorem range_it {pins : List (Addr × Obj)} {σ : St} {H : Hp} {s : Shared} {R : It → Hp → Prop} {E : Value → Shared → Prop} {lo hi : Int} {t u v : Tok} {tk : Nat} (I : Inv X pins σ H s) (h1 : -(2 ^ 62) ≤ lo) (h2 : lo < 2 ^ 62) (h3 : -(2 ^ 62) ≤ hi) (h4 : hi < 2 ^ 62)
    (q : R (Itr lo (hi - lo).toNat) H) : wpAny (model X.prog X.w) X.A (pyIter (.ref s.heap.objs.size)) (PIE X pins σ tg R) E { s with heap := s.heap.push { cls := .type "range", data := .fields #[.int lo t, .int hi u, .int 1 v] }, toks := tk } := by
  refine wpAny_pyIter_range (IsRange.new ..) (small_one h1 h2 h3 h4) ?_
  have I1 : Inv X pins σ H { s with heap := s.heap.push { cls := .type "range", data := .fields #[.int lo t, .int hi u, .int 1 v] }, toks := tk } := I.kept fun b o e => Heap.get?_push_of_some _ e
  refine ⟨(s.heap.push { cls := .type "range", data := .fields #[.int lo t, .int hi u, .int 1 v] }).objs.size, [(s.heap.push { cls := .type "range", data := .fields #[.int lo t, .int hi u, .int 1 v] }).objs.size], _, _, H, rfl,
    I1.kept (t' := tk) fun b o e => Heap.get?_push_of_some _ e, turn_range _ lo (hi - lo).toNat, ?_, fun b hb => ?_, q⟩
  · have e1 : lo + ((0 : Nat) : Int) * 1 = lo := by simp
    have e2 : (((hi - lo).toNat : Nat) : Int) - ((0 : Nat) : Int) = Builtin.Range.rangeSize lo hi 1 := by rw [rangeSize_one]; split <;> lia
    show IsRangeIter _ _ (lo + ((0 : Nat) : Int) * 1) ((((hi - lo).toNat : Nat) : Int) - ((0 : Nat) : Int)) 1
    rw [e1, e2]
    exact Heap.get?_push_size _ rfl
  · have e : b = (s.heap.push { cls := .type "range", data := .fields #[.int lo t, .int hi u, .int 1 v] }).objs.size := by simpa using hb
    subst e
    exact I1.fpOk (Nat.le_refl _) (I1.hok.fresh (Nat.le_refl _))
def iRng1 (ta : TA) : TI := fun σ H R => ta σ H fun vs H1 => ∃ j : Int, vs = [.int j] ∧ -(2 ^ 62) ≤ j ∧ j < 2 ^ 62 ∧ R (Itr 0 j.toNat) H1
def iRng2 (ta : TA) : TI := fun σ H R => ta σ H fun vs H1 => ∃ i j : Int, vs = [.int i, .int j] ∧ (-(2 ^ 62) ≤ i ∧ i < 2 ^ 62 ∧ -(2 ^ 62) ≤ j ∧ j < 2 ^ 62) ∧ R (Itr i (j - i).toNat) H1
theorem pi_range1 {a : Expr} {ta : TA} {p pos : Pos} (hg : Gl X "range") (hm : X.mg "range" = none) (ha : PA X [a] ta) (hs : starEach [a] X.env = [(false, eval a X.env)] := by rfl) : PI X tg (.Call (.Name "range" p) [a] [] pos) (iRng1 ta) := by
  intro pins s σ H R I h
  refine Call_ (ld_blt I hg hm boot_range (PyProof.Rows.callWith_type1 (thn (ha pos pins s σ H _ I h) ?_) hs rfl))
  rintro us s1 ⟨vs, H1, I1, r1, q1⟩
  obtain ⟨j, e, q1, q2, q⟩ := q1
  subst e
  cases r1 with
  | cons r rr =>
    cases rr
    obtain ⟨t, rfl⟩ := r
    exact call_range_1 (range_it I1 (by lia) (by lia) q1 q2 (by simpa using q))
theorem pi_range2 {a b : Expr} {ta : TA} {p pos : Pos} (hg : Gl X "range") (hm : X.mg "range" = none) (ha : PA X [a, b] ta) (hs : starEach [a, b] X.env = [(false, eval a X.env), (false, eval b X.env)] := by rfl) (hs2 : starEach [b] X.env = [(false, eval b X.env)] := by rfl) :
    PI X tg (.Call (.Name "range" p) [a, b] [] pos) (iRng2 ta) := by
  intro pins s σ H R I h
  refine Call_ (ld_blt I hg hm boot_range (PyProof.Rows.callWith_type1 (thn (ha pos pins s σ H _ I h) ?_) (by rw [hs, hs2]) (by rw [hs2]; rfl)))
  rintro us s1 ⟨vs, H1, I1, r1, q1⟩
  obtain ⟨i, j, e, ⟨q1, q2, q3, q4⟩, q⟩ := q1
  subst e
  cases r1 with
  | cons r rr =>
    cases rr with
    | cons r' rr =>
      cases rr
      obtain ⟨t, rfl⟩ := r
      obtain ⟨t', rfl⟩ := r'
      exact call_range_2 (range_it I1 q1 q2 q3 q4 q)

/-! ### for -/
/-- W: the invariant by the turn and a measure; N: what the body is to reach -/
def tFor (wi : TI) (g : TG) (tb : TS) : TS := fun D σ H => wi σ H fun J H1 => ∃ W : Nat → Nat → St → Hp → Prop, (∃ m, W 0 m σ H1) ∧ ∀ i m σ H, W i m σ H →
  (J.stop i H ∧ D.nx σ H) ∨ (J.go i H ∧ ∃ N : St → Hp → Prop, (∀ σ' H', N σ' H' → ∃ m', m' < m ∧ W (i + 1) m' σ' H') ∧ ∀ x H', J.yld i H x H' → g x σ H' fun σ2 H2 => tb { D with nx := N, ct := N, bk := D.nx } σ2 H2)
/-- the records at fp as they stand -/
def pinsAt (fp : List Addr) (h : Heap) : List (Addr × Obj) := fp.filterMap fun b => (h.get? b).map fun o => (b, o)
theorem mem_pinsAt {fp : List Addr} {h : Heap} {b : Addr} {o : Obj} (hb : b ∈ fp) (e : h.get? b = some o) : (b, o) ∈ pinsAt fp h := List.mem_filterMap.mpr ⟨b, hb, by rw [e]; rfl⟩
theorem of_pinsAt {fp : List Addr} {h : Heap} {p : Addr × Obj} (hp : p ∈ pinsAt fp h) : p.1 ∈ fp ∧ h.get? p.1 = some p.2 := by
  obtain ⟨b, hb, e⟩ := List.mem_filterMap.mp hp
  cases q : h.get? b with
  | none => rw [q] at e; cases e
  | some o =>
    rw [q] at e
    have e' : (b, o) = p := Option.some.inj e
    subst e'
    exact ⟨hb, q⟩
theorem Inv.pinned {pins : List (Addr × Obj)} {σ : St} {H : Hp} {s : Shared} {fp : List Addr} (I : Inv X pins σ H s) (hf : ∀ b ∈ fp, FpOk X pins H b) (ho : ∀ b ∈ fp, ∃ o, s.heap.get? b = some o ∧ ∀ v, o.data ≠ .cell v) : Inv X (pins ++ pinsAt fp s.heap) σ H s :=
  I.pins_of fun p hp => (List.mem_append.mp hp).elim (fun z => I.pin p (List.mem_append_right _ z)) fun z => by
    obtain ⟨hb, e⟩ := of_pinsAt z
    obtain ⟨f0, f1, f2, _⟩ := hf p.1 hb
    obtain ⟨o, e', d⟩ := ho p.1 hb
    rw [e] at e'; cases e'
    exact ⟨e, f0, f1, f2, d⟩
theorem Inv.unpinned {pins pl : List (Addr × Obj)} {σ : St} {H : Hp} {s : Shared} (I : Inv X (pins ++ pl) σ H s) : Inv X pins σ H s := I.pins_of fun p hp => I.pin p (List.mem_append_right _ (List.mem_append_left _ hp))
theorem ps_for {iter : Expr} {body : List Stmt} {wi : TI} {g : TG} {tb : TS} {pos : Pos} (hp : PassesOwn (model X.prog X.w) X.A X.env X.xe) (hc : X.calm = true) (hi : PI X tg iter wi) (hg : PG X tg g) (hb : PSs X body tb)
    (hs : ∀ x, foldedSetIterable iter X.env x = pure x := by intro _; rfl) : PS X (.For tg iter body [] pos) (tFor wi g tb) := by
  intro pins s σ H D I h
  refine wpAny_For (thn (hi pins s σ H _ I h) fun v s1 h1 => thn h1 fun itv s2 h2 => ?_) hs
  obtain ⟨it, fp, tn, J, H2, e, I2, T, st2, f2, W, ⟨m0, w0⟩, turn⟩ := h2
  subst e
  -- what stays true of the iterator's objects through the loop
  have stat : ∀ {H' : Hp}, (∀ b ∈ fp, H' b = none) → ∀ b ∈ fp, FpOk X pins H' b := fun hn b hb => ⟨hn b hb, (f2 b hb).2⟩
  refine codeAny_forLoop_any (fun n s' => ∃ i σ' H', Inv X pins σ' H' s' ∧ tn i s'.heap ∧ (∀ b ∈ fp, H' b = none) ∧ W i n σ' H') ?_ m0 ⟨0, σ, H2, I2, st2, fun b hb => (f2 b hb).1, w0⟩
  rintro n s3 ⟨i, σ3, H3, I3, st3, fr3, w3⟩
  rcases turn i n σ3 H3 w3 with ⟨stop, qn⟩ | ⟨go, N, hN, step⟩
  · refine wpAny_passesOwn hp (thn (T.done X rfl rfl rfl hc i pins s3 σ3 H3 X.xe I3 (stat fr3) st3 stop) ?_)
    rintro r s4 ⟨hr, I4⟩
    subst hr
    exact wpAny_execs_nil ⟨σ3, H3, I4, qn⟩
  · refine wpAny_passesOwn hp (thn (T.item X rfl rfl rfl hc i pins s3 σ3 H3 X.xe I3 (stat fr3) st3 go) ?_)
    rintro r s4 ⟨u, hr, h4⟩
    subst hr
    refine wpAny_passesOwn hp (thn h4 ?_)
    rintro _ s5 ⟨x, H5, I5, r5, y5, st5, fr5⟩
    have I5' := I5.pinned (stat fr5) (T.obj _ _ st5)
    refine wpAny_passesOwn hp (thn (hg _ s5 σ3 H5 x u _ I5' r5 (step x H5 y5)) ?_)
    rintro _ s6 ⟨σ6, H6, I6, q6⟩
    refine wpAny_passesOwn hp (thn (hb _ s6 σ6 H6 _ I6 q6) fun f s7 q7 => ?_)
    have again : ∀ {σ7 : St} {H7 : Hp}, Inv X (pins ++ pinsAt fp s5.heap) σ7 H7 s7 → N σ7 H7 → ∃ m, m < n ∧ ∃ i σ' H', Inv X pins σ' H' s7 ∧ tn i s7.heap ∧ (∀ b ∈ fp, H' b = none) ∧ W i m σ' H' := fun {σ7 H7} I7 n7 => by
      obtain ⟨m', hm, w7⟩ := hN σ7 H7 n7
      refine ⟨m', hm, i + 1, σ7, H7, I7.unpinned, T.keep _ _ _ st5 fun b hb o e => (I7.pin (b, o) (List.mem_append_right _ (List.mem_append_right _ (mem_pinsAt hb e)))).1, fun b hb => ?_, w7⟩
      obtain ⟨o, e, d⟩ := T.obj _ _ st5 b hb
      exact (I7.pin (b, o) (List.mem_append_right _ (List.mem_append_right _ (mem_pinsAt hb e)))).2.1
    cases f with
    | next => obtain ⟨σ7, H7, I7, n7⟩ := q7; exact again I7 n7
    | cont => obtain ⟨σ7, H7, I7, n7⟩ := q7; exact again I7 n7
    | brk => obtain ⟨σ7, H7, I7, q7⟩ := q7; exact ⟨σ7, H7, I7.unpinned, q7⟩
    | ret v => obtain ⟨x7, σ7, H7, I7, r7, q7⟩ := q7; exact ⟨x7, σ7, H7, I7.unpinned, r7, q7⟩
end

/-! ### the forms one uses -/
/-- over a list that the body leaves as it is -/
theorem for_list {K : PySem.W.Frag} {a : Addr} {xs : List V} {g : TG} {tb : TS} {D : Ends} {σ : St} {H : Hp} (Pv : Nat → St → Hp → Prop) (h0 : Pv 0 σ H) (hl : ∀ i σ H, i ≤ xs.length → Pv i σ H → SqL K H a xs)
    (hs : ∀ i x σ H, xs[i]? = some x → Pv i σ H → g x σ H fun σ2 H2 => tb { D with nx := Pv (i + 1), ct := Pv (i + 1), bk := D.nx } σ2 H2) (hd : ∀ σ H, Pv xs.length σ H → D.nx σ H) :
    ∃ W : Nat → Nat → St → Hp → Prop, (∃ m, W 0 m σ H) ∧ ∀ i m σ H, W i m σ H →
      ((Itl K a).stop i H ∧ D.nx σ H) ∨ ((Itl K a).go i H ∧ ∃ N : St → Hp → Prop, (∀ σ' H', N σ' H' → ∃ m', m' < m ∧ W (i + 1) m' σ' H') ∧ ∀ x H', (Itl K a).yld i H x H' → g x σ H' fun σ2 H2 => tb { D with nx := N, ct := N, bk := D.nx } σ2 H2) := by
  refine ⟨fun i m σ H => m = xs.length - i ∧ i ≤ xs.length ∧ Pv i σ H, ⟨xs.length, by simp, Nat.zero_le _, h0⟩, ?_⟩
  rintro i m σ H ⟨rfl, hi, p⟩
  have q := hl i σ H hi p
  by_cases hlt : i < xs.length
  · refine .inr ⟨⟨xs, xs[i], q, by simp [hlt]⟩, Pv (i + 1), fun σ' H' p' => ⟨xs.length - (i + 1), by lia, rfl, hlt, p'⟩, fun x H' y => ?_⟩
    obtain ⟨e, y⟩ := y
    subst e
    exact hs i x σ _ (y xs q) p
  · have e : i = xs.length := by lia
    subst e
    exact .inl ⟨⟨xs, q, Nat.le_refl _⟩, hd σ H p⟩
theorem for_range {lo : Int} {n : Nat} {g : TG} {tb : TS} {D : Ends} {σ : St} {H : Hp} (Pv : Nat → St → Hp → Prop) (h0 : Pv 0 σ H)
    (hs : ∀ i σ H, i < n → Pv i σ H → g (.int (lo + i)) σ H fun σ2 H2 => tb { D with nx := Pv (i + 1), ct := Pv (i + 1), bk := D.nx } σ2 H2) (hd : ∀ σ H, Pv n σ H → D.nx σ H) :
    ∃ W : Nat → Nat → St → Hp → Prop, (∃ m, W 0 m σ H) ∧ ∀ i m σ H, W i m σ H →
      ((Itr lo n).stop i H ∧ D.nx σ H) ∨ ((Itr lo n).go i H ∧ ∃ N : St → Hp → Prop, (∀ σ' H', N σ' H' → ∃ m', m' < m ∧ W (i + 1) m' σ' H') ∧ ∀ x H', (Itr lo n).yld i H x H' → g x σ H' fun σ2 H2 => tb { D with nx := N, ct := N, bk := D.nx } σ2 H2) := by
  refine ⟨fun i m σ H => m = n - i ∧ i ≤ n ∧ Pv i σ H, ⟨n, by simp, Nat.zero_le _, h0⟩, ?_⟩
  rintro i m σ H ⟨rfl, hi, p⟩
  by_cases hlt : i < n
  · refine .inr ⟨hlt, Pv (i + 1), fun σ' H' p' => ⟨n - (i + 1), by lia, rfl, hlt, p'⟩, fun x H' y => ?_⟩
    obtain ⟨e, y⟩ := y
    subst e y
    exact hs i σ _ hlt p
  · have e : i = n := by lia
    subst e
    exact .inl ⟨Nat.le_refl _, hd σ H p⟩
end L2

namespace L2
open PySem PySem.Spec PyProof.Rows

abbrev R2 := V → V → Hp → VK → Prop
/-- a two-place operation on values: f is binaryOp op, inplaceOp op or compareOp op -/
def OpR (X : Cx) (f : Value → Value → Sem Value) (r : R2) : Prop :=
  ∀ (pins : List (Addr × Obj)) (s : Shared) (σ : St) (H : Hp) (x y : V) (v u : Value) (Q : VK), Inv X pins σ H s → RelV x v → RelV y u → r x y H Q →
    wpAny (model X.prog X.w) X.A (f v u) (EP X pins σ Q) X.xe s
/-- a one-place operation -/
def UnR (X : Cx) (f : Value → Sem Value) (r : V → Hp → VK → Prop) : Prop :=
  ∀ (pins : List (Addr × Obj)) (s : Shared) (σ : St) (H : Hp) (x : V) (v : Value) (Q : VK), Inv X pins σ H s → RelV x v → r x H Q →
    wpAny (model X.prog X.w) X.A (f v) (EP X pins σ Q) X.xe s
/-- a call of a value that is known (a builtin, a type) with values -/
def CallR (X : Cx) (f : Value) (r : List V → Hp → VK → Prop) : Prop :=
  ∀ (pins : List (Addr × Obj)) (s : Shared) (σ : St) (H : Hp) (xs : List V) (us : List Value) (Q : VK), Inv X pins σ H s → Vals xs us → r xs H Q →
    wpAny (model X.prog X.w) X.A (call f us) (EP X pins σ Q) X.xe s

def tOp (r : R2) (ta tb : TE) : TE := fun σ H Q => ta σ H fun x H1 => tb σ H1 fun y H2 => r x y H2 Q
def tUn (r : V → Hp → VK → Prop) (ta : TE) : TE := fun σ H Q => ta σ H fun x H1 => r x H1 Q
/-- ints in, under C, and a value out -/
def rI (C : Int → Int → Prop) (g : Int → Int → V) : R2 := fun x y H Q => ∃ i j, x = .int i ∧ y = .int j ∧ C i j ∧ Q (g i j) H
def rI0 (g : Int → Int → V) : R2 := fun x y H Q => ∃ i j, x = .int i ∧ y = .int j ∧ Q (g i j) H
def rU (g : Int → V) : V → Hp → VK → Prop := fun x H Q => ∃ i, x = .int i ∧ Q (g i) H

section
variable {X : Cx} {a b c : Expr} {ta tb tc : TE} {pos : Pos}

theorem binT (ha : PE X a ta) (hb : PE X b tb) {pins : List (Addr × Obj)} {s : Shared} {σ : St} {H : Hp} {R : V → V → Hp → Prop} (I : Inv X pins σ H s)
    (h : ta σ H fun x H1 => tb σ H1 fun y H2 => R x y H2) {Q : Value → Shared → Prop} {f : Value → Value → Sem Value}
    (hf : ∀ v u s2 x y H2, Inv X pins σ H2 s2 → RelV x v → RelV y u → R x y H2 → wpAny (model X.prog X.w) X.A (f v u) Q X.xe s2) :
    wpAny (model X.prog X.w) X.A (eval a X.env) (fun v s₁ => wpAny (model X.prog X.w) X.A (eval b X.env) (fun u s₂ => wpAny (model X.prog X.w) X.A (f v u) Q X.xe s₂) X.xe s₁) X.xe s := by
  refine thn (ha pins s σ H _ I h) ?_
  rintro v s1 ⟨x, H1, I1, r1, q1⟩
  refine thn (hb pins s1 σ H1 _ I1 q1) ?_
  rintro u s2 ⟨y, H2, I2, r2, q2⟩
  exact hf v u s2 x y H2 I2 r1 r2 q2

theorem pe_op {op : Operator} {r : R2} (ho : OpR X (binaryOp op) r) (ha : PE X a ta) (hb : PE X b tb) : PE X (.BinOp a op b pos) (tOp r ta tb) := by
  intro pins s σ H Q I h
  exact wpAny_BinOp (binT ha hb I h fun v u s2 x y H2 I2 rx ry q => ho pins s2 σ H2 x y v u Q I2 rx ry q)
theorem pe_un {op : UnaryOp} {r : V → Hp → VK → Prop} (ho : UnR X (unaryOp op) r) (ha : PE X a ta) : PE X (.UnaryOp op a pos) (tUn r ta) := by
  intro pins s σ H Q I h
  refine UnaryOp_ (thn (ha pins s σ H _ I h) ?_)
  rintro v s1 ⟨x, H1, I1, r1, q1⟩
  exact ho pins s1 σ H1 x v Q I1 r1 q1

/-! ### ints -/
theorem opI {f : Value → Value → Sem Value} {C : Int → Int → Prop} {g : Int → Int → Int}
    (rule : ∀ (i j : Int) (t u : Tok) (s : Shared) (Q : Value → Shared → Prop) (E : Value → Shared → Prop), C i j → Q (.int (g i j) s.toks) { s with toks := s.toks + 1 } → wpAny (model X.prog X.w) X.A (f (.int i t) (.int j u)) Q E s) :
    OpR X f (rI C fun i j => .int (g i j)) := by
  intro pins s σ H x y v u Q I rx ry h
  obtain ⟨i, j, rfl, rfl, hc, q⟩ := h
  obtain ⟨t, rfl⟩ := rx
  obtain ⟨t', rfl⟩ := ry
  exact rule i j t t' s _ _ hc ⟨.int (g i j), H, I.tok _, ⟨_, rfl⟩, q⟩
theorem opI0 {f : Value → Value → Sem Value} {g : Int → Int → Int}
    (rule : ∀ (i j : Int) (t u : Tok) (s : Shared) (Q : Value → Shared → Prop) (E : Value → Shared → Prop), Q (.int (g i j) s.toks) { s with toks := s.toks + 1 } → wpAny (model X.prog X.w) X.A (f (.int i t) (.int j u)) Q E s) :
    OpR X f (rI0 fun i j => .int (g i j)) := by
  intro pins s σ H x y v u Q I rx ry h
  obtain ⟨i, j, rfl, rfl, q⟩ := h
  obtain ⟨t, rfl⟩ := rx
  obtain ⟨t', rfl⟩ := ry
  exact rule i j t t' s _ _ ⟨.int (g i j), H, I.tok _, ⟨_, rfl⟩, q⟩
theorem opB0 {f : Value → Value → Sem Value} {g : Int → Int → Bool}
    (rule : ∀ (i j : Int) (t u : Tok) (s : Shared) (Q : Value → Shared → Prop) (E : Value → Shared → Prop), Q (.bool (g i j)) s → wpAny (model X.prog X.w) X.A (f (.int i t) (.int j u)) Q E s) :
    OpR X f (rI0 fun i j => .bl (g i j)) := by
  intro pins s σ H x y v u Q I rx ry h
  obtain ⟨i, j, rfl, rfl, q⟩ := h
  obtain ⟨t, rfl⟩ := rx
  obtain ⟨t', rfl⟩ := ry
  exact rule i j t t' s _ _ ⟨.bl (g i j), H, I, rfl, q⟩

def CDiv (i j : Int) : Prop := 0 < j ∧ j < 1073741824
def CPow (i j : Int) : Prop := 0 ≤ j ∧ j ≤ 1000000 ∧ i.natAbs < 2 ^ 64
def CMul (i j : Int) : Prop := (-(2 ^ 64) < i ∧ i < 2 ^ 64) ∨ (-(2 ^ 64) < j ∧ j < 2 ^ 64)
theorem CMul.ok {i j : Int} (h : CMul i j) : IntMulOk i j := by
  rcases h with ⟨h1, h2⟩ | ⟨h1, h2⟩
  · exact .of_left (intBits_le_64 h1 h2)
  · exact .of_right (intBits_le_64 h1 h2)

theorem op_add : OpR X (binaryOp .Add) (rI0 fun i j => .int (i + j)) := opI0 fun _ _ _ _ _ _ _ q => add_int q
theorem op_sub : OpR X (binaryOp .Sub) (rI0 fun i j => .int (i - j)) := opI0 fun _ _ _ _ _ _ _ q => sub_int q
theorem op_mul : OpR X (binaryOp .Mult) (rI CMul fun i j => .int (i * j)) := opI fun _ _ _ _ _ _ _ hc q => mul_int q hc.ok
/-- // by a positive divisor -/
theorem op_fdiv : OpR X (binaryOp .FloorDiv) (rI CDiv fun i j => .int (i / j)) := opI fun i j _ _ _ _ _ hc q => by
  have h1 : (0 : Int) < j := hc.1
  have h2 : j < 1073741824 := hc.2
  exact floordiv_int (by lia) (by rw [Int.fdiv_eq_ediv_of_nonneg i (by lia)]; exact q) (.inl (PyProof.noPylong_small (by lia)))
/-- % by a positive divisor of any size -/
theorem op_mod : OpR X (binaryOp .Mod) (rI (fun _ j => 0 < j) fun i j => .int (i % j)) := opI fun i j _ _ _ _ _ hc q => by
  have h1 : (0 : Int) < j := hc
  exact mod_int' (by lia) (by rw [Int.fmod_eq_emod_of_nonneg i (by lia)]; exact q)
theorem op_pow : OpR X (binaryOp .Pow) (rI CPow fun i j => .int (i ^ j.toNat)) := opI fun _ _ _ _ _ _ _ hc q => pow_int_small hc.1 hc.2.1 hc.2.2 q


theorem unI {f : Value → Sem Value} {g : Int → Int}
    (rule : ∀ (i : Int) (t : Tok) (s : Shared) (Q : Value → Shared → Prop) (E : Value → Shared → Prop), Q (.int (g i) s.toks) { s with toks := s.toks + 1 } → wpAny (model X.prog X.w) X.A (f (.int i t)) Q E s) :
    UnR X f (rU fun i => .int (g i)) := by
  intro pins s σ H x v Q I rx h
  obtain ⟨i, rfl, q⟩ := h
  obtain ⟨t, rfl⟩ := rx
  exact rule i t s _ _ ⟨.int (g i), H, I.tok _, ⟨_, rfl⟩, q⟩
theorem un_neg : UnR X (unaryOp .USub) (rU fun i => .int (-i)) := unI fun _ _ _ _ _ q => neg_int q

/-! ### bools among ints: n += (a < b) -/
end

/-! ### comparisons -/
/-- the scalars that == tells apart as data does -/
def scal : V → V → Bool
  | .non, .non => true | .non, .int _ => true | .int _, .non => true | .non, .bl _ => true | .bl _, .non => true | .non, .str _ => true | .str _, .non => true
  | .int _, .int _ => true | .bl _, .bl _ => true | .str _, .str _ => true | .byt _, .byt _ => true
  | .int _, .str _ => true | .str _, .int _ => true | .bl _, .str _ => true | .str _, .bl _ => true
  | _, _ => false
def rEq : R2 := fun x y H Q => scal x y = true ∧ Q (.bl (decide (x = y))) H
def rNe : R2 := fun x y H Q => scal x y = true ∧ Q (.bl (!decide (x = y))) H

theorem dec_int {i j : Int} : decide (V.int i = V.int j) = (i == j) := by
  rw [Bool.eq_iff_iff]
  simp
theorem dec_bl {i j : Bool} : decide (V.bl i = V.bl j) = (i == j) := by
  rw [Bool.eq_iff_iff]
  simp
theorem dec_str {i j : Str} : decide (V.str i = V.str j) = (i == j) := by
  rw [Bool.eq_iff_iff]
  simp
theorem dec_byt {i j : Array UInt8} : decide (V.byt i = V.byt j) = (i.toList == j.toList) := by
  rw [Bool.eq_iff_iff]
  cases i
  cases j
  simp

section
variable {X : Cx} {a b c : Expr} {ta tb tc : TE} {pos : Pos}
theorem fin_bl {pins : List (Addr × Obj)} {σ : St} {H : Hp} {s : Shared} {Q : VK} {k k' : Bool} (I : Inv X pins σ H s) (q : Q (.bl k) H) (e : k = k') : EP X pins σ Q (.bool k') s := by
  subst e
  exact ⟨.bl k, H, I, rfl, q⟩
theorem op_eq : OpR X (compareOp .Eq) rEq := by
  intro pins s σ H x y v u Q I rx ry h
  obtain ⟨hs, q⟩ := h
  cases x with
  | non =>
    cases rx
    cases y with
    | non => cases ry; exact PySem.EqNone.eq_none_none (fin_bl I q (by simp))
    | bl j => cases ry; exact PySem.EqNone.eq_none_bool (fin_bl I q (by simp))
    | int j => obtain ⟨t', rfl⟩ := ry; exact PySem.EqNone.eq_none_int (fin_bl I q (by simp))
    | str j => obtain ⟨t', rfl⟩ := ry; exact PySem.EqNone.eq_none_str (fin_bl I q (by simp))
    | _ => exact absurd (show false = true from hs) Bool.false_ne_true
  | bl i =>
    cases rx
    cases y with
    | non => cases ry; exact PySem.EqNone.eq_bool_none (fin_bl I q (by simp))
    | bl j => cases ry; exact eq_bool (fin_bl I q dec_bl)
    | str j => obtain ⟨t', rfl⟩ := ry; exact PySem.EqMixed.eq_bool_str (fin_bl I q (by simp))
    | _ => exact absurd (show false = true from hs) Bool.false_ne_true
  | int i =>
    obtain ⟨t, rfl⟩ := rx
    cases y with
    | non => cases ry; exact PySem.EqNone.eq_int_none (fin_bl I q (by simp))
    | int j => obtain ⟨t', rfl⟩ := ry; exact eq_int (fin_bl I q dec_int)
    | str j => obtain ⟨t', rfl⟩ := ry; exact PySem.EqMixed.eq_int_str (fin_bl I q (by simp))
    | _ => exact absurd (show false = true from hs) Bool.false_ne_true
  | str i =>
    obtain ⟨t, rfl⟩ := rx
    cases y with
    | non => cases ry; exact PySem.EqNone.eq_str_none (fin_bl I q (by simp))
    | bl j => cases ry; exact PySem.EqMixed.eq_str_bool (fin_bl I q (by simp))
    | int j => obtain ⟨t', rfl⟩ := ry; exact PySem.EqMixed.eq_str_int (fin_bl I q (by simp))
    | str j => obtain ⟨t', rfl⟩ := ry; exact eq_str (fin_bl I q dec_str)
    | _ => exact absurd (show false = true from hs) Bool.false_ne_true
  | byt i =>
    obtain ⟨t, rfl⟩ := rx
    cases y with
    | byt j => obtain ⟨t', rfl⟩ := ry; exact PySem.W.eq_bytes (fin_bl I q dec_byt)
    | _ => exact absurd (show false = true from hs) Bool.false_ne_true
  | _ => cases y <;> exact absurd (show false = true from hs) Bool.false_ne_true
theorem op_ne : OpR X (compareOp .NotEq) rNe := by
  intro pins s σ H x y v u Q I rx ry h
  obtain ⟨hs, q⟩ := h
  cases x with
  | non =>
    cases rx
    cases y with
    | non => cases ry; exact PySem.EqNone.ne_none_none (fin_bl I q (by simp))
    | bl j => cases ry; exact PySem.EqNone.ne_none_bool (fin_bl I q (by simp))
    | int j => obtain ⟨t', rfl⟩ := ry; exact PySem.EqNone.ne_none_int (fin_bl I q (by simp))
    | str j => obtain ⟨t', rfl⟩ := ry; exact PySem.EqNone.ne_none_str (fin_bl I q (by simp))
    | _ => exact absurd (show false = true from hs) Bool.false_ne_true
  | bl i =>
    cases rx
    cases y with
    | non => cases ry; exact PySem.EqNone.ne_bool_none (fin_bl I q (by simp))
    | bl j => cases ry; exact ne_bool (fin_bl I q (congrArg not dec_bl))
    | str j => obtain ⟨t', rfl⟩ := ry; exact PySem.EqMixed.ne_bool_str (fin_bl I q (by simp))
    | _ => exact absurd (show false = true from hs) Bool.false_ne_true
  | int i =>
    obtain ⟨t, rfl⟩ := rx
    cases y with
    | non => cases ry; exact PySem.EqNone.ne_int_none (fin_bl I q (by simp))
    | int j => obtain ⟨t', rfl⟩ := ry; exact ne_int (fin_bl I q (congrArg not dec_int))
    | str j => obtain ⟨t', rfl⟩ := ry; exact PySem.EqMixed.ne_int_str (fin_bl I q (by simp))
    | _ => exact absurd (show false = true from hs) Bool.false_ne_true
  | str i =>
    obtain ⟨t, rfl⟩ := rx
    cases y with
    | non => cases ry; exact PySem.EqNone.ne_str_none (fin_bl I q (by simp))
    | bl j => cases ry; exact PySem.EqMixed.ne_str_bool (fin_bl I q (by simp))
    | int j => obtain ⟨t', rfl⟩ := ry; exact PySem.EqMixed.ne_str_int (fin_bl I q (by simp))
    | str j => obtain ⟨t', rfl⟩ := ry; exact ne_str (fin_bl I q (congrArg not dec_str))
    | _ => exact absurd (show false = true from hs) Bool.false_ne_true
  | byt i =>
    obtain ⟨t, rfl⟩ := rx
    cases y with
    | byt j => obtain ⟨t', rfl⟩ := ry; exact PySem.W.ne_bytes (fin_bl I q (congrArg not dec_byt))
    | _ => exact absurd (show false = true from hs) Bool.false_ne_true
  | _ => cases y <;> exact absurd (show false = true from hs) Bool.false_ne_true

theorem op_lt : OpR X (compareOp .Lt) (rI0 fun i j => .bl (decide (i < j))) := opB0 fun _ _ _ _ _ _ _ q => lt_int q
theorem op_gt : OpR X (compareOp .Gt) (rI0 fun i j => .bl (decide (j < i))) := opB0 fun _ _ _ _ _ _ _ q => gt_int q
theorem op_ge : OpR X (compareOp .GtE) (rI0 fun i j => .bl (decide (j ≤ i))) := opB0 fun _ _ _ _ _ _ _ q => ge_int q

/-- is None, is not None: the right side a value none -/
theorem op_isN : OpR X (compareOp .Is) (fun x y H Q => y = .non ∧ Q (.bl (decide (x = .non))) H) := by
  intro pins s σ H x y v u Q I rx ry h
  obtain ⟨rfl, q⟩ := h
  cases ry
  refine is_none_gen (fin_bl I q ?_)
  cases x <;> first
    | (cases rx; rfl)
    | (obtain ⟨t, rfl⟩ := rx; rfl)
theorem op_notN : OpR X (compareOp .IsNot) (fun x y H Q => y = .non ∧ Q (.bl (!decide (x = .non))) H) := by
  intro pins s σ H x y v u Q I rx ry h
  obtain ⟨rfl, q⟩ := h
  cases ry
  refine isnot_none_gen (fin_bl I q ?_)
  cases x <;> first
    | (cases rx; rfl)
    | (obtain ⟨t, rfl⟩ := rx; rfl)



theorem nomark (b : Expr) {op : CmpOp} (h : op ≠ .In := by decide) (h2 : op ≠ .NotIn := by decide) : behindInMarks op b = false := by
  have e1 : (op == CmpOp.In) = false := by cases op <;> first | rfl | exact absurd rfl h
  have e2 : (op == CmpOp.NotIn) = false := by cases op <;> first | rfl | exact absurd rfl h2
  cases b with
  | Set elts k p =>
    show (k == 0 && (op == .In || op == .NotIn) && _) = false
    rw [e1, e2, Bool.or_self, Bool.and_false, Bool.false_and]
  | _ => rfl
/-- a comparison as a value; hm: nomark b, or (for in, not in) by with_unfolding_all rfl -/
theorem pe_cmpR {op : CmpOp} {r : R2} (ho : OpR X (compareOp op) r) (ha : PE X a ta) (hb : PE X b tb) (hm : behindInMarks op b = false) : PE X (.Compare a [op] [b] pos) (tOp r ta tb) := by
  intro pins s σ H Q I h
  exact wpAny_Compare1 (binT ha hb I h fun v u s2 x y H2 I2 rx ry q => ho pins s2 σ H2 x y v u Q I2 rx ry q) hm
/-- a reading of a value as a test -/
def tTest (t : TE) : TT := fun σ H Q => t σ H fun x H' => ∃ k, x = .bl k ∧ Q k H'
theorem pt_cmpR {op : CmpOp} {r : R2} (ho : OpR X (compareOp op) r) (ha : PE X a ta) (hb : PE X b tb) (hm : behindInMarks op b = false) : PT X (.Compare a [op] [b] pos) (tTest (tOp r ta tb)) := by
  intro pins s σ H Q I h
  refine wpAny_isTrue_Compare1 (thn (ha pins s σ H _ I h) ?_) hm
  rintro v s1 ⟨x, H1, I1, r1, q1⟩
  refine thn (hb pins s1 σ H1 _ I1 q1) ?_
  rintro u s2 ⟨y, H2, I2, r2, q2⟩
  refine thn (ho pins s2 σ H2 x y v u _ I2 r1 r2 q2) ?_
  rintro c s3 ⟨z, H3, I3, r3, k, e, q3⟩
  subst e
  cases r3
  exact wpAny_truthy_bool ⟨H3, I3, q3⟩

/-! ### truth -/
theorem line63 : (sizeLine : Nat) < 2 ^ 63 := by rw [sizeLine_eq]; decide

/-! ### strs and bytes -/


/-! ### scalar builtins, by CallR -/
theorem vals1 {x : V} {us : List Value} (r : Vals [x] us) : ∃ u, us = [u] ∧ RelV x u := by
  cases r with
  | cons r1 r2 => cases r2; exact ⟨_, rfl, r1⟩
theorem vals2 {x y : V} {us : List Value} (r : Vals [x, y] us) : ∃ u w', us = [u, w'] ∧ RelV x u ∧ RelV y w' := by
  cases r with
  | cons r1 r2 =>
    cases r2 with
    | cons r3 r4 => cases r4; exact ⟨_, _, rfl, r1, r3⟩
theorem call_abs : CallR X (.builtin "abs") (fun xs H Q => ∃ i, xs = [.int i] ∧ Q (.int (if i < 0 then -i else i)) H) := by
  intro pins s σ H xs us Q I r h
  obtain ⟨i, rfl, q⟩ := h
  obtain ⟨u, rfl, t, rfl⟩ := vals1 r
  exact call_abs_int fun u tk => ⟨.int (if i < 0 then -i else i), H, I.tok _, ⟨_, rfl⟩, q⟩
end
end L2

namespace L2
open PySem PySem.Spec PyProof.Rows

/-! ### an instance, its attributes a map -/
structure ObjM (h : Heap) (x dx C : Addr) (mA : Str → Option Value) : Prop where
  obj : h.get? x = some (PySem.W.instObj C dx)
  ns : h.Ns1 dx mA
  ne : dx ≠ x

theorem lookIn_ns {h : Heap} {dx : Addr} {mA : Str → Option Value} (n : h.Ns1 dx mA) : ∃ od, h.get? dx = some od ∧ ∀ name, PySem.W.lookIn name od = some (mA name) := by
  obtain ⟨o, es, ep, ho, hd, hk, _, hm⟩ := n
  refine ⟨o, ho, fun name => ?_⟩
  have e := hm name
  unfold nsFind findBy at e
  rw [← Array.find?_toList] at e
  unfold PySem.W.lookIn
  rw [hd]
  dsimp only
  split
  · rename_i y q
    rw [q] at e
    exact congrArg some e
  · rename_i q
    rw [q] at e
    have a : es.toList.any (·.refKey) = false := by
      rw [List.any_eq_false]
      intro y hy
      obtain ⟨z, t, hkey⟩ := hk y (Array.mem_toList_iff.mp hy)
      simp [DictEntry.refKey, hkey]
    have a' : ¬ es.toList.any (·.refKey) = true := by rw [a]; exact Bool.false_ne_true
    rw [if_neg a']
    exact congrArg some e

theorem ObjM.look {h : Heap} {x dx C : Addr} {mA : Str → Option Value} (I : ObjM h x dx C mA) : ∃ od, PySem.W.InstAt h x (PySem.W.instObj C dx) C (some od) ∧ ∀ name, PySem.W.lookIn name od = some (mA name) :=
  let ⟨od, ho, hl⟩ := lookIn_ns I.ns
  ⟨od, ⟨I.obj, rfl, rfl, ho⟩, hl⟩

section
variable {prog : Program} {w : World} {A : Around} {E : Value → Shared → Prop} {s : Shared} {K : PySem.W.Frag} {x dx C f : Addr} {mA : Str → Option Value} {name : Str} {v : Value}

theorem get_map {expr : Bool} {Q : Value → Shared → Prop} (X : K.In s.heap) (I : ObjM s.heap x dx C mA) (hg : PySem.W.plainGet K C name = true) (hh : PySem.W.hasDictIn K C = true)
    (ha : PySem.W.findIn K (.ref C) name = some none) (hv : mA name = some v) (hv' : PySem.W.handedIn v = true) (h : Q v { s with toks := s.toks + 1 }) :
    wpAny (model prog w) A (getAttr (.ref x) name expr) Q E s := by
  obtain ⟨od, J, hl⟩ := I.look
  exact PySem.W.get_value X J (PySem.W.plainGet_of hg).1 (PySem.W.findObj_own hh ha rfl (by rw [hl, hv])) hv' h


theorem get_meth {pl : Sem Bool} {Q : Value × List Value → Shared → Prop} (X : K.In s.heap) (I : ObjM s.heap x dx C mA) (hg : PySem.W.plainGet K C name = true)
    (hf : PySem.W.findIn K (.ref C) name = some (some (.ref f))) (ht : PySem.W.isFn K (.ref f) = true) (hv : mA name = none) (h : Q (.ref f, [.ref x]) s) :
    wpAny (model prog w) A (getMethod (.ref x) name pl) Q E s := by
  obtain ⟨od, J, hl⟩ := I.look
  exact PySem.W.method_fn X J (PySem.W.plainGet_of hg).1 (PySem.W.plainGet_of hg).2 hf (beq_iff_eq.mp ht) (by show (PySem.W.lookIn name od).map (·.isSome) = some false; rw [hl, hv]; rfl) h

theorem set_map {ns : List Str} {Q : Unit → Shared → Prop} (X : K.In s.heap) (I : ObjM s.heap x dx C mA)
    (hs : PySem.W.findIn K (.ref C) "__setattr__" = some (some (.builtin "object.__setattr__"))) (hp : PySem.W.plainOver K C = true) (ht : PySem.W.takerIn K C name = some none) (hh : PySem.W.hasDictIn K C = true)
    (hw : PySem.Within mA ns) (hsz : ns.length ≤ sizeLine)
    (h : ∀ h', ObjM h' x dx C (fun y => if y = name then some v else mA y) → Heap.SameBut dx s.heap h' → Q () { s with heap := h', toks := s.toks + 2 }) :
    wpAny (model prog w) A (setAttr (.ref x) name v) Q E s := by
  obtain ⟨od, J, hl⟩ := I.look
  refine PySem.W.set_plain X J hs (PySem.W.osa_open (s := { s with toks := s.toks + 1 }) (r := none) X J hp ht fun b => ?_)
  obtain ⟨cd, hc, hd'⟩ := PySem.W.any_some hh
  have hx : s.heap.get? x = some ⟨.ref C, some dx, .plain, #[]⟩ := I.obj
  refine wpAny_bind (wpAny_pure (wpAny_bind (wpAny_bind (wpAny_loadPart hx (wpAny_bind (PySem.W.Looks.here (s := { s with toks := s.toks + 1 }) (PySem.W.looks_clsIn X hc) ?_))))))
  rw [hd']
  refine wpAny_pure (a := some dx) (wpAny_bind (wpAny_pure (wpAny_bind ?_)))
  refine wpAny_nsSet1 (s := { s with toks := s.toks + 1 }) I.ns fun h' hn2 hs2 => ?_
  obtain ⟨oD, esD, epD, hoD, hdD, hcD⟩ := hn2.count (PySem.Within.cons name v hw)
  refine wpAny_bind (wpAny_lookBehind hoD (by rw [hdD]; exact pastItsLine_dict (Nat.le_trans hcD (by rw [List.length_cons]; lia))) ?_)
  exact wpAny_pure (h _ ⟨(hs2.2 _ (Ne.symm I.ne)).trans I.obj, hn2, I.ne⟩ hs2)

/-- C(..): the dict at the heap's end, the instance behind it; then its __init__ -/
theorem make_map {R : Result → Shared → Prop} {vs : List Value} {kw : List (Str × Value)} (X : K.In s.heap) (hm : PySem.W.makesIn K C = true)
    (hi : PySem.W.findIn K (.ref C) "__init__" = some (some (.ref f))) (hf : PySem.W.typeIn K (.ref f) = some (.type "function"))
    (h : codeAny (model prog w) (A.under (.builtin "type.__call__" ⟨.ref C :: vs, kw⟩)) (.call (.ref f) ⟨.ref (s.heap.objs.size + 1) :: vs, kw⟩) (PySem.W.InitBack (s.heap.objs.size + 1) R)
      { s with heap := (s.heap.push PySem.W.emptyDict).push (PySem.W.instObj C s.heap.objs.size) }) :
    codeAny (model prog w) A (.call (.ref C) ⟨vs, kw⟩) R s := by
  obtain ⟨hh, g, d, t, os⟩ := s
  exact PySem.W.make_core (PySem.W.makes_of X hm) (PySem.W.looks_findIn X hi) (fun self => PySem.W.bind_fn X self hf) (.inl rfl) h
end

/-! ### the attributes as a list of pairs -/
def putF (f : Str) (v : V) : List (Str × V) → List (Str × V)
  | [] => [(f, v)]
  | (g, x) :: r => if g = f then (g, v) :: r else (g, x) :: putF f v r
theorem lookup_putF (f g : Str) (v : V) : ∀ fs : List (Str × V), (putF f v fs).lookup g = if g = f then some v else fs.lookup g
  | [] => by
    show List.lookup g [(f, v)] = _
    by_cases h : g = f
    · have hb : (g == f) = true := beq_iff_eq.mpr h
      simp only [List.lookup, hb, if_pos h]
    · have hb : (g == f) = false := beq_eq_false_iff_ne.mpr h
      simp only [List.lookup, hb, if_neg h]
  | (k, x) :: r => by
    have ih := lookup_putF f g v r
    rw [show putF f v ((k, x) :: r) = (if k = f then (k, v) :: r else (k, x) :: putF f v r) from rfl]
    by_cases hk : k = f
    · rw [if_pos hk]
      by_cases h : g = k
      · have hb : (g == k) = true := beq_iff_eq.mpr h
        simp only [List.lookup, hb, if_pos (h.trans hk)]
      · have hb : (g == k) = false := beq_eq_false_iff_ne.mpr h
        simp only [List.lookup, hb, if_neg (fun e : g = f => h (e.trans hk.symm))]
    · rw [if_neg hk]
      by_cases h : g = k
      · have hb : (g == k) = true := beq_iff_eq.mpr h
        simp only [List.lookup, hb, if_neg (fun e : g = f => hk (h.symm.trans e))]
      · have hb : (g == k) = false := beq_eq_false_iff_ne.mpr h
        simp only [List.lookup, hb]
        exact ih
theorem keys_putF (f : Str) (v : V) : ∀ fs : List (Str × V), f ∈ (putF f v fs).map (·.1) ∧ ∀ g, g ∈ fs.map (·.1) → g ∈ (putF f v fs).map (·.1)
  | [] => ⟨by simp [putF], fun g h => by simp at h⟩
  | (k, x) :: r => by
    obtain ⟨i1, i2⟩ := keys_putF f v r
    rw [show putF f v ((k, x) :: r) = (if k = f then (k, v) :: r else (k, x) :: putF f v r) from rfl]
    by_cases hk : k = f
    · rw [if_pos hk]
      subst hk
      exact ⟨by simp, fun g h => by simpa using h⟩
    · rw [if_neg hk]
      refine ⟨?_, fun g h => ?_⟩
      · rw [List.map_cons]
        exact List.mem_cons_of_mem _ i1
      · rw [List.map_cons] at h ⊢
        rcases List.mem_cons.mp h with e | e
        · exact List.mem_cons.mpr (.inl e)
        · exact List.mem_cons_of_mem _ (i2 g e)
theorem length_putF (f : Str) (v : V) : ∀ fs : List (Str × V), (putF f v fs).length ≤ fs.length + 1
  | [] => by simp [putF]
  | (k, x) :: r => by
    have ih := length_putF f v r
    rw [show putF f v ((k, x) :: r) = (if k = f then (k, v) :: r else (k, x) :: putF f v r) from rfl]
    by_cases hk : k = f
    · rw [if_pos hk, List.length_cons, List.length_cons]; lia
    · rw [if_neg hk, List.length_cons, List.length_cons]; lia

theorem RelO.some_of {v : V} {o : Option Value} (r : RelO (some v) o) : ∃ u, o = some u ∧ RelV v u := by
  cases o with
  | none => exact (show False from r).elim
  | some u => exact ⟨u, rfl, r⟩
theorem RelO.none_of {o : Option Value} (r : RelO none o) : o = none := by
  cases o with
  | none => rfl
  | some u => exact (show False from r).elim
theorem handed_of {v : V} {u : Value} (r : RelV v u) : PySem.W.handedIn u = true := by
  cases v with
  | non => cases (show u = Value.none from r); rfl
  | bl b => cases (show u = Value.bool b from r); rfl
  | int i => obtain ⟨t, e⟩ := (show ∃ t, u = Value.int i t from r); cases e; rfl
  | str x => obtain ⟨t, e⟩ := (show ∃ t, u = Value.str x t from r); cases e; rfl
  | byt b => obtain ⟨t, e⟩ := (show ∃ t, u = Value.bytes b t from r); cases e; rfl
  | flt b => obtain ⟨t, e⟩ := (show ∃ t, u = Value.float b t from r); cases e; rfl
  | ref a => cases (show u = Value.ref a from r); rfl
  | ty n => cases (show u = Value.type n from r); rfl

section
variable {P : Program} {w : World} {H H' : Hp} {h h' : Heap} {a C dx : Addr} {fs fs' : List (Str × V)}
theorem ins_get (hok : HOk P w H h) (e : H a = some (.ins C dx fs)) : ∃ mA, ObjM h a dx C mA ∧ (∀ f, RelO (fs.lookup f) (mA f)) ∧ PySem.Within mA (fs.map (·.1)) ∧ fs.length ≤ 1000 ∧ H dx = some (.own a) := by
  obtain ⟨d, z, ne, ob, mA, n, r, q⟩ := (show ObjOk P w H h a (.ins C dx fs) from hok a _ e)
  exact ⟨mA, ⟨ob, n, ne⟩, r, q, z, d⟩
end

/-! ### what of the text a class must have -/
structure Cls (K : PySem.W.Frag) (C : Addr) : Prop where
  pg : PySem.W.plainGet K C Str.empty = true
  hd : PySem.W.hasDictIn K C = true
  po : PySem.W.plainOver K C = true
  sa : PySem.W.findIn K (.ref C) "__setattr__" = some (some (.builtin "object.__setattr__"))
theorem Cls.get {K : PySem.W.Frag} {C : Addr} (c : Cls K C) (f : Str) : PySem.W.plainGet K C f = true := c.pg
/-- no class of it has the name -/
def NoAttr (K : PySem.W.Frag) (C : Addr) (f : Str) : Prop := PySem.W.findIn K (.ref C) f = some none
theorem NoAttr.taker {K : PySem.W.Frag} {C : Addr} {f : Str} (n : NoAttr K C f) : PySem.W.takerIn K C f = some none := by
  unfold PySem.W.takerIn
  rw [show PySem.W.findIn K (.ref C) f = some none from n]
  rfl
/-- a method: a plain def of the class or of one above it -/
structure Meth (K : PySem.W.Frag) (C : Addr) (m : Str) (f : Addr) : Prop where
  at_ : PySem.W.findIn K (.ref C) m = some (some (.ref f))
  fn : PySem.W.isFn K (.ref f) = true
  kp : PySem.W.keepIn K (.ref f) = true

section
variable {X : Cx} {pins : List (Addr × Obj)} {σ : St} {H : Hp} {s : Shared} {a C dx : Addr} {fs : List (Str × V)} {f : Str} {v : V} {A : Around} {E : Value → Shared → Prop}

theorem getattr_ok {b : Bool} {Q : Value → Shared → Prop} (I : Inv X pins σ H s) (e : H a = some (.ins C dx fs)) (c : Cls X.K C) (n : NoAttr X.K C f) (l : fs.lookup f = some v)
    (h : ∀ u s', Inv X pins σ H s' → RelV v u → Q u s') : wpAny (model X.prog X.w) A (getAttr (.ref a) f b) Q E s := by
  obtain ⟨mA, O, r, _, _, _⟩ := ins_get I.hok e
  obtain ⟨u, hu, ru⟩ := RelO.some_of (v := v) (o := mA f) (by rw [← l]; exact r f)
  exact get_map I.kIn O (c.get f) c.hd n hu (handed_of ru) (h u _ (I.tok _) ru)


theorem getmeth_ok {m : Str} {g : Addr} {pl : Sem Bool} {Q : Value × List Value → Shared → Prop} (I : Inv X pins σ H s) (e : H a = some (.ins C dx fs)) (c : Cls X.K C) (k : Meth X.K C m g) (l : fs.lookup m = none)
    (h : Q (.ref g, [.ref a]) s) : wpAny (model X.prog X.w) A (getMethod (.ref a) m pl) Q E s := by
  obtain ⟨mA, O, r, _, _, _⟩ := ins_get I.hok e
  have hn : mA m = none := RelO.none_of (by rw [← l]; exact r m)
  exact get_meth I.kIn O (c.get m) k.at_ k.fn hn h

theorem setattr_ok {y : V} {u : Value} {Q : Unit → Shared → Prop} (I : Inv X pins σ H s) (e : H a = some (.ins C dx fs)) (c : Cls X.K C) (n : NoAttr X.K C f) (hl : fs.length < 1000) (ry : RelV y u)
    (h : ∀ s', Inv X pins σ (upd H a (.ins C dx (putF f y fs))) s' → Q () s') : wpAny (model X.prog X.w) A (setAttr (.ref a) f u) Q E s := by
  obtain ⟨mA, O, r, wi, _, ho⟩ := ins_get I.hok e
  have hz : (fs.map (·.1)).length ≤ sizeLine := by rw [List.length_map, sizeLine_eq]; lia
  refine set_map I.kIn O c.sa c.po n.taker c.hd wi hz fun h' O' sb => h _ ?_
  have hd : ∃ o, h'.get? dx = some o := let ⟨o, _, _, e', _⟩ := O'.ns; ⟨o, e'⟩
  refine I.write (x := a) (e := dx) (by rw [e]; exact True.intro) (.inr ho) (fun b q hb z => (sb.2 b hb).trans z) hd ?_
  refine ⟨by rw [upd_ne O.ne]; exact ho, ?_, O.ne, O'.obj, _, O'.ns, fun g => ?_, fun g hg => ?_⟩
  · have := length_putF f y fs; lia
  · show RelO ((putF f y fs).lookup g) (if g = f then some u else mA g)
    rw [lookup_putF]
    by_cases q : g = f
    · rw [if_pos q, if_pos q]; exact ry
    · rw [if_neg q, if_neg q]; exact r g
  · by_cases q : g = f
    · rw [q]; exact (keys_putF f y fs).1
    · refine (keys_putF f y fs).2 g (wi g fun z => hg ?_)
      show (if g = f then some u else mA g) = none
      rw [if_neg q]; exact z

/-- a new instance, tracked, without attributes -/
theorem Inv.made (I : Inv X pins σ H s) : Inv X pins σ (upd (upd H s.heap.objs.size (.own (s.heap.objs.size + 1))) (s.heap.objs.size + 1) (.ins C s.heap.objs.size []))
    { s with heap := (s.heap.push PySem.W.emptyDict).push (PySem.W.instObj C s.heap.objs.size) } := by
  have e1 : (s.heap.push PySem.W.emptyDict).get? s.heap.objs.size = some PySem.W.emptyDict := Heap.get?_push_size s.heap rfl
  have e2 : ((s.heap.push PySem.W.emptyDict).push (PySem.W.instObj C s.heap.objs.size)).get? (s.heap.objs.size + 1) = some (PySem.W.instObj C s.heap.objs.size) := by
    have := Heap.get?_push_size (s.heap.push PySem.W.emptyDict) (o := PySem.W.instObj C s.heap.objs.size) rfl
    rwa [Heap.size_push] at this
  have e3 : (s.heap.push PySem.W.emptyDict).Ns s.heap.objs.size (fun _ => none) := ⟨PySem.W.emptyDict, #[], _, e1, rfl, (fun e he => absurd he (by simp)), fun _ => rfl⟩
  have I1 := I.laid (a := s.heap.objs.size) (o := .own (s.heap.objs.size + 1)) (h' := s.heap.push PySem.W.emptyDict) (t' := s.toks) (fun b u q => Heap.get?_push_of_some _ q) (Nat.le_refl _) ⟨_, e1⟩
  refine I1.laid (a := s.heap.objs.size + 1) (o := .ins C s.heap.objs.size []) (t' := s.toks) (fun b u q => Heap.get?_push_of_some _ q) (Nat.le_of_eq (Heap.size_push _ _)) ?_
  have ne : s.heap.objs.size ≠ s.heap.objs.size + 1 := Nat.ne_of_lt (Nat.lt_succ_self _)
  refine ⟨by rw [upd_ne ne, upd_same], Nat.zero_le _, ne, e2, fun _ => none, (Heap.Ns1.of_empty e3).at fun o q => Heap.get?_push_of_some _ q, fun _ => True.intro, fun y hy => absurd rfl hy⟩

/-- e.f where nothing but the object is asked: through attributeBase (super) and the last hold -/
theorem attr_of {prog : Program} {w : World} {env : Env} {e : Expr} {f : Str} {pos : Pos} {s : Shared} {Q : Value → Shared → Prop} (hb : attributeBase e f env (eval e env) = eval e env)
    (h : wpAny (model prog w) A (eval e env) (fun o s₁ => wpAny (model prog w) A (getAttr o f true) Q E s₁) E s) : wpAny (model prog w) A (eval (.Attribute e f pos) env) Q E s :=
  Attribute_any_ h (by rw [arm_eval_Attribute, hb])
end

/-! ### readings and rules -/
/-- e.f, an attribute of the instance -/
def tFld (K : PySem.W.Frag) (ta : TE) (f : Str) : TE := fun σ H Q => ta σ H fun x H1 => ∃ a C dx fs v, x = .ref a ∧ H1 a = some (.ins C dx fs) ∧ Cls K C ∧ NoAttr K C f ∧ fs.lookup f = some v ∧ Q v H1
/-- e.f = value -/
def sFld (K : PySem.W.Frag) (ta tv : TE) (f : Str) : TS := fun D σ H => tv σ H fun y H1 => ta σ H1 fun x H2 => ∃ a C dx fs, x = .ref a ∧ H2 a = some (.ins C dx fs) ∧ Cls K C ∧ NoAttr K C f ∧ fs.length < 1000 ∧
  D.nx σ (upd H2 a (.ins C dx (putF f y fs)))

section
variable {X : Cx} {o e value : Expr} {f : Str} {pos pos' tpos : Pos} {ta tv : TE}
theorem pe_fld (he : PE X e ta) (hb : attributeBase e f X.env (eval e X.env) = eval e X.env) : PE X (.Attribute e f pos) (tFld X.K ta f) := by
  intro pins s σ H Q I h
  refine attr_of hb (thn (he pins s σ H _ I h) ?_)
  rintro u s1 ⟨x, H1, I1, rx, a, C, dx, fs, v, ex, ea, c, n, l, q⟩
  subst ex
  obtain rfl : u = Value.ref a := rx
  exact getattr_ok I1 ea c n l fun u' s2 I2 ru => ⟨v, H1, I2, ru, q⟩
theorem ps_fld (ha : PE X o ta) (hv : PE X value tv) (hs : swapsWith value (some (.Attribute o f pos')) pos.line X.env = pure false) : PS X (.Assign [.Attribute o f pos'] value pos) (sFld X.K ta tv f) := by
  intro pins s σ H D I h
  refine plainObj_wpAny_Assign_Attribute (thn (hv pins s σ H _ I h) ?_) hs
  rintro u s1 ⟨y, H1, I1, ry, q⟩
  refine thn (ha pins s1 σ H1 _ I1 q) ?_
  rintro ov s2 ⟨x, H2, I2, rx, a, C, dx, fs, ex, ea, c, n, l, q2⟩
  subst ex
  obtain rfl : ov = Value.ref a := rx
  exact setattr_ok I2 ea c n l ry fun s3 I3 => ⟨σ, _, I3, q2⟩

end

/-! ### isinstance -/
section
variable {X : Cx} {pins : List (Addr × Obj)} {σ : St} {H : Hp} {s : Shared} {A : Around} {E : Value → Shared → Prop} {Q : Value → Shared → Prop} {c : Value} {b : Bool}
/-- the type of a value, as the fragment's deciders take it; for an instance its class -/
inductive TyOf (K : PySem.W.Frag) (H : Hp) : V → Value → Prop where
  | non : TyOf K H .non (.type "NoneType")
  | bl (x : Bool) : TyOf K H (.bl x) (.type "bool")
  | int (i : Int) : TyOf K H (.int i) (.type "int")
  | str (x : Str) : TyOf K H (.str x) (.type "str")
  | flt (x : UInt64) : TyOf K H (.flt x) (.type "float")
  | lst {a : Addr} {xs : List V} (e : H a = some (.lst xs)) : TyOf K H (.ref a) (.type "list")
  | frz {a : Addr} {o : Obj} {xs : List V} (e : H a = some (.frz o (.lst xs))) : TyOf K H (.ref a) (.type "list")
  | tup {a : Addr} {xs : List V} (e : H a = some (.tup xs)) : TyOf K H (.ref a) (.type "tuple")
  | dK {a : Addr} {kvs : List (Key × V)} (e : H a = some (.dK kvs)) : TyOf K H (.ref a) (.type "dict")
  | dT {a : Addr} {kvs : List (List Key × V)} (e : H a = some (.dT kvs)) : TyOf K H (.ref a) (.type "dict")
  | ins {a C dx : Addr} {fs : List (Str × V)} (e : H a = some (.ins C dx fs)) (cl : Cls K C) (ha : PySem.W.findIn K (.ref C) "__class__" = some (some (.builtin "object.__class__")))
      (hn : PySem.W.specialIn K (.builtin "object.__class__") "__get__" = some (some (.builtin "getset_descriptor.__get__"))) (htk : PySem.W.takesIn K (.builtin "object.__class__") = some true)
      (hm : PySem.W.mroIn K C (.type "object") = some true) : TyOf K H (.ref a) (.ref C)
/-- isinstance(x, c) for one class c, a built-in or an own one: kitOne's answer -/
theorem isinst_ok {x : V} {u t : Value} (I : Inv X pins σ H s) (rx : RelV x u) (ty : TyOf X.K H x t) (e : PySem.W.kitOne X.K t c = some b) (h : ∀ tk, Q (.bool b) { s with toks := tk }) :
    wpAny (model X.prog X.w) A (call (.builtin "isinstance") [u, c]) Q E s := by
  cases ty with
  | non => cases (show u = Value.none from rx); exact PySem.W.kia_one PySem.W.kitx_none I.kIn True.intro e (fun z => nomatch z) h
  | bl y => cases (show u = Value.bool y from rx); exact PySem.W.kia_one PySem.W.kitx_bool I.kIn True.intro e (fun z => nomatch z) h
  | int i => obtain ⟨t, q⟩ := (show ∃ t, u = Value.int i t from rx); cases q; exact PySem.W.kia_one PySem.W.kitx_int I.kIn True.intro e (fun z => nomatch z) h
  | str y => obtain ⟨t, q⟩ := (show ∃ t, u = Value.str y t from rx); cases q; exact PySem.W.kia_one PySem.W.kitx_str I.kIn True.intro e (fun z => nomatch z) h
  | flt y => obtain ⟨t, q⟩ := (show ∃ t, u = Value.float y t from rx); cases q; exact PySem.W.kia_one PySem.W.kitx_float I.kIn True.intro e (fun z => nomatch z) h
  | @lst a xs ea =>
    cases (show u = Value.ref a from rx)
    obtain ⟨_, _, n, _, h1⟩ := (show ObjOk X.prog X.w H s.heap a (.lst xs) from I.hok a _ ea)
    exact PySem.W.kia_one PySem.W.kitx_list I.kIn ⟨_, h1, rfl⟩ e (fun z => nomatch z) h
  | @frz a ob xs ea =>
    cases (show u = Value.ref a from rx)
    obtain ⟨_, _, _, n, _, h1⟩ := (show ObjOk X.prog X.w H s.heap a (.frz ob (.lst xs)) from I.hok a _ ea)
    exact PySem.W.kia_one PySem.W.kitx_list I.kIn ⟨_, h1, rfl⟩ e (fun z => nomatch z) h
  | @tup a xs ea =>
    cases (show u = Value.ref a from rx)
    obtain ⟨_, _, _, p⟩ := (show ObjOk X.prog X.w H s.heap a (.tup xs) from I.hok a _ ea)
    obtain ⟨o, h1, h2, _⟩ := p
    exact PySem.W.kia_one PySem.W.kitx_tuple I.kIn ⟨o, h1, h2⟩ e (fun z => nomatch z) h
  | @dK a kvs ea =>
    cases (show u = Value.ref a from rx)
    obtain ⟨_, _, vs, _, p⟩ := (show ObjOk X.prog X.w H s.heap a (.dK kvs) from I.hok a _ ea)
    obtain ⟨o, es, ep, h1, h2, _⟩ := p
    exact PySem.W.kia_one PySem.W.kitx_dict I.kIn ⟨o, h1, h2.1⟩ e (fun z => nomatch z) h
  | @dT a kvs ea =>
    cases (show u = Value.ref a from rx)
    obtain ⟨_, _, xs, _, o, es, ep, h1, h2, _⟩ := (show ObjOk X.prog X.w H s.heap a (.dT kvs) from I.hok a _ ea)
    exact PySem.W.kia_one PySem.W.kitx_dict I.kIn ⟨o, h1, h2.1⟩ e (fun z => nomatch z) h
  | @ins a C dx fs ea cl ha hn htk hm =>
    cases (show u = Value.ref a from rx)
    obtain ⟨mA, O, _⟩ := ins_get I.hok ea
    obtain ⟨od, J, _⟩ := O.look
    exact PySem.W.kia_one (PySem.W.kitx_own (cl.get _) cl.hd ha hn htk hm) I.kIn J e (fun z => nomatch z) h
end
end L2

namespace L2
open PySem PySem.Spec PyProof.Rows

/-! ### room -/
structure Room (k : Nat) (A : Around) : Prop where
  hd : A.handled = none
  dp : A.depth + 3 * k + 5 < recursionLimit
  un : A.units + 16 * k + 200 < cLine
theorem Room.mono {j k : Nat} {A : Around} (r : Room k A) (h : j ≤ k) : Room j A := ⟨r.hd, by have := r.dp; lia, by have := r.un; lia⟩
theorem Room.deeper {k : Nat} {A : Around} (r : Room (k + 1) A) (env : Env) : Room k (A.deeper env) :=
  ⟨r.hd, by have := r.dp; show A.depth + 1 + 3 * k + 5 < _; lia, by have := r.un; show A.units + 3 + 16 * k + 200 < _; lia⟩
theorem make_depth {A : Around} {C : Addr} {us : List Value} {kw : List (Str × Value)} : (A.under (.builtin "type.__call__" ⟨.ref C :: us, kw⟩)).depth = A.depth + 1 := by
  first | rfl | simp [Around.under, Code.weight, Code.isCreation, Code.isGuard, Code.isCaller, Code.frames, Code.isFrame, guardIds]
theorem make_units {A : Around} {C : Addr} {us : List Value} {kw : List (Str × Value)} : (A.under (.builtin "type.__call__" ⟨.ref C :: us, kw⟩)).units = A.units + 1 := by
  first | rfl | simp [Around.under, Code.cUnits, Code.frames, Code.isFrame]
theorem Room.make {k : Nat} {A : Around} (r : Room (k + 1) A) (C : Addr) (us : List Value) (kw : List (Str × Value)) : Room k (A.under (.builtin "type.__call__" ⟨.ref C :: us, kw⟩)) :=
  ⟨r.hd, by have := r.dp; rw [make_depth]; lia, by have := r.un; rw [make_units]; lia⟩
theorem Room.depth {k : Nat} {A : Around} (r : Room k A) : A.depth < recursionLimit := by have := r.dp; lia
theorem Room.units {k : Nat} {A : Around} (r : Room k A) : A.units + 64 < cLine := by have := r.un; lia

/-! ### argument lists and displays -/
def tNil : TA := fun _ H Q => Q [] H
def tCons (ta : TE) (tr : TA) : TA := fun σ H Q => ta σ H fun x H1 => tr σ H1 fun xs H2 => Q (x :: xs) H2
section
variable {X : Cx} {e : Expr} {es : List Expr} {te : TE} {t : TA} {pos : Pos}
theorem pa_nil : PA X [] tNil := fun _ _ _ _ H Q I h => Calls.spliced_nil ⟨[], H, I, .nil, h⟩
theorem pa_cons (ha : PE X e te) (hr : PA X es t) (hs : starEach (e :: es) X.env = (false, eval e X.env) :: starEach es X.env := by rfl) : PA X (e :: es) (tCons te t) := by
  intro pos pins s σ H Q I h
  rw [hs]
  show wpAny _ _ (spliced ((false, eval e X.env) :: backTo pos (starEach es X.env))) _ _ s
  refine Calls.spliced_cons (thn (ha pins s σ H _ I h) ?_)
  rintro u s1 ⟨x, H1, I1, r1, q1⟩
  refine thn (hr pos pins s1 σ H1 _ I1 q1) ?_
  rintro us s2 ⟨xs, H2, I2, r2, q2⟩
  exact ⟨x :: xs, H2, I2, .cons r1 r2, q2⟩

/-- a tuple, a list of written items -/
def tTup (t : TA) : TE := fun σ H Q => t σ H fun xs H1 => xs.length ≤ sizeLine ∧ ∀ p, H1 p = none → Q (.ref p) (upd H1 p (.tup xs))
def tLst (t : TA) : TE := fun σ H Q => t σ H fun xs H1 => xs.length ≤ sizeLine ∧ ∀ p, H1 p = none → Q (.ref p) (upd H1 p (.lst xs))
theorem pe_tup {x1} (h : PA X es t) : PE X (.Tuple es x1 pos) (tTup t) := by
  intro pins s σ H Q I hq
  refine wpAny_Tuple_spliced (thn (h pos pins s σ H _ I hq) ?_)
  rintro us s1 ⟨xs, H1, I1, r, z, q⟩
  refine ⟨by rw [← r.length]; exact z, ?_⟩
  have hf : H1 s1.heap.objs.size = none := I1.hok.fresh (Nat.le_refl _)
  refine ⟨.ref s1.heap.objs.size, upd H1 s1.heap.objs.size (.tup xs), I1.laid (t' := s1.toks) (fun b u e => Heap.get?_push_of_some _ e) (Nat.le_refl _) ?_, rfl, q _ hf⟩
  exact ⟨z, us, r, TupN.new _ _⟩
theorem pe_lst (h : PA X es t) : PE X (.List es pos) (tLst t) := by
  intro pins s σ H Q I hq
  refine wpAny_List_spliced (thn (h pos pins s σ H _ I hq) ?_)
  rintro us s1 ⟨xs, H1, I1, r, z, q⟩
  refine ⟨by rw [← r.length]; exact z, ?_⟩
  have hf : H1 s1.heap.objs.size = none := I1.hok.fresh (Nat.le_refl _)
  refine ⟨.ref s1.heap.objs.size, upd H1 s1.heap.objs.size (.lst xs), I1.laid (t' := s1.toks) (fun b u e => Heap.get?_push_of_some _ e) (Nat.le_refl _) ?_, rfl, q _ hf⟩
  exact ⟨z, us, 0, r, Heap.get?_push_size _ rfl⟩
end

/-! ### what a def promises -/
/-- a def's promise: the bound arguments in the parameters' order, the heap, the wanted end, the wanted exception -/
abbrev Sp := List V → Hp → VK → XK → Prop
/-- how an exception lies behind a call (file 08 gives it): the callers' frames, abstract heap and state ahead of the call, the wish, the exception, the state -/
abbrev CXT := List Env → Hp → Shared → XK → Value → Shared → Prop

/-- the state at a call -/
structure Env0 (P : Program) (w : World) (K : PySem.W.Frag) (mg : Str → Option Value) (base : Heap) (A : Around) (outer : List Env) (s : Shared) (H : Hp) : Prop where
  frames : A.frames = some outer
  mod : Mod K mg base
  bs : ∀ b o, base.get? b = some o → s.heap.get? b = some o ∧ H b = none
  bsz : base.objs.size ≤ s.heap.objs.size
  funs : s.heap.FunFrames base outer
  frf : ∀ b ∈ frs outer, H b = none
  hok : HOk P w H s.heap
  bare : AllBare s.gens
/-- a call's end -/
def CE (outer : List Env) (P : Program) (w : World) (H : Hp) (s : Shared) (Q : VK) (u : Value) (s' : Shared) : Prop :=
  ∃ v H', s'.os = s.os ∧ AllBare s'.gens ∧ Un (frs outer) [] H H' s.heap s'.heap ∧ HOk P w H' s'.heap ∧ RelV v u ∧ Q v H'
def CR (CX : CXT) (outer : List Env) (P : Program) (w : World) (H : Hp) (s : Shared) (Q : VK) (E : XK) (r : Result) (s' : Shared) : Prop :=
  match r with
  | .ok (.ret u) => CE outer P w H s Q u s'
  | .ok _ => False
  | .error e => CX outer H s E e s'
structure FnOk (P : Program) (w : World) (K : PySem.W.Frag) (mg : Str → Option Value) (base : Heap) (CX : CXT) (k : Nat) (f : Addr) (fd : FuncData) (ps : List Str) (sp : Sp) : Prop where
  len : ∀ vs H Q E, sp vs H Q E → vs.length = ps.length
  run : ∀ (A : Around) (outer : List Env) (s : Shared) (H : Hp) (args : Args) (us : List Value) (vs : List V) (Q : VK) (E : XK), Room k A → Env0 P w K mg base A outer s H → BindsTo s fd args (ps.zip us) → Vals vs us → sp vs H Q E →
    codeAny (model P w) A (.call (.ref f) args) (CR CX outer P w H s Q E) s
theorem FnOk.mono {P : Program} {w : World} {K : PySem.W.Frag} {mg : Str → Option Value} {base : Heap} {CX : CXT} {j k : Nat} {f : Addr} {fd : FuncData} {ps : List Str} {sp : Sp} (F : FnOk P w K mg base CX j f fd ps sp) (h : j ≤ k) :
    FnOk P w K mg base CX k f fd ps sp := ⟨F.len, fun A outer s H args us vs Q E hr => F.run A outer s H args us vs Q E (hr.mono h)⟩

theorem Env0.make {P : Program} {w : World} {K : PySem.W.Frag} {mg : Str → Option Value} {base : Heap} {A : Around} {outer : List Env} {s : Shared} {H : Hp} (e : Env0 P w K mg base A outer s H) (C : Addr) (us : List Value) (kw : List (Str × Value)) :
    Env0 P w K mg base (A.under (.builtin "type.__call__" ⟨.ref C :: us, kw⟩)) outer s H := ⟨by first | exact e.frames | (simpa [Around.under, Code.envs, Code.isFrame, pushEnvs] using e.frames), e.mod, e.bs, e.bsz, e.funs, e.frf, e.hok, e.bare⟩

section
variable {X : Cx} {pins : List (Addr × Obj)} {σ : St} {H : Hp} {s s' : Shared}
/-- from a body: what a callee wants -/
theorem Inv.env0 (I : Inv X pins σ H s) : Env0 X.prog X.w X.K X.mg X.base X.A X.stack s H :=
  ⟨I.ok.frames, I.ok.mod, I.bs, Nat.le_trans I.ok.bsz I.sz, I.stack, I.stkFree, I.hok, I.bare⟩
/-- behind a call -/
theorem Inv.after {Q : VK} {u : Value} (I : Inv X pins σ H s) (h : CE X.stack X.prog X.w H s Q u s') : EP X pins σ Q u s' := by
  obtain ⟨v, H', os, bare, un, hok, r, q⟩ := h
  obtain ⟨hh, g, d, t, os'⟩ := s'
  obtain rfl : os' = s.os := os
  exact ⟨v, H', I.call (h' := hh) (g' := g) (d' := d) (t' := t) (ch := []) un hok bare (fun b z => absurd z (by simp)), r, q⟩
end

/-! ### calls -/
/-- f(..): the written arguments, then the defaults dvs; E: what is wanted of an exception -/
def tCall (sp : Sp) (dvs : List V) (E : XK) (t : TA) : TE := fun σ H Q => t σ H fun vs H1 => sp (vs ++ dvs) H1 Q E
/-- o.m(..) of an instance of the class at C -/
def tMeth (C : Addr) (m : Str) (sp : Sp) (dvs : List V) (E : XK) (ta : TE) (t : TA) : TE := fun σ H Q => ta σ H fun x H1 => ∃ a dx fs, x = .ref a ∧ H1 a = some (.ins C dx fs) ∧ fs.lookup m = none ∧
  t σ H1 fun vs H2 => sp (x :: (vs ++ dvs)) H2 Q E
/-- C(..): a new instance and its dict, then __init__ -/
def tMake (C : Addr) (sp : Sp) (dvs : List V) (E : XK) (t : TA) : TE := fun σ H Q => t σ H fun vs H1 => ∀ x dx, H1 x = none → H1 dx = none → dx ≠ x →
  sp (.ref x :: (vs ++ dvs)) (upd (upd H1 dx (.own x)) x (.ins C dx [])) (fun v H2 => v = .non ∧ Q (.ref x) H2) E

/-- how the parameters are bound: us the positional arguments, kw the keywords' values by name, ds the defaults that fill up -/
def Binds (K : PySem.W.Frag) (fd : FuncData) (ps : List Str) (ds : List Value) : Prop :=
  ∀ (s : Shared) (us : List Value), K.In s.heap → (us ++ ds).length = ps.length → BindsTo s fd ⟨us, []⟩ (ps.zip (us ++ ds))
/-- every parameter is given -/
theorem Binds.all {K : PySem.W.Frag} {fd : FuncData} {ps : List Str} (h : ∀ us : List Value, us.length = ps.length → bindArgs fd ⟨us, []⟩ = pure (ps.zip us)) : Binds K fd ps [] := fun s us _ hl => by
  rw [List.append_nil] at hl ⊢
  exact .of_eq (h us hl)

/-- an exception of a callee reaches what this body wants of exceptions -/
def Passes (CX : CXT) (X : Cx) (E : XK) : Prop := ∀ (pins : List (Addr × Obj)) (σ : St) (H : Hp) (s : Shared) (e : Value) (s' : Shared), Inv X pins σ H s → CX X.stack H s E e s' → X.xe e s'

section
variable {X : Cx} {CX : CXT} {k : Nat} {f C : Addr} {fd : FuncData} {ps : List Str} {sp : Sp} {dvs : List V} {ds : List Value} {E : XK} {x m : Str} {p pos apos : Pos} {e o : Expr} {es : List Expr} {ta : TE} {t : TA}

/-- the callee runs -/
theorem run_fn {pins : List (Addr × Obj)} {σ : St} {H : Hp} {s : Shared} {Q : VK} {us : List Value} {vs : List V} (F : FnOk X.prog X.w X.K X.mg X.base CX k f fd ps sp) (hr : Room k X.A) (hb : Binds X.K fd ps ds) (hd : Vals dvs ds) (hx : Passes CX X E)
    (I : Inv X pins σ H s) (r : Vals vs us) (h : sp (vs ++ dvs) H Q E) : wpAny (model X.prog X.w) X.A (call (.ref f) us) (EP X pins σ Q) X.xe s := by
  have r2 : Vals (vs ++ dvs) (us ++ ds) := r.append hd
  have hl : (us ++ ds).length = ps.length := by rw [← r2.length]; exact F.len _ _ _ _ h
  refine wpAny_call (codeAny_mono (F.run X.A X.stack s H ⟨us, []⟩ (us ++ ds) (vs ++ dvs) Q E hr I.env0 (hb s us I.kIn hl) r2 h) fun r s' hq => ?_)
  cases r with
  | error e => exact hx pins σ H s e s' I hq
  | ok fl =>
    cases fl with
    | ret u => exact I.after hq
    | next => exact False.elim hq
    | brk => exact False.elim hq
    | cont => exact False.elim hq

theorem pe_call (F : FnOk X.prog X.w X.K X.mg X.base CX k f fd ps sp) (hr : Room k X.A) (hg : Gl X x) (hm : X.mg x = some (.ref f)) (hk : PySem.W.keepIn X.K (.ref f) = true) (hb : Binds X.K fd ps ds) (hd : Vals dvs ds) (hx : Passes CX X E)
    (ha : PA X (e :: es) t) (hdb : (x == ("__debug__" : Str)) = false := by decide) (he : starEach (e :: es) X.env = (false, eval e X.env) :: starEach es X.env := by rfl) (hpl : (backTo pos (starEach es X.env)).any (·.1) = false := by rfl) :
    PE X (.Call (.Name x p) (e :: es) [] pos) (tCall sp dvs E t) := by
  intro pins s σ H Q I h
  refine wpAny_Call_Name_kw (ld_glob I hg hm ?_ hdb)
  refine PySem.W.callWith_K (h₀ := X.base) I.ok.mod.kin hk (thn (ha pos pins s σ H _ I h) ?_) he hpl
  rintro us s1 ⟨vs, H1, I1, r, q⟩
  refine ⟨I1.kIn, ?_⟩
  exact run_fn F hr hb hd hx I1 r q

/-- o.m(e, ..) -/
theorem pe_meth {pl : Sem Bool} (he : PE X o ta) (c : Cls X.K C) (hm : Meth X.K C m f) (F : FnOk X.prog X.w X.K X.mg X.base CX k f fd ps sp) (hr : Room k X.A) (hb : Binds X.K fd ps ds) (hd : Vals dvs ds) (hx : Passes CX X E) (ha : PA X (e :: es) t)
    (hst : starEach (e :: es) X.env = (false, eval e X.env) :: starEach es X.env := by rfl) (hpl : (backTo pos (starEach es X.env)).any (·.1) = false := by rfl)
    (ht : eval (.Call (.Attribute o m apos) (e :: es) [] pos) X.env = (do
      let ov ← eval o X.env
      standAt apos.atName
      let (f, first) ← holding [ov] (getMethod ov m pl)
      callWith pos f first (backTo pos (starEach (e :: es) X.env)) (backToKw pos (keywordEach [] X.env))) := by rfl) :
    PE X (.Call (.Attribute o m apos) (e :: es) [] pos) (tMeth C m sp dvs E ta t) := by
  intro pins s σ H Q I h
  refine PySem.W.methodCall_KW (pl := pl) (thn (he pins s σ H _ I h) ?_) ht
  rintro u s1 ⟨x, H1, I1, rx, a, dx, fs, ex, ea, l, q⟩
  subst ex
  obtain rfl : u = Value.ref a := rx
  refine getmeth_ok I1 ea c hm l ?_
  refine PySem.W.callWith_K (first := [.ref a]) (h₀ := X.base) I.ok.mod.kin hm.kp (thn (ha pos pins s1 σ H1 _ I1 q) ?_) hst hpl
  rintro us s2 ⟨vs, H2, I2, r, q2⟩
  refine ⟨I2.kIn, ?_⟩
  exact run_fn (us := .ref a :: us) (vs := .ref a :: vs) F hr hb hd hx I2 (.cons rfl r) q2

/-- what a class must have to be made -/
structure Mk (K : PySem.W.Frag) (C f : Addr) : Prop where
  makes : PySem.W.makesIn K C = true
  init : PySem.W.findIn K (.ref C) "__init__" = some (some (.ref f))
  fn : PySem.W.isFn K (.ref f) = true
  kp : PySem.W.keepIn K (.ref C) = true

theorem run_make {pins : List (Addr × Obj)} {σ : St} {H : Hp} {s : Shared} {Q : VK} {us : List Value} {vs : List V} (M : Mk X.K C f) (F : FnOk X.prog X.w X.K X.mg X.base CX k f fd ps sp) (hr : Room (k + 1) X.A) (hb : Binds X.K fd ps ds) (hd : Vals dvs ds)
    (hx : Passes CX X E) (I : Inv X pins σ H s) (r : Vals vs us)
    (h : ∀ x dx, H x = none → H dx = none → dx ≠ x → sp (.ref x :: (vs ++ dvs)) (upd (upd H dx (.own x)) x (.ins C dx [])) (fun v H2 => v = .non ∧ Q (.ref x) H2) E) :
    wpAny (model X.prog X.w) X.A (call (.ref C) us) (EP X pins σ Q) X.xe s := by
  have hq := h (s.heap.objs.size + 1) s.heap.objs.size (I.hok.fresh (Nat.le_succ _)) (I.hok.fresh (Nat.le_refl _)) (Nat.ne_of_lt (Nat.lt_succ_self _))
  have I2 := Inv.made (C := C) I
  have r2 : Vals (V.ref (s.heap.objs.size + 1) :: (vs ++ dvs)) (Value.ref (s.heap.objs.size + 1) :: (us ++ ds)) := .cons rfl (r.append hd)
  have hl : (Value.ref (s.heap.objs.size + 1) :: us ++ ds).length = ps.length := by
    have e := r2.length
    rw [F.len _ _ _ _ hq] at e
    exact e.symm
  refine wpAny_call (make_map (f := f) I.kIn M.makes M.init (beq_iff_eq.mp M.fn) (codeAny_mono (F.run _ X.stack _ _ ⟨Value.ref (s.heap.objs.size + 1) :: us, []⟩ (Value.ref (s.heap.objs.size + 1) :: (us ++ ds)) _ _ E (hr.make C us [])
    (I2.env0.make C us []) (hb _ (Value.ref (s.heap.objs.size + 1) :: us) I2.kIn hl) r2 hq) fun r s' hq' => ?_))
  cases r with
  | error e => exact hx pins σ _ _ e s' I2 hq'
  | ok fl =>
    cases fl with
    | ret u =>
      obtain ⟨v, H', I3, rv, ev, q3⟩ := I2.after hq'
      subst ev
      exact ⟨rv, ⟨V.ref (s.heap.objs.size + 1), H', I3, rfl, q3⟩⟩
    | next => exact False.elim hq'
    | brk => exact False.elim hq'
    | cont => exact False.elim hq'
theorem pe_make (M : Mk X.K C f) (F : FnOk X.prog X.w X.K X.mg X.base CX k f fd ps sp) (hr : Room (k + 1) X.A) (hg : Gl X x) (hm : X.mg x = some (.ref C)) (hb : Binds X.K fd ps ds) (hd : Vals dvs ds) (hx : Passes CX X E)
    (ha : PA X (e :: es) t) (hdb : (x == ("__debug__" : Str)) = false := by decide) (he : starEach (e :: es) X.env = (false, eval e X.env) :: starEach es X.env := by rfl) (hpl : (backTo pos (starEach es X.env)).any (·.1) = false := by rfl) :
    PE X (.Call (.Name x p) (e :: es) [] pos) (tMake C sp dvs E t) := by
  intro pins s σ H Q I h
  refine wpAny_Call_Name_kw (ld_glob I hg hm ?_ hdb)
  refine PySem.W.callWith_K (h₀ := X.base) I.ok.mod.kin M.kp (thn (ha pos pins s σ H _ I h) ?_) he hpl
  rintro us s1 ⟨vs, H1, I1, r, q⟩
  refine ⟨I1.kIn, ?_⟩
  exact run_make M F hr hb hd hx I1 r q
end

/-! ### keywords -/
section
variable {X : Cx} {CX : CXT} {k : Nat} {f C : Addr} {fd : FuncData} {ps ks : List Str} {sp : Sp} {E : XK} {x m : Str} {p pos apos kpos : Pos} {e o : Expr} {es : List Expr} {kws : List Keyword} {te ta : TE} {t tk : TA} {nm : Option Str}

variable {g : List Value → List Value → List Value} {gV : List V → List V → List V}
end

/-! ### a def's body keeps its promise -/
/-- names: the parameters first -/
structure FnScope (N P : List Str) (sc : Scope) : Prop where
  kind : sc.kind = .function
  co : sc.isCoroutine = false
  gen : sc.isGenerator = false
  nd : N.Nodup
  pre : N.take P.length = P
  par : ∀ x ∈ P, sc.names.lookup x = some .local ∨ sc.names.lookup x = some .cell
  nofree : ∀ y ∈ sc.names, y.2 ≠ .free

theorem bindL_out {kindOf : Str → Option NameKind} {x : Str} : ∀ {binds : List (Str × Value)} {m : Str → Option Value}, (∀ v, (x, v) ∉ binds) → bindL kindOf binds m x = m x
  | [], _, _ => rfl
  | (n, v) :: r, m, h => by
    unfold bindL
    rw [bindL_out fun w hw => h w (List.mem_cons_of_mem _ hw)]
    split
    · have : x ≠ n := by rintro rfl; exact h v List.mem_cons_self
      simp [this]
    · rfl
theorem bindC_out {kindOf : Str → Option NameKind} {x : Str} : ∀ {binds : List (Str × Value)} {m : Str → Option Value}, (∀ v, (x, v) ∉ binds) → bindC kindOf binds m x = m x
  | [], _, _ => rfl
  | (n, v) :: r, m, h => by
    unfold bindC
    rw [bindC_out fun w hw => h w (List.mem_cons_of_mem _ hw)]
    split
    · rfl
    · have : x ≠ n := by rintro rfl; exact h v List.mem_cons_self
      simp [this]
theorem bindL_get {kindOf : Str → Option NameKind} {x : Str} {v : Value} : ∀ {P : List Str} {vs : List Value} {i : Nat} {m : Str → Option Value}, P.Nodup → P[i]? = some x → vs[i]? = some v → kindOf x = some .local →
    bindL kindOf (P.zip vs) m x = some v
  | [], _, _, _, _, h, _, _ => by simp at h
  | _ :: _, [], _, _, _, _, h, _ => by simp at h
  | p :: P, w :: vs, 0, m, nd, h1, h2, hk => by
    simp at h1 h2; subst h1; subst h2
    show bindL kindOf ((p, w) :: P.zip vs) m p = _
    unfold bindL
    rw [bindL_out fun v hv => (List.nodup_cons.mp nd).1 (List.of_mem_zip hv).1, if_pos hk]
    simp
  | p :: P, w :: vs, i + 1, m, nd, h1, h2, hk => by
    show bindL kindOf ((p, w) :: P.zip vs) m x = _
    unfold bindL
    exact bindL_get (i := i) (List.nodup_cons.mp nd).2 (by simpa using h1) (by simpa using h2) hk
theorem bindC_get {kindOf : Str → Option NameKind} {x : Str} {v : Value} : ∀ {P : List Str} {vs : List Value} {i : Nat} {m : Str → Option Value}, P.Nodup → P[i]? = some x → vs[i]? = some v → kindOf x ≠ some .local →
    bindC kindOf (P.zip vs) m x = some v
  | [], _, _, _, _, h, _, _ => by simp at h
  | _ :: _, [], _, _, _, _, h, _ => by simp at h
  | p :: P, w :: vs, 0, m, nd, h1, h2, hk => by
    simp at h1 h2; subst h1; subst h2
    show bindC kindOf ((p, w) :: P.zip vs) m p = _
    unfold bindC
    rw [bindC_out fun v hv => (List.nodup_cons.mp nd).1 (List.of_mem_zip hv).1, if_neg hk]
    simp
  | p :: P, w :: vs, i + 1, m, nd, h1, h2, hk => by
    show bindC kindOf ((p, w) :: P.zip vs) m x = _
    unfold bindC
    exact bindC_get (i := i) (List.nodup_cons.mp nd).2 (by simpa using h1) (by simpa using h2) hk

/-- the names' values at the entry -/
def start (N : List Str) (vs : List V) : St := vs.map some ++ List.replicate (N.length - vs.length) none

/-- the context of a def's body, at its entry; an exception leaves the frame, then lies as CX says -/
def cxOf (CX : CXT) (P : Program) (w : World) (K : PySem.W.Frag) (mg : Str → Option Value) (base : Heap) (N : List Str) (qual : Str) (scope : Scope) (f : Addr) (cd : Value) (A : Around) (outer : List Env) (s : Shared) (H : Hp) (E : XK) : Cx where
  prog := P
  w := w
  K := K
  mg := mg
  base := base
  A := A.deeper (envOfC qual scope s.heap.objs.size f cd)
  N := N
  s₀ := s
  H₀ := H
  env := envOfC qual scope s.heap.objs.size f cd
  outer := outer
  stack := envOfC qual scope s.heap.objs.size f cd :: outer
  ex := []
  calm := true
  fn := fun _ => true
  pn := []
  xe := fun e s' => wpAny (model P w) (A.deeper (envOfC qual scope s.heap.objs.size f cd)) (leaving (envOfC qual scope s.heap.objs.size f cd) e) (fun _ s'' => CX outer H s E e s'') (fun e' s'' => CX outer H s E e' s'') s'

theorem cell_has {sc : Scope} {n : Nat} {x : Str} (h : sc.names.lookup x = some .cell) : ∃ c, (cellsFrom n sc.names []).lookup x = some c := by
  have q := PySem.W.cellsFrom_some sc.names n [] (.inl h)
  exact Option.isSome_iff_exists.mp q

theorem inv_start {CX : CXT} {P : Program} {w : World} {K : PySem.W.Frag} {mg : Str → Option Value} {base : Heap} {N ps : List Str} {qual : Str} {scope : Scope} {f : Addr} {cd : Value} {A : Around} {outer : List Env} {s s1 : Shared} {H : Hp} {E : XK} {us : List Value} {vs : List V}
    (S : FnScope N ps scope) (hd : A.handled = none) (e0 : Env0 P w K mg base A outer s H) (hl : vs.length = ps.length) (r : Vals vs us)
    (x : InCallC s s.heap.objs.size (bindL (envOfC qual scope s.heap.objs.size f cd).kindOf (ps.zip us) fun _ => none) (cellsFrom (s.heap.objs.size + 1) scope.names []) (bindC (envOfC qual scope s.heap.objs.size f cd).kindOf (ps.zip us) fun _ => none) s1) :
    Inv (cxOf CX P w K mg base N qual scope f cd A outer s H E) [] (start N vs) H s1 := by
  have hpl : ps.length ≤ N.length := by have := congrArg List.length S.pre; rw [List.length_take] at this; lia
  obtain ⟨h1, tk, rfl, hk⟩ := x.done
  have noA : ∀ b : Addr, b ∉ (cxOf CX P w K mg base N qual scope f cd A outer s H E).ex := fun b z => absurd (show b ∈ ([] : List Addr) from z) (by simp)
  refine ⟨⟨e0.mod, S.kind, rfl, rfl, Nat.le_refl _, fun y z c h1 h2 => ?_, fun y hy => ?_, fun y c _ h => ?_, fun _ => hd, Around.frames_deeper e0.frames, .inr ⟨rfl, rfl⟩, fun b z => absurd z (noA b), e0.bs, e0.bsz, fun b _ _ => noA b, fun b z => absurd z (noA b), e0.funs, e0.frf⟩,
    rfl, e0.bare, Un.kept hk, ⟨_, x.toInCall.ns, fun i y v h1 h2 h3 => ?_⟩, fun y c h => ⟨_, x.cell y c h⟩, e0.hok.fresh (Nat.le_refl _), fun y c h => ?_, fun p hp => absurd (show p ∈ ([] : List (Addr × Obj)) from hp) (by simp), e0.hok.kept hk, ?_⟩
  · exact name_of_addr x.apart (PySem.mem_of_lookup h1) (PySem.mem_of_lookup h2)
  · have hy : scope.names.lookup y = some .cell ∨ scope.names.lookup y = some .free := hy
    rcases hy with hy | hy
    · exact cell_has hy
    · exact absurd rfl (S.nofree _ (PySem.mem_of_lookup hy))
  · exact Nat.le_of_lt (x.above y c (PySem.mem_of_lookup h))
  · have hi : i < vs.length := by
      unfold start at h2
      by_cases hi : i < vs.length
      · exact hi
      · rw [List.getElem?_append_right (by simpa using hi)] at h2
        rw [List.getElem?_replicate] at h2
        split at h2 <;> cases h2
    have ha : vs[i]? = some v := by
      unfold start at h2
      rw [List.getElem?_append_left (by simpa using hi), List.getElem?_map] at h2
      cases e : vs[i]? with
      | none => rw [e] at h2; cases h2
      | some a => rw [e] at h2; cases h2; rfl
    obtain ⟨u, hu, rv⟩ := r.get ha
    have hp : ps[i]? = some y := by
      rw [← S.pre, List.getElem?_take_of_lt (by lia)]; exact h1
    have ndP : ps.Nodup := by rw [← S.pre]; exact S.nd.sublist (List.take_sublist _ _)
    refine ⟨u, rv, ?_⟩
    rcases S.par y (List.mem_of_getElem? hp) with k | k
    · exact .inl ⟨k, bindL_get ndP hp hu k⟩
    · obtain ⟨c, e⟩ := cell_has (n := s.heap.objs.size + 1) k
      refine .inr ⟨.inl k, c, e, ?_⟩
      have q := x.cell y c e
      rw [bindC_get ndP hp hu (by show scope.names.lookup y ≠ _; rw [k]; decide)] at q
      exact q
  · exact e0.hok.fresh (Nat.le_of_lt (x.above y c (PySem.mem_of_lookup h)))
  · unfold start
    show _ = N.length
    rw [List.length_append, List.length_map, List.length_replicate]
    lia

/-- THE RULE: a def (or a method) of the text, by its body. The body's reading t is chosen for each entry; it is run at the parameters' values -/
theorem fn_of {CX : CXT} {P : Program} {w : World} {K : PySem.W.Frag} {mg : Str → Option Value} {base : Heap} {k : Nat} {f : Addr} {name qual : Str} {params : Arguments} {body : List Stmt} {scope : Scope} {dV kV doc pm cdv ct oc : Value} {an od : Option Addr}
    {osl : Array (Option Value)} {N ps : List Str} {sp : Sp} (lk : K.lookup f = some ⟨oc, od, .func (PySem.W.fnOf name qual params body scope dV kV doc pm an cdv ct), osl⟩) (hcd : PySem.W.codeIn K cdv qual = true) (S : FnScope N ps scope)
    (len : ∀ vs H Q E, sp vs H Q E → vs.length = ps.length)
    (hbody : ∀ (A : Around) (outer : List Env) (s : Shared) (H : Hp) (vs : List V) (Q : VK) (E : XK), Room k (A.deeper (envOfC qual scope s.heap.objs.size f cdv)) → sp vs H Q E →
      ∃ t, PSs (cxOf CX P w K mg base N qual scope f cdv A outer s H E) body t ∧ t { nx := fun _ H' => Q .non H', rt := Q } (start N vs) H) :
    FnOk P w K mg base CX (k + 1) f (PySem.W.fnOf name qual params body scope dV kV doc pm an cdv ct) ps sp := by
  refine ⟨len, fun A outer s H args us vs Q E hr e0 hb r hsp => ?_⟩
  have hl := len _ _ _ _ hsp
  have KX : K.In s.heap := e0.mod.kin.keeps fun b o e => (e0.bs b o e).1
  have lim : s.heap.NoLimit := e0.mod.nolimit.keeps fun b o e => (e0.bs b o e).1
  have hkind : ∀ y ∈ ps.zip us, scope.names.lookup y.1 = some .local ∨ (scope.names.lookup y.1 = some .cell ∧ ((cellsFrom (s.heap.objs.size + 1) scope.names []).lookup y.1).isSome = true) := fun ⟨n, v⟩ hy => by
    rcases S.par n (List.of_mem_zip hy).1 with q | q
    · exact .inl q
    · exact .inr ⟨q, PySem.W.cellsFrom_some _ _ _ (.inl q)⟩
  refine codeAny_call_function hr.depth (KX _ _ lk) rfl S.co S.gen rfl (PySem.W.codeRec_of KX hcd) (hb _ _ _ _ ?_)
  refine wpAny_newFunctionEnv_cells S.kind hkind fun env he s1 x => ?_
  subst he
  refine ⟨lim.keeps x.toInCall.keep, codeAny_func ?_⟩
  obtain ⟨t, ht, hq⟩ := hbody A outer s H vs Q E (hr.deeper _) hsp
  have I : Inv (cxOf CX P w K mg base N qual scope f cdv A outer s H E) [] (start N vs) H s1 := inv_start S hr.hd e0 hl r x
  refine wpAny_mono (ht [] s1 (start N vs) H _ I hq) (fun fl s' hs => ?_) fun e s' hs => hs
  have fin : ∀ {σ' : St} {H' : Hp} {v : V} {u : Value}, Inv (cxOf CX P w K mg base N qual scope f cdv A outer s H E) [] σ' H' s' → RelV v u → Q v H' → CE outer P w H s Q u s' :=
    fun {σ' H' v u} J rv q => ⟨v, H', J.os, J.bare, J.base, J.hok, rv, q⟩
  cases fl with
  | ret u =>
    obtain ⟨v, σ', H', J, rv, q⟩ := hs
    exact fin J rv q
  | next =>
    obtain ⟨σ', H', J, q⟩ := hs
    exact fin (v := V.non) (u := Value.none) J rfl q
  | brk =>
    obtain ⟨_, _, _, q⟩ := hs
    exact False.elim q
  | cont =>
    obtain ⟨_, _, _, q⟩ := hs
    exact False.elim q
end L2

namespace L2
open PySem PySem.Spec PyProof.Rows
section
variable {X : Cx} {x : Str} {p pos : Pos} {e : Expr} {es : List Expr} {t : TA} {id T : String} {r : List V → Hp → VK → Prop}

def tCB (r : List V → Hp → VK → Prop) (t : TA) : TE := fun σ H Q => t σ H fun vs H1 => r vs H1 Q
/-- f(e, ..), f a built-in function -/
theorem pe_callB (hc : CallR X (.builtin id) r) (hg : Gl X x) (hm : X.mg x = none) (hv : bootBuiltins x = some (.builtin id)) (ha : PA X (e :: es) t) (hn : x ≠ "__name__" := by decide) (hdb : (x == ("__debug__" : Str)) = false := by decide)
    (he : starEach (e :: es) X.env = (false, eval e X.env) :: starEach es X.env := by rfl) (hpl : (backTo pos (starEach es X.env)).any (·.1) = false := by rfl) : PE X (.Call (.Name x p) (e :: es) [] pos) (tCB r t) := by
  intro pins s σ H Q I h
  refine wpAny_Call_Name_kw (ld_blt I hg hm hv ?_ hn hdb)
  refine PyProof.Rows.callWith_builtin1 (thn (ha pos pins s σ H _ I h) ?_) he hpl
  rintro us s1 ⟨vs, H1, I1, r1, q1⟩
  exact hc pins s1 σ H1 vs us Q I1 r1 q1
/-- T(e, ..), T a built-in type -/
theorem pe_callTy (hc : CallR X (.type T) r) (hg : Gl X x) (hm : X.mg x = none) (hv : bootBuiltins x = some (.type T)) (ha : PA X (e :: es) t) (hn : x ≠ "__name__" := by decide) (hdb : (x == ("__debug__" : Str)) = false := by decide)
    (he : starEach (e :: es) X.env = (false, eval e X.env) :: starEach es X.env := by rfl) (hpl : (backTo pos (starEach es X.env)).any (·.1) = false := by rfl) : PE X (.Call (.Name x p) (e :: es) [] pos) (tCB r t) := by
  intro pins s σ H Q I h
  refine wpAny_Call_Name_kw (ld_blt I hg hm hv ?_ hn hdb)
  refine PyProof.Rows.callWith_type1 (thn (ha pos pins s σ H _ I h) ?_) he hpl
  rintro us s1 ⟨vs, H1, I1, r1, q1⟩
  exact hc pins s1 σ H1 vs us Q I1 r1 q1
end
end L2

namespace HT
open PySem PyProof.Rows



section
open PySem.SeqAt
open PySem.AutoSeq1 (wpAny_loadPart')
open PySem.MeetsSeq PySem.MeetsSeq2 PySem.MeetsSeq3

end

section
variable {prog : Program} {w : World} {A : Around} {E : Value → Shared → Prop} {s : Shared}


/-- t + u, t not empty -/
theorem cat_tup {t b : Addr} {vs ws : List Value} {Q : Value → Shared → Prop} (ht : IsTup s.heap t vs.toArray) (hb : IsTup s.heap b ws.toArray) (hv : vs ≠ [])
    (h1 : ws = [] → Q (.ref t) s) (h2 : ws ≠ [] → Q (.ref s.heap.objs.size) { s with heap := s.heap.push { cls := .type "tuple", data := .seq (vs ++ ws).toArray } })
    (hsz : vs.length + ws.length ≤ sizeLine) : wpAny (model prog w) A (binaryOp .Add (.ref t) (.ref b)) Q E s := by
  obtain ⟨⟨cls, dd, data, sl⟩, ho, hc, n, hd⟩ := id ht
  obtain ⟨⟨cls2, dd2, data2, sl2⟩, ho2, hc2, n2, hd2⟩ := id hb
  simp only at hc hd hc2 hd2
  subst hc hd hc2 hd2
  have e : vs.toArray ++ ws.toArray = (vs ++ ws).toArray := by simp
  by_cases hw : ws = []
  · exact concat_meets ⟨_, ho, rfl⟩ ⟨_, ho2, rfl⟩ noFill_tuple_add seq_tuple_add PySem.F.slot_tuple_add PySem.F.entry_tuple_add (PySem.F.args_tuple_add_2 _ _)
      (tuple_addW1 t b vs.toArray ws.toArray n n2 dd dd2 sl sl2 (by simpa using hv) (by simp [hw])) ⟨ho, ho2, h1 hw⟩
  · refine concat_meets ⟨_, ho, rfl⟩ ⟨_, ho2, rfl⟩ noFill_tuple_add seq_tuple_add PySem.F.slot_tuple_add PySem.F.entry_tuple_add (PySem.F.args_tuple_add_2 _ _)
      (tuple_addW2 t b vs.toArray ws.toArray n n2 dd dd2 sl sl2 (by simpa using hv) (by simpa using hw) (by rw [List.size_toArray, List.size_toArray]; exact hsz)) ⟨ho, ho2, ?_⟩
    rw [e]
    exact h2 hw

/-! ### t[a:b], not the whole -/
/-- a slice's bound as a place among n (d where it is left out) -/
def sIx (n d : Nat) : Option Int → Nat
  | none => d
  | some v => if v < 0 then (v + (n : Int)).toNat else min v.toNat n
theorem sIx_none (n d : Nat) : sIx n d none = d := rfl
theorem sIx_nat (n d k : Nat) : sIx n d (some (k : Int)) = min k n := by
  show (if (k : Int) < 0 then ((k : Int) + (n : Int)).toNat else min (k : Int).toNat n) = min k n
  rw [if_neg (by lia), Int.toNat_natCast]
theorem sIx_le (n d : Nat) (hd : d ≤ n) (o : Option Int) : sIx n d o ≤ n := by
  cases o with
  | none => exact hd
  | some v =>
    show (if v < 0 then (v + (n : Int)).toNat else min v.toNat n) ≤ n
    by_cases hv : v < 0
    · rw [if_pos hv]; lia
    · rw [if_neg hv]; exact Nat.min_le_right _ _
theorem clip_eq (v : Int) (n d : Nat) : (if v < 0 then max (v + (n : Int)) 0 else min v (n : Int)) = ((sIx n d (some v) : Nat) : Int) := by
  show (if v < 0 then max (v + (n : Int)) 0 else min v (n : Int)) = (((if v < 0 then (v + (n : Int)).toNat else min v.toNat n) : Nat) : Int)
  by_cases hv : v < 0
  · simp only [if_pos hv]; lia
  · simp only [if_neg hv]; lia
theorem adjust_gen (lo hi : Option Int) (n : Nat) : Builtin.Slice.sliceAdjust lo hi 1 (n : Int) = (((sIx n 0 lo : Nat) : Int), ((sIx n n hi : Nat) : Int)) := by
  have h1 : ¬ ((1 : Int) < 0) := by lia
  unfold Builtin.Slice.sliceAdjust
  simp only [h1, if_false]
  refine Prod.ext ?_ ?_
  · cases lo with
    | none => rfl
    | some v => exact clip_eq v n 0
  · cases hi with
    | none => rfl
    | some v => exact clip_eq v n n
theorem places_gen (i j : Nat) : Builtin.Slice.slicePlaces (i : Int) (j : Int) 1 = j - i := by
  unfold Builtin.Slice.slicePlaces
  have h1 : (1 : Int) > 0 := by lia
  simp only [h1, if_true, Int.ediv_one]
  split <;> lia
theorem slicePart_ {v : Value} {o : Option Int} {Q : Option Int → Shared → Prop} (p : IsPart v o) (h : Q o s) : wpAny (model prog w) A (Builtin.Slice.slicePartIndex v) Q E s := by
  cases p with
  | none => exact slicePart_none h
  | int i t => exact slicePart_int h
theorem sliceApplied_gen {sl : Addr} {vl vu : Value} {lo hi : Option Int} {n : Nat} {Q : Int × Int × Nat → Shared → Prop} (hs : s.heap.IsSliceOf sl vl vu .none) (pl : IsPart vl lo) (pu : IsPart vu hi)
    (h : Q (((sIx n 0 lo : Nat) : Int), 1, sIx n n hi - sIx n 0 lo) s) : wpAny (model prog w) A (Builtin.Slice.sliceApplied (.ref sl) (pure (n : Int))) Q E s := by
  obtain ⟨os, hos, hcs, hds⟩ := id hs
  unfold Builtin.Slice.sliceApplied Builtin.Slice.sliceFields
  refine wpAny_bind (wpAny_bind (wpAny_field hos hds (x := vl) rfl (wpAny_bind (wpAny_field hos hds (x := vu) rfl (wpAny_bind (wpAny_field hos hds (x := .none) rfl (wpAny_pure ?_)))))))
  refine wpAny_bind (slicePart_none ?_)
  show wpAny _ _ (if ((1 : Int) == 0) = true then _ else _) _ _ s
  rw [if_neg (by decide)]
  refine wpAny_bind (slicePart_ pl (wpAny_bind (slicePart_ pu (wpAny_bind (wpAny_pure ?_)))))
  show wpAny _ _ (match Builtin.Slice.sliceAdjust lo hi 1 (n : Int) with | (lo, hi) => pure (lo, (1 : Int), Builtin.Slice.slicePlaces lo hi 1)) _ _ s
  rw [adjust_gen lo hi n]
  show wpAny _ _ (pure (((sIx n 0 lo : Nat) : Int), (1 : Int), Builtin.Slice.slicePlaces ((sIx n 0 lo : Nat) : Int) ((sIx n n hi : Nat) : Int) 1)) _ _ s
  rw [places_gen]
  exact wpAny_pure h
theorem pick_gen (xs : Array Value) (i k : Nat) : ((List.range k).filterMap fun (m : Nat) => xs[((i : Int) + (m : Int) * 1).toNat]?).toArray = ((xs.toList.drop i).take k).toArray := by
  have e : (fun (m : Nat) => xs[((i : Int) + (m : Int) * 1).toNat]?) = fun m => xs[i + m]? := by
    funext m
    have : ((i : Int) + (m : Int) * 1).toNat = i + m := by lia
    rw [this]
  rw [e]
  have := pick_run xs i k
  rw [List.filterMap_map] at this
  have e2 : ((fun x => xs[x]?) ∘ fun x => i + x) = fun m => xs[i + m]? := rfl
  rw [e2] at this
  rw [this]

theorem getItem_tuple_cut {t sl : Addr} {items : Array Value} {vl vu : Value} {lo hi : Option Int} {Q : Value → Shared → Prop} (ht : IsTup s.heap t items) (hs : s.heap.IsSliceOf sl vl vu .none) (pl : IsPart vl lo) (pu : IsPart vu hi)
    (hw : ¬ (sIx items.size 0 lo = 0 ∧ sIx items.size items.size hi = items.size))
    (h : Q (.ref s.heap.objs.size) { s with heap := s.heap.push { cls := .type "tuple", data := .seq ((items.toList.drop (sIx items.size 0 lo)).take (sIx items.size items.size hi - sIx items.size 0 lo)).toArray } })
    (hsz : items.size ≤ sizeLine) : wpAny (model prog w) A (getItem (.ref t) (.ref sl)) Q E s := by
  have htake : sizeOk (.seq ((items.toList.drop (sIx items.size 0 lo)).take (sIx items.size items.size hi - sIx items.size 0 lo)).toArray) := by
    show ((items.toList.drop (sIx items.size 0 lo)).take (sIx items.size items.size hi - sIx items.size 0 lo)).toArray.size ≤ sizeLine
    rw [List.size_toArray, List.length_take, List.length_drop, Array.length_toList]
    omega
  have hj : sIx items.size items.size hi ≤ items.size := sIx_le _ _ (Nat.le_refl _) hi
  obtain ⟨os, hos, hcs, hds⟩ := id hs
  have hTs : s.TypeIs (.ref sl) "slice" := ⟨os, hos, hcs⟩
  unfold getItem
  try with_reducible refine wpAny_holding ?_
  first | refine wpAny_bind (wpAny_pure ?_) | skip
  refine wpAny_bind (wpAny_sequenceKey ht.typeIs (by decide) ?_)
  refine wpAny_bind (wpAny_callSpecial?_slot (name := Str.ofString "__getitem__") ht.typeIs PyProof.Rows.slot_tuple_getitem
    (wpAny_call_entry PyProof.Rows.slot_tuple_getitem ht.typeIs entry_tuple_getitem ?_ (args_tuple_getitem _ _)))
  show wpAny _ _ (Builtin.Tuple.tupleItemsOf (.ref t) >>= _) _ _ s
  refine wpAny_bind (tupleItemsOf_ ht ?_)
  refine wpAny_bind (wpAny_typeOf hTs ?_)
  rw [if_pos (by decide)]
  refine wpAny_bind (sliceApplied_gen hs pl pu ?_)
  have hno : ¬ ((((sIx items.size 0 lo : Nat) : Int) == 0 && (1 : Int) == 1 && (sIx items.size items.size hi - sIx items.size 0 lo) == items.size) = true) := by
    intro q
    rw [Bool.and_eq_true, Bool.and_eq_true] at q
    have q1 : ((sIx items.size 0 lo : Nat) : Int) = 0 := eq_of_beq q.1.1
    have q2 : sIx items.size items.size hi - sIx items.size 0 lo = items.size := eq_of_beq q.2
    exact hw ⟨by omega, by omega⟩
  show wpAny _ _ (if (((sIx items.size 0 lo : Nat) : Int) == 0 && (1 : Int) == 1 && (sIx items.size items.size hi - sIx items.size 0 lo) == items.size) = true then _ else _) _ _ s
  rw [if_neg hno, pick_gen]
  first
    | exact wpAny_bind (m := Builtin.Tuple.tupleExact _) (wpAny_newObj_type (wpAny_pure ⟨_, rfl, wpAny_pure h⟩) htake)
    | exact wpAny_bind (m := Builtin.Tuple.tupleExact _) (wpAny_newObj_type (wpAny_bind (wpAny_pure (wpAny_pure ⟨_, rfl, wpAny_pure h⟩))) htake)
    | exact wpAny_bind (wpAny_bind (m := Builtin.Tuple.tupleExact _) (wpAny_newObj_type (wpAny_pure (wpAny_pure ⟨_, rfl, wpAny_pure h⟩)) htake))
    | exact wpAny_bind (wpAny_bind (m := Builtin.Tuple.tupleExact _) (wpAny_newObj_type (wpAny_pure ⟨_, rfl, wpAny_pure h⟩) htake))
end
end HT

namespace L2
open PySem PySem.Spec PyProof.Rows

/-! ### the parts of a slice -/
abbrev TO := St → Hp → (Option Int → Hp → Prop) → Prop
/-- a slice's part (left out, or an int) -/
def PO (X : Cx) (e : Option Expr) (t : TO) : Prop :=
  ∀ (pins : List (Addr × Obj)) (s : Shared) (σ : St) (H : Hp) (Q : Option Int → Hp → Prop), Inv X pins σ H s → t σ H Q →
    wpAny (model X.prog X.w) X.A (evalPart e X.env) (fun u s' => ∃ o H', Inv X pins σ H' s' ∧ IsPart u o ∧ Q o H') X.xe s
def tNoPart : TO := fun _ H Q => Q none H
def tPart (t : TE) : TO := fun σ H Q => t σ H fun x H1 => ∃ i, x = .int i ∧ Q (some i) H1


section
variable {X : Cx} {e : Expr} {te : TE} {lo hi : Option Expr} {tl th : TO} {pos p2 : Pos}

theorem po_none : PO X none tNoPart := by
  intro pins s σ H Q I h
  rw [evalPart_none]
  exact wpAny_pure ⟨none, H, I, .none, h⟩
theorem po_some (h : PE X e te) : PO X (some e) (tPart te) := by
  intro pins s σ H Q I hw
  rw [evalPart_some]
  refine thn (h pins s σ H _ I hw) ?_
  rintro u s1 ⟨x, H1, I1, r1, q1⟩
  obtain ⟨i, rfl, q⟩ := q1
  obtain ⟨t, rfl⟩ := r1
  exact ⟨some i, H1, I1, .int i t, q⟩

/-- what a slice of a value is, by values: the slice object stands at sl -/
def SlR (X : Cx) (r : V → Option Int → Option Int → Hp → VK → Prop) : Prop :=
  ∀ (pins : List (Addr × Obj)) (s : Shared) (σ : St) (H : Hp) (x : V) (v vl vu : Value) (lo hi : Option Int) (sl : Addr) (Q : VK), Inv X pins σ H s → RelV x v → s.heap.IsSliceOf sl vl vu .none → IsPart vl lo → IsPart vu hi → r x lo hi H Q →
    ∃ T id, typeLookup (.type T) "__getitem__" = pure (some (.builtin id)) ∧ s.TypeIs v T ∧ wpAny (model X.prog X.w) X.A (getItem v (.ref sl)) (EP X pins σ Q) X.xe s
def tSl (r : V → Option Int → Option Int → Hp → VK → Prop) (te : TE) (tl th : TO) : TE := fun σ H Q => te σ H fun x H1 => tl σ H1 fun l H2 => th σ H2 fun u H3 => r x l u H3 Q
/-- a[lo:hi], any a -/
theorem pe_slice {r : V → Option Int → Option Int → Hp → VK → Prop} (hr : SlR X r) (he : PE X e te) (hl : PO X lo tl) (hu : PO X hi th) : PE X (.Subscript e (.Slice lo hi none p2) pos) (tSl r te tl th) := by
  intro pins s σ H Q I h
  refine Subscript_ (thn (he pins s σ H _ I h) ?_)
  rintro v s1 ⟨x, H1, I1, r1, q1⟩
  refine wpAny_Slice (thn (hl pins s1 σ H1 _ I1 q1) ?_)
  rintro vl s2 ⟨l, H2, I2, pl, q2⟩
  refine thn (hu pins s2 σ H2 _ I2 q2) ?_
  rintro vu s3 ⟨u, H3, I3, pu, q3⟩
  rw [evalPart_none]
  refine wpAny_pure ?_
  have I4 : Inv X pins σ H3 { s3 with heap := s3.heap.push { cls := .type "slice", data := .fields #[vl, vu, .none] } } := I3.kept (t' := s3.toks) fun b ob q => Heap.get?_push_of_some _ q
  obtain ⟨T, id, hT, ht, hg⟩ := hr pins { s3 with heap := s3.heap.push { cls := .type "slice", data := .fields #[vl, vu, .none] } } σ H3 x v vl vu l u s3.heap.objs.size Q I4 r1 (Heap.IsSliceOf.new ..) pl pu q3
  show wpAny (model X.prog X.w) X.A (subscriptTail e (.Slice lo hi none p2) v (.ref s3.heap.objs.size)) (EP X pins σ Q) X.xe { s3 with heap := s3.heap.push { cls := .type "slice", data := .fields #[vl, vu, .none] } }
  exact tail_any (ops := [.ref s3.heap.objs.size, v]) ht hT hg (by with_unfolding_all rfl)

/-- the items of xs[lo:hi] -/
def cutV (xs : List V) (lo hi : Option Int) : List V := (xs.drop (HT.sIx xs.length 0 lo)).take (HT.sIx xs.length xs.length hi - HT.sIx xs.length 0 lo)
theorem cutV_length (xs : List V) (lo hi : Option Int) : (cutV xs lo hi).length ≤ xs.length := by
  unfold cutV
  rw [List.length_take, List.length_drop]
  lia
/-- t[lo:hi], not the whole of it (the whole would be t itself) -/
def rSlT (K : PySem.W.Frag) : V → Option Int → Option Int → Hp → VK → Prop := fun x lo hi H Q => ∃ a xs, x = .ref a ∧ SqT K H a xs ∧
  ¬ (HT.sIx xs.length 0 lo = 0 ∧ HT.sIx xs.length xs.length hi = xs.length) ∧ ∀ p, H p = none → Q (.ref p) (upd H p (.tup (cutV xs lo hi)))
theorem sl_tup : SlR X (rSlT X.K) := by
  intro pins s σ H x v vl vu lo hi sl Q I rx hs pl pu h
  obtain ⟨a, xs, rfl, hx, hw, q⟩ := h
  cases rx
  obtain ⟨its, r, ht, hz⟩ := I.tuple hx
  have hlen : its.toArray.size = xs.length := by rw [List.size_toArray]; exact r.length.symm
  refine ⟨"tuple", _, PyProof.Rows.slot_tuple_getitem.lookup, ht.typeIs, ?_⟩
  refine HT.getItem_tuple_cut ht hs pl pu (by rw [hlen]; exact hw) ?_ (by rw [hlen]; exact hz)
  rw [hlen]
  refine ⟨.ref s.heap.objs.size, _, I.laid (t' := s.toks) (o := .tup (cutV xs lo hi)) (fun b ob q => Heap.get?_push_of_some _ q) (Nat.le_refl _) ?_, rfl, q _ (I.hok.fresh (Nat.le_refl _))⟩
  exact ⟨Nat.le_trans (cutV_length xs lo hi) hz, _, (r.drop (HT.sIx xs.length 0 lo)).take (HT.sIx xs.length xs.length hi - HT.sIx xs.length 0 lo), TupN.new _ _⟩

/-! ### t < u, t + u -/
/-- t + u, t not empty: u empty gives t itself -/
def rCatT (K : PySem.W.Frag) : R2 := fun x y H Q => ∃ a b xs ys, x = .ref a ∧ y = .ref b ∧ SqT K H a xs ∧ SqT K H b ys ∧ xs ≠ [] ∧ xs.length + ys.length ≤ sizeLine ∧
  (ys = [] → Q (.ref a) H) ∧ (ys ≠ [] → ∀ p, H p = none → Q (.ref p) (upd H p (.tup (xs ++ ys))))
theorem Vals.nil_iff {xs : List V} {us : List Value} (r : Vals xs us) : us = [] ↔ xs = [] := by
  cases r with
  | nil => simp
  | cons _ _ => simp
theorem op_catT : OpR X (binaryOp .Add) (rCatT X.K) := by
  intro pins s σ H x y v u Q I rx ry h
  obtain ⟨a, b, xs, ys, rfl, rfl, ha, hb, hx, hz, q1, q2⟩ := h
  cases rx
  cases ry
  obtain ⟨its, r1, p1, _⟩ := I.tuple ha
  obtain ⟨its2, r2, p2, _⟩ := I.tuple hb
  refine HT.cat_tup p1 p2 (fun z => hx (r1.nil_iff.mp z)) (fun z => ⟨.ref a, H, I, rfl, q1 (r2.nil_iff.mp z)⟩) (fun z => ?_) (by rw [← r1.length, ← r2.length]; exact hz)
  refine ⟨.ref s.heap.objs.size, _, I.laid (t' := s.toks) (o := .tup (xs ++ ys)) (fun b ob q => Heap.get?_push_of_some _ q) (Nat.le_refl _) ?_, rfl, q2 (fun w => z (r2.nil_iff.mpr w)) _ (I.hok.fresh (Nat.le_refl _))⟩
  exact ⟨by rw [List.length_append]; exact hz, _, r1.append r2, TupN.new _ _⟩
end
end L2

namespace L2
open PySem PySem.Spec PyProof.Rows

/-! ### places -/
/-- the place that an index of any sign means -/
def ixN (n : Nat) (i : Int) : Option Nat := if 0 ≤ i then (if i < n then some i.toNat else none) else if -(n : Int) ≤ i then some (i + n).toNat else none
def atI {α : Type} (xs : List α) (i : Int) : Option α := (ixN xs.length i).bind fun j => xs[j]?
theorem ixN_seq {n : Nat} {i : Int} {j : Nat} (h : ixN n i = some j) : seqIndex? i n = some j ∧ j < n ∧ -(n : Int) ≤ i ∧ i < n := by
  unfold ixN at h
  by_cases h0 : 0 ≤ i
  · rw [if_pos h0] at h
    by_cases h1 : i < n
    · rw [if_pos h1] at h
      have e : i.toNat = j := Option.some.inj h
      exact ⟨by rw [seqIndex_of h0 h1, e], by lia, by lia, h1⟩
    · rw [if_neg h1] at h; cases h
  · rw [if_neg h0] at h
    by_cases h1 : -(n : Int) ≤ i
    · rw [if_pos h1] at h
      have e : (i + n).toNat = j := Option.some.inj h
      exact ⟨by rw [seqIndex_neg (by lia) h1, e], by lia, h1, by lia⟩
    · rw [if_neg h1] at h; cases h
theorem atI_get {α : Type} {xs : List α} {i : Int} {v : α} (h : atI xs i = some v) : ∃ j, seqIndex? i xs.length = some j ∧ xs[j]? = some v ∧ j < xs.length ∧ -(xs.length : Int) ≤ i ∧ i < xs.length := by
  unfold atI at h
  cases e : ixN xs.length i with
  | none => rw [e] at h; cases h
  | some j =>
    rw [e] at h
    obtain ⟨h1, h2, h3, h4⟩ := ixN_seq e
    exact ⟨j, h1, h, h2, h3, h4⟩
theorem atI_nat {α : Type} {xs : List α} {j : Nat} {v : α} (h : xs[j]? = some v) : atI xs (j : Int) = some v := by
  have hj : j < xs.length := (List.getElem?_eq_some_iff.mp h).1
  have e : ixN xs.length (j : Int) = some j := by
    unfold ixN
    rw [if_pos (by lia), if_pos (by lia)]; simp
  unfold atI; rw [e]; exact h

/-! ### what may be subscripted -/
/-- what stands as an index of a plain subscript -/
def PlainIx (b : Expr) : Prop := ∀ o i, subscripted b false o i = operate [o, i] (getItem o i)
/-- a subscript by values -/
def IxR (X : Cx) (r : R2) : Prop :=
  ∀ (value slice : Expr) (pins : List (Addr × Obj)) (s : Shared) (σ : St) (H : Hp) (x y : V) (v u : Value) (Q : VK), Inv X pins σ H s → RelV x v → RelV y u → r x y H Q →
    subscripted slice false v u = operate [v, u] (getItem v u) → wpAny (model X.prog X.w) X.A (subscriptTail value slice v u) (EP X pins σ Q) X.xe s
/-- a call of a builtin's method by values: the receiver, the arguments -/
def MtR (X : Cx) (id : String) (r : V → List V → Hp → VK → Prop) : Prop :=
  ∀ (pins : List (Addr × Obj)) (s : Shared) (σ : St) (H : Hp) (x : V) (xs : List V) (v : Value) (us : List Value) (Q : VK), Inv X pins σ H s → RelV x v → Vals xs us → r x xs H Q →
    wpAny (model X.prog X.w) X.A (call (.builtin id) (v :: us)) (EP X pins σ Q) X.xe s
section
variable {X : Cx} {a b : Expr} {ta tb : TE} {pos : Pos}
/-- a[b] -/
theorem pe_ix {r : R2} (hr : IxR X r) (ha : PE X a ta) (hb : PE X b tb) (hs : PlainIx b) : PE X (.Subscript a b pos) (tOp r ta tb) := by
  intro pins s σ H Q I h
  exact Subscript_ (binT ha hb I h fun v u s2 x y H2 I2 rx ry q => hr a b pins s2 σ H2 x y v u Q I2 rx ry q (hs _ _))

def rIxL (K : PySem.W.Frag) : R2 := fun x y H Q => ∃ p xs i v, x = .ref p ∧ y = .int i ∧ SqL K H p xs ∧ atI xs i = some v ∧ Q v H
def rIxT (K : PySem.W.Frag) : R2 := fun x y H Q => ∃ p xs i v, x = .ref p ∧ y = .int i ∧ SqT K H p xs ∧ atI xs i = some v ∧ Q v H
def rIxS : R2 := fun x y H Q => ∃ z i c, x = .str z ∧ y = .int i ∧ z.length ≤ sizeLine ∧ atI z.cps.toList i = some c ∧ Q (.str ⟨#[c]⟩) H
theorem ix_list : IxR X (rIxL X.K) := by
  intro value slice pins s σ H x y v u Q I rx ry h hs
  obtain ⟨p, xs, i, z, rfl, rfl, hq, he, q⟩ := h
  cases rx
  obtain ⟨t, rfl⟩ := ry
  obtain ⟨its, r, pl, hz⟩ := I.list hq
  obtain ⟨j, h1, h2, h3, h4, h5⟩ := atI_get he
  obtain ⟨w, ew, rw'⟩ := r.get h2
  have hl := r.length
  have hn := line63
  have fin : EP X pins σ Q w s := ⟨z, H, I, rw', q⟩
  by_cases h0 : 0 ≤ i
  · have hj : i.toNat = j := by
      rw [seqIndex_of h0 h5] at h1
      exact Option.some.inj h1
    exact item_listR pl.isList h0 (by lia) (by rw [hj]; simpa using ew) fin hs
  · have hj : (i + (its.toArray.size : Int)).toNat = j := by
      rw [seqIndex_neg (by lia) h4] at h1
      rw [List.size_toArray, ← hl]
      exact Option.some.inj h1
    exact subscriptTail_builtinR (x := w) pl.isList.typeIs slot_list_getitem.lookup
      (wpAny_getItem_list_neg (Q := fun r s' => r = w ∧ EP X pins σ Q r s') pl.isList (by lia) (by rw [List.size_toArray] <;> lia) (by lia) (by rw [hj]; simpa using ew) ⟨rfl, fin⟩) hs
theorem ix_tup : IxR X (rIxT X.K) := by
  intro value slice pins s σ H x y v u Q I rx ry h hs
  obtain ⟨p, xs, i, z, rfl, rfl, hq, he, q⟩ := h
  cases rx
  obtain ⟨t, rfl⟩ := ry
  obtain ⟨its, r, pl, hz⟩ := I.tuple hq
  obtain ⟨j, h1, h2, h3, h4, h5⟩ := atI_get he
  obtain ⟨w, ew, rw'⟩ := r.get h2
  have hl := r.length
  have hn := line63
  have fin : EP X pins σ Q w s := ⟨z, H, I, rw', q⟩
  exact subscriptTail_builtinR (x := w) pl.typeIs slot_tuple_getitem.lookup
    (getItem_tuple (j := j) (Q := fun r s' => r = w ∧ EP X pins σ Q r s') pl (by lia) (by lia) (by rw [List.size_toArray, ← hl]; exact h1) (by simpa using ew) ⟨rfl, fin⟩) hs
theorem ix_str : IxR X rIxS := by
  intro value slice pins s σ H x y v u Q I rx ry h hs
  obtain ⟨z, i, c, rfl, rfl, hz, he, q⟩ := h
  obtain ⟨t, rfl⟩ := rx
  obtain ⟨t', rfl⟩ := ry
  obtain ⟨j, h1, h2, h3, h4, h5⟩ := atI_get he
  have hl : z.cps.toList.length = z.length := by simp [Str.length]
  rw [hl] at h1 h4 h5
  have hn := line63
  exact tail_any (typeIs_str s z t) slot_str_getitem.lookup (getItem_str (c := c) (by
    have e1 : decide (i < -(2 ^ 63 : Int)) = false := decide_eq_false (by lia)
    have e2 : decide (i ≥ 2 ^ 63) = false := decide_eq_false (by lia)
    rw [e1, e2, Bool.or_false]) (by rw [h1]; simpa using h2) ⟨.str ⟨#[c]⟩, H, I.tok _, ⟨_, rfl⟩, q⟩) hs

/-! ### xs[i] = v, any sign -/
/-- the list's object behind a store -/
theorem mapSeq_set (its : List Value) (n j : Nat) (u : Value) : Obj.mapSeq (·.setIfInBounds j u) { cls := .type "list", data := .seq its.toArray n } = { cls := .type "list", data := .seq (its.set j u).toArray n } := by
  simp [Obj.mapSeq]
theorem Inv.lst {pins : List (Addr × Obj)} {σ : St} {H : Hp} {s : Shared} {p : Addr} {xs : List V} (I : Inv X pins σ H s) (h : H p = some (.lst xs)) :
    ∃ (its : List Value) (n : Nat), Vals xs its ∧ s.heap.get? p = some { cls := .type "list", data := .seq its.toArray n } ∧ xs.length ≤ sizeLine := by
  obtain ⟨z, its, n, r, e⟩ := I.hok p _ h
  exact ⟨its, n, r, e, z⟩
/-- the list at p is written by an update of its object -/
theorem Inv.lstUpd {pins : List (Addr × Obj)} {σ : St} {H : Hp} {s : Shared} {p : Addr} {xs ys : List V} {its its' : List Value} {n n' : Nat} {f : Obj → Obj} (I : Inv X pins σ H s) (h : H p = some (.lst xs))
    (ho : s.heap.get? p = some { cls := .type "list", data := .seq its.toArray n }) (hf : f { cls := .type "list", data := .seq its.toArray n } = { cls := .type "list", data := .seq its'.toArray n' }) (r : Vals ys its') (hz : ys.length ≤ sizeLine) (t : Nat) :
    Inv X pins σ (upd H p (.lst ys)) { s with heap := s.heap.update p f, toks := t } := by
  have e : (s.heap.update p f).get? p = some { cls := .type "list", data := .seq its'.toArray n' } := by
    rw [Heap.get?_update_self f ho (by rw [hf] <;> rfl), hf]
  refine I.write (x := p) (e := p) (by rw [h]; trivial) (.inl rfl) (fun b u hb q => (Heap.get?_update_other _ _ (Ne.symm hb)).trans q) ⟨_, e⟩ ?_
  exact ⟨hz, its', n', r, e⟩
def rSetL : V → V → V → Hp → (Hp → Prop) → Prop := fun o i v H Q => ∃ p xs k j, o = .ref p ∧ i = .int k ∧ H p = some (.lst xs) ∧ ixN xs.length k = some j ∧ Q (upd H p (.lst (xs.set j v)))
theorem set_list : PSet X rSetL := by
  intro pins s σ H o i v ov iv u Q I ro ri rv h
  obtain ⟨p, xs, k, j, rfl, rfl, hp, hj, q⟩ := h
  cases ro
  obtain ⟨t, rfl⟩ := ri
  obtain ⟨its, n, r, ho, hz⟩ := I.lst hp
  obtain ⟨h1, h2, h3, h4⟩ := ixN_seq hj
  have hl := r.length
  have hn := line63
  have I' : Inv X pins σ (upd H p (.lst (xs.set j v))) { s with heap := s.heap.update p (Obj.mapSeq (·.setIfInBounds j u)) } :=
    I.lstUpd hp ho (mapSeq_set its n j u) (r.set rv j) (by rw [List.length_set]; exact hz) s.toks
  by_cases h0 : 0 ≤ k
  · have hk : k.toNat = j := by
      rw [seqIndex_of h0 h4] at h1
      exact Option.some.inj h1
    exact PySem.W.ki_setAt ho h0 (by lia) (by rw [List.size_toArray, ← hl]; exact h4) (by rw [hk]; exact ⟨_, I', q⟩)
  · have hk : (k + (its.toArray.size : Int)).toNat = j := by
      rw [seqIndex_neg (by lia) h3] at h1
      rw [List.size_toArray, ← hl]
      exact Option.some.inj h1
    exact PySem.W.ki_setBack ho (by lia) (by rw [List.size_toArray, ← hl]; exact h3) (by lia) (by rw [hk]; exact ⟨_, I', q⟩)

/-! ### slices -/
theorem slice_bounds (lo hi : Option Int) (n : Nat) : (sliceBounds lo hi none n).1 = ((HT.sIx n 0 lo : Nat) : Int) ∧ (sliceBounds lo hi none n).2.1 = ((HT.sIx n n hi : Nat) : Int) ∧ (sliceBounds lo hi none n).2.2 = 1 := by
  refine ⟨?_, ?_, rfl⟩
  · cases lo with
    | none => simp [sliceBounds, HT.sIx]
    | some i =>
      simp only [sliceBounds, HT.sIx, Option.getD_none, show (1 : Int) > 0 by decide, if_true]
      by_cases h : i < 0
      · simp only [h, if_true] <;> lia
      · simp only [h, if_false] <;> lia
  · cases hi with
    | none => simp [sliceBounds, HT.sIx]
    | some i =>
      simp only [sliceBounds, HT.sIx, Option.getD_none, show (1 : Int) > 0 by decide, if_true]
      by_cases h : i < 0
      · simp only [h, if_true] <;> lia
      · simp only [h, if_false] <;> lia
theorem slicePick_cut (its : List Value) (lo hi : Option Int) : slicePick its.toArray lo hi none = ((its.drop (HT.sIx its.length 0 lo)).take (HT.sIx its.length its.length hi - HT.sIx its.length 0 lo)).toArray := by
  obtain ⟨h1, h2, h3⟩ := slice_bounds lo hi its.toArray.size
  unfold slicePick
  rw [h1, h2, h3]
  simp only [sliceRange_one, pick_run, List.size_toArray] <;> rfl
/-- xs[lo:hi] of a list: a new list -/
def rSlL (K : PySem.W.Frag) : V → Option Int → Option Int → Hp → VK → Prop := fun x lo hi H Q => ∃ a xs, x = .ref a ∧ SqL K H a xs ∧ ∀ p, H p = none → Q (.ref p) (upd H p (.lst (cutV xs lo hi)))
theorem sl_list : SlR X (rSlL X.K) := by
  intro pins s σ H x v vl vu lo hi sl Q I rx hs pl pu h
  obtain ⟨a, xs, rfl, hx, q⟩ := h
  cases rx
  obtain ⟨its, r, ht, hz⟩ := I.list hx
  have hlen := r.length
  refine ⟨"list", _, slot_list_getitem.lookup, ht.isList.typeIs, ?_⟩
  refine wpAny_getItem_list_slice ht.isList hs pl pu .none (by simp) ?_ (by rw [List.size_toArray] <;> lia)
  rw [slicePick_cut, ← hlen]
  refine ⟨.ref s.heap.objs.size, _, I.laid (t' := s.toks) (o := .lst (cutV xs lo hi)) (fun b ob q => Heap.get?_push_of_some _ q) (Nat.le_refl _) ?_, rfl, q _ (I.hok.fresh (Nat.le_refl _))⟩
  exact ⟨Nat.le_trans (cutV_length xs lo hi) hz, _, 0, (r.drop (HT.sIx xs.length 0 lo)).take (HT.sIx xs.length xs.length hi - HT.sIx xs.length 0 lo), Heap.get?_push_size _ rfl⟩

/-! ### in, not in: flat items -/
def flatV : V → Bool
  | .non => true
  | .bl _ => true
  | .int _ => true
  | .str _ => true
  | _ => false
/-- == of flat values -/
def eqV : V → V → Bool
  | .non, .non => true
  | .bl a, .bl b => a == b
  | .bl a, .int b => (if a then 1 else 0) == b
  | .int a, .bl b => a == (if b then 1 else 0)
  | .int a, .int b => a == b
  | .str a, .str b => a == b
  | _, _ => false
theorem eqAt_V {A : Around} {s : Shared} {y x : V} {u v : Value} (ry : RelV y u) (rx : RelV x v) (fy : flatV y = true) (fx : flatV x = true) : SeqAt.EqAt A s u v (eqV y x) := by
  cases y with
  | non =>
    cases ry
    cases x with
    | non => cases rx; exact SeqAt.EqAt.same _
    | bl b => cases rx; exact SeqAt.EqAt.none_bool b
    | int b => obtain ⟨t, rfl⟩ := rx; exact SeqAt.EqAt.none_int b t
    | str b => obtain ⟨t, rfl⟩ := rx; exact SeqAt.EqAt.none_str b t
    | _ => exact absurd (show false = true from fx) Bool.false_ne_true
  | bl a =>
    cases ry
    cases x with
    | non => cases rx; exact SeqAt.EqAt.bool_none a
    | bl b => cases rx; exact SeqAt.EqAt.bool_bool a b
    | int b => obtain ⟨t, rfl⟩ := rx; exact SeqAt.EqAt.bool_int a b t
    | str b => obtain ⟨t, rfl⟩ := rx; exact SeqAt.EqAt.bool_str a b t
    | _ => exact absurd (show false = true from fx) Bool.false_ne_true
  | int a =>
    obtain ⟨t', rfl⟩ := ry
    cases x with
    | non => cases rx; exact SeqAt.EqAt.int_none a t'
    | bl b => cases rx; exact SeqAt.EqAt.int_bool a t' b
    | int b => obtain ⟨t, rfl⟩ := rx; exact SeqAt.EqAt.int_int a t' b t
    | str b => obtain ⟨t, rfl⟩ := rx; exact SeqAt.EqAt.int_str a t' b t
    | _ => exact absurd (show false = true from fx) Bool.false_ne_true
  | str a =>
    obtain ⟨t', rfl⟩ := ry
    cases x with
    | non => cases rx; exact SeqAt.EqAt.str_none a t'
    | bl b => cases rx; exact SeqAt.EqAt.str_bool a t' b
    | int b => obtain ⟨t, rfl⟩ := rx; exact SeqAt.EqAt.str_int a t' b t
    | str b => obtain ⟨t, rfl⟩ := rx; exact SeqAt.EqAt.str_str a t' b t
    | _ => exact absurd (show false = true from fx) Bool.false_ne_true
  | _ => exact absurd (show false = true from fy) Bool.false_ne_true
/-- the items' answers, read off the values (a value's own answer does not lean on its token) -/
def eqU (x : V) (u : Value) : Bool := match u with
  | .none => eqV .non x
  | .bool b => eqV (.bl b) x
  | .int i _ => eqV (.int i) x
  | .str z _ => eqV (.str z) x
  | _ => false
theorem eqU_of {x y : V} {u : Value} (r : RelV y u) (f : flatV y = true) : eqU x u = eqV y x := by
  cases y with
  | non => cases r; rfl
  | bl b => cases r; rfl
  | int i => obtain ⟨t, rfl⟩ := r; rfl
  | str z => obtain ⟨t, rfl⟩ := r; rfl
  | _ => exact absurd (show false = true from f) Bool.false_ne_true
theorem any_eqU {x : V} : ∀ {xs : List V} {us : List Value}, Vals xs us → xs.all flatV = true → us.any (eqU x) = xs.any fun y => eqV y x
  | _, _, .nil, _ => rfl
  | y :: xs, u :: us, .cons r t, f => by
    rw [List.all_cons, Bool.and_eq_true] at f
    rw [List.any_cons, List.any_cons, eqU_of r f.1, any_eqU t f.2]
theorem mem_eqAt {A : Around} {s : Shared} {x : V} {v : Value} (rx : RelV x v) (fx : flatV x = true) : ∀ {xs : List V} {us : List Value}, Vals xs us → xs.all flatV = true → ∀ u ∈ us, SeqAt.EqAt A s u v (eqU x u)
  | _, _, .nil, _ => fun u hu => by cases hu
  | y :: xs, u :: us, .cons r t, f => fun u' hu => by
    rw [List.all_cons, Bool.and_eq_true] at f
    rcases List.mem_cons.mp hu with rfl | hu
    · rw [eqU_of r f.1]; exact eqAt_V r rx f.1 fx
    · exact mem_eqAt rx fx t f.2 u' hu
def inV (x : V) (xs : List V) : Bool := xs.any fun y => eqV y x
/-- x in a list or tuple of flat items -/
def rIn (K : PySem.W.Frag) (neg : Bool) : R2 := fun x y H Q => ∃ p xs, y = .ref p ∧ (SqL K H p xs ∨ SqT K H p xs) ∧ flatV x = true ∧ xs.all flatV = true ∧ Q (.bl (if neg then !inV x xs else inV x xs)) H
theorem op_in_seq : OpR X (compareOp .In) (rIn X.K false) := by
  intro pins s σ H x y v u Q I rx ry h
  obtain ⟨p, xs, rfl, hq, fx, fs, q⟩ := h
  cases ry
  rcases hq with hq | hq
  · obtain ⟨its, r, pl, hz⟩ := I.list hq
    refine SeqAt.in_listAt (eqU x) pl.isList (fun w hw => mem_eqAt rx fx r fs w (by simpa using hw)) ⟨.bl _, H, I, rfl, ?_⟩
    rw [show its.toArray.any (eqU x) = its.any (eqU x) by simp, any_eqU r fs]
    exact q
  · obtain ⟨its, r, pl, hz⟩ := I.tuple hq
    refine SeqAt.in_tupleAt (eqU x) pl (fun w hw => mem_eqAt rx fx r fs w (by simpa using hw)) ⟨.bl _, H, I, rfl, ?_⟩
    rw [show its.toArray.any (eqU x) = its.any (eqU x) by simp, any_eqU r fs]
    exact q

/-! ### len, list(x), tuple(x) of any list or tuple that is read -/
theorem call_len_seq : CallR X (.builtin "len") (fun xs H Q => ∃ p ys, xs = [.ref p] ∧ (SqL X.K H p ys ∨ SqT X.K H p ys) ∧ Q (.int ys.length) H) := by
  intro pins s σ H xs us Q I r h
  obtain ⟨p, ys, rfl, hq, q⟩ := h
  obtain ⟨u, rfl, rx⟩ := vals1 r
  cases rx
  have hn := line63
  rcases hq with hq | hq
  · obtain ⟨its, r', pl, hz⟩ := I.list hq
    have hlen := r'.length
    exact Calls.call_len_list pl.isList (by simp only [List.size_toArray] <;> lia) ⟨.int ys.length, H, I.tok _, ⟨s.toks + 1, by rw [List.size_toArray, hlen]⟩, q⟩
  · obtain ⟨its, r', pl, hz⟩ := I.tuple hq
    have hlen := r'.length
    exact len_tuple pl (by simp only [List.size_toArray] <;> lia) ⟨.int ys.length, H, I.tok _, ⟨s.toks + 1, by rw [List.size_toArray, hlen]⟩, q⟩
theorem call_list_of : CallR X (.type "list") (fun xs H Q => ∃ p ys, xs = [.ref p] ∧ (SqL X.K H p ys ∨ SqT X.K H p ys) ∧ ∀ l, H l = none → Q (.ref l) (upd H l (.lst ys))) := by
  intro pins s σ H xs us Q I r h
  obtain ⟨p, ys, rfl, hq, q⟩ := h
  obtain ⟨u, rfl, rx⟩ := vals1 r
  cases rx
  have fin : ∀ (its : List Value), Vals ys its → ys.length ≤ sizeLine → ∀ (h' : Heap) (c' : Nat), (∀ b o', s.heap.get? b = some o' → h'.get? b = some o') →
      h'.get? s.heap.objs.size = some { cls := .type "list", dict := none, data := .seq its.toArray c', slots := #[] } → EP X pins σ Q (.ref s.heap.objs.size) { s with heap := h' } := fun its r' hz h' c' kp e =>
    ⟨.ref s.heap.objs.size, _, I.laid (t' := s.toks) kp (Nat.le_refl _) (show ObjOk X.prog X.w _ h' _ (.lst ys) from ⟨hz, its, c', r', e⟩), rfl, q _ (I.hok.fresh (Nat.le_refl _))⟩
  rcases hq with hq | hq
  · obtain ⟨its, r', pl, hz⟩ := I.list hq
    have hlen := r'.length
    obtain ⟨o, ho, hc, n, hd⟩ := pl.isList
    exact call_list_seq p (.inl rfl) ho hc hd (fun h' c' kp e => fin its r' hz h' c' kp e) (by simp only [List.size_toArray] <;> lia)
  · obtain ⟨its, r', pl, hz⟩ := I.tuple hq
    have hlen := r'.length
    obtain ⟨o, ho, hc, n, hd⟩ := pl
    exact call_list_seq p (.inr rfl) ho hc hd (fun h' c' kp e => fin its r' hz h' c' kp e) (by simp only [List.size_toArray] <;> lia)
theorem call_tuple_of : CallR X (.type "tuple") (fun xs H Q => ∃ p ys, xs = [.ref p] ∧ ((SqL X.K H p ys ∧ ∀ l, H l = none → Q (.ref l) (upd H l (.tup ys))) ∨ (SqT X.K H p ys ∧ Q (.ref p) H))) := by
  intro pins s σ H xs us Q I r h
  obtain ⟨p, ys, rfl, h⟩ := h
  obtain ⟨u, rfl, rx⟩ := vals1 r
  cases rx
  rcases h with ⟨hq, q⟩ | ⟨hq, q⟩
  · obtain ⟨its, r', pl, hz⟩ := I.list hq
    have hlen := r'.length
    refine call_tuple_list pl.isList (fun h' kp => ?_) (by simp only [List.size_toArray] <;> lia)
    have I1 : Inv X pins σ H { s with heap := h' } := I.kept (t' := s.toks) kp
    have I2 : Inv X pins σ (upd H h'.objs.size (.tup ys)) { s with heap := h'.push { cls := .type "tuple", data := .seq its.toArray } } :=
      I1.laid (t' := s.toks) (fun b o e => Heap.get?_push_of_some _ e) (Nat.le_refl _) (show ObjOk X.prog X.w _ _ _ (.tup ys) from ⟨hz, its, r', TupN.new _ _⟩)
    exact ⟨.ref h'.objs.size, _, I2, rfl, q _ (I1.hok.fresh (Nat.le_refl _))⟩
  · obtain ⟨its, r', pl, hz⟩ := I.tuple hq
    exact call_tuple_same pl ⟨.ref p, H, I, rfl, q⟩

/-! ### the call of a builtin's method: o.m(..) -/
/-- the value is of that builtin type -/
def tyV (K : PySem.W.Frag) (T : String) (x : V) (H : Hp) : Prop := match x with
  | .str _ => T = "str"
  | .int _ => T = "int"
  | .ref p => (T = "list" ∧ ∃ xs, SqL K H p xs) ∨ (T = "tuple" ∧ ∃ o, K.lookup p = some o ∧ o.cls = .type "tuple" ∧ o.dict = none) ∨
      (T = "dict" ∧ ((∃ kvs, H p = some (.dK kvs)) ∨ ∃ kvs, H p = some (.dT kvs))) ∨ (T = "set" ∧ ∃ S n, H p = some (.set S n))
  | _ => False
theorem tyV_is {pins : List (Addr × Obj)} {σ : St} {H : Hp} {s : Shared} {T : String} {x : V} {v : Value} (I : Inv X pins σ H s) (r : RelV x v) (ty : tyV X.K T x H) :
    s.TypeIs v T ∧ ∀ a, v = .ref a → ∃ ob, s.heap.get? a = some ob ∧ ob.dict = none := by
  cases x with
  | str z =>
    obtain ⟨t, rfl⟩ := r
    cases (show T = "str" from ty)
    exact ⟨typeIs_str s z t, fun _ e => nomatch e⟩
  | int i =>
    obtain ⟨t, rfl⟩ := r
    cases (show T = "int" from ty)
    exact ⟨typeIs_int s i t, fun _ e => nomatch e⟩
  | ref p =>
    cases r
    rcases ty with ⟨rfl, xs, hq⟩ | ⟨rfl, o, hk, hc, hd⟩ | ⟨rfl, hk⟩ | ⟨rfl, S, n, hk⟩
    · obtain ⟨its, _, pl, _⟩ := I.list hq
      refine ⟨pl.isList.typeIs, fun a e => ?_⟩
      cases e
      obtain ⟨o, n, e, c, hd, _⟩ := pl
      exact ⟨o, e, hd⟩
    · refine ⟨⟨o, I.kIn p o hk, hc⟩, fun a e => ?_⟩
      cases e
      exact ⟨o, I.kIn _ o hk, hd⟩
    · have z : ∃ o, s.heap.get? p = some o ∧ o.ExactDict := by
        rcases hk with ⟨kvs, hk⟩ | ⟨kvs, hk⟩
        · obtain ⟨_, _, _, _, o, _, _, e, ex, _⟩ := I.hok p _ hk
          exact ⟨o, e, ex⟩
        · obtain ⟨_, _, _, _, o, _, _, e, ex, _⟩ := I.hok p _ hk
          exact ⟨o, e, ex⟩
      obtain ⟨o, e, ex⟩ := z
      refine ⟨⟨o, e, ex.1⟩, fun a e2 => ?_⟩
      cases e2
      exact ⟨o, e, ex.2.1⟩
    · obtain ⟨o, _, _, _, e, ex, _⟩ := I.hok p _ hk
      refine ⟨⟨o, e, ex.1⟩, fun a e2 => ?_⟩
      cases e2
      exact ⟨o, e, ex.2.1⟩
  | _ => exact False.elim ty
def tBM0 (K : PySem.W.Frag) (T : String) (r : V → List V → Hp → VK → Prop) (to : TE) : TE := fun σ H Q => to σ H fun x H1 => tyV K T x H1 ∧ r x [] H1 Q
def tBM (K : PySem.W.Frag) (T : String) (r : V → List V → Hp → VK → Prop) (to : TE) (t : TA) : TE := fun σ H Q => to σ H fun x H1 => tyV K T x H1 ∧ t σ H1 fun xs H2 => r x xs H2 Q
variable {o e : Expr} {es : List Expr} {to : TE} {t : TA} {name : Str} {apos cpos : Pos} {T id : String} {r : V → List V → Hp → VK → Prop}
theorem pe_bm0 (pa : PlainAttrs T) (slot : Slot T name id) (hty : typeOf (.builtin id) = pure (.type "method_descriptor")) (hm : MtR X id r) (ho : PE X o to)
    (hbase : attributeBase o name X.env (eval o X.env) = eval o X.env := by rfl) (hline : (apos.endLine == cpos.line) = true := by rfl) : PE X (.Call (.Attribute o name apos) [] [] cpos) (tBM0 X.K T r to) := by
  intro pins s σ H Q I h
  refine wpAny_Call_method0_late hbase hline (thn (ho pins s σ H _ I h) ?_)
  rintro v s1 ⟨x, H1, I1, r1, ty, q1⟩
  obtain ⟨h1, h2⟩ := tyV_is I1 r1 ty
  exact ⟨T, id, pa, slot, hty, h1, h2, Calls.callWith_builtin rfl (PySem.evalArgs_none (hm pins s1 σ H1 x [] v [] Q I1 r1 .nil q1))⟩
theorem pe_bm (pa : PlainAttrs T) (slot : Slot T name id) (hty : typeOf (.builtin id) = pure (.type "method_descriptor")) (hm : MtR X id r) (ho : PE X o to) (ha : PA X (e :: es) t)
    (hbase : attributeBase o name X.env (eval o X.env) = eval o X.env := by rfl)
    (hfew : ((backTo cpos (starEach (e :: es) X.env)).all (fun x => !x.1) && (backToKw cpos (keywordEach [] X.env)).all (fun x => x.1.isSome)
      && decide ((e :: es).length + ([] : List Keyword).length + (if ([] : List Keyword).isEmpty then 0 else 1) < 30)) = true := by rfl)
    (hline : (apos.endLine == cpos.line) = true := by rfl) (hs : starEach (e :: es) X.env = (false, eval e X.env) :: starEach es X.env := by rfl) (hplain : (backTo cpos (starEach es X.env)).any (·.1) = false := by rfl) :
    PE X (.Call (.Attribute o name apos) (e :: es) [] cpos) (tBM X.K T r to t) := by
  intro pins s σ H Q I h
  refine wpAny_Call_method_late hbase hfew hline rfl (thn (ho pins s σ H _ I h) ?_)
  rintro v s1 ⟨x, H1, I1, r1, ty, q1⟩
  obtain ⟨h1, h2⟩ := tyV_is I1 r1 ty
  refine ⟨T, id, pa, slot, hty, h1, h2, ?_⟩
  have hA := ha cpos pins s1 σ H1 _ I1 q1
  rw [hs] at hA ⊢
  refine Calls.callWith_builtin (by show (false || (backTo cpos (starEach es X.env)).any (·.1)) = false; rw [hplain] <;> rfl) (Calls.evalArgs_plain ?_)
  refine thn hA ?_
  rintro us s2 ⟨vs, H2, I2, r2, q2⟩
  exact hm pins s2 σ H2 x vs v us Q I2 r1 r2 q2
/- xs.append(e), list.index on a module's tuple .. are MtR facts of 06m -/
end
end L2

namespace L2
open PySem PySem.Spec PyProof.Rows

def MtM (X : Cx) (id : String) (r : V → List V → Hp → VK → Prop) : Prop :=
  ∀ (pins : List (Addr × Obj)) (s : Shared) (σ : St) (H : Hp) (x : V) (xs : List V) (v : Value) (us : List Value) (Q : VK), Inv X pins σ H s → RelV x v → Vals xs us → r x xs H Q →
    wpAny (model X.prog X.w) X.A (call (.builtin id) (v :: us)) (EP X pins σ Q) X.xe s

/-! ### lists of values -/
theorem Vals.one {x : V} {us : List Value} (h : Vals [x] us) : ∃ u, us = [u] ∧ RelV x u := by
  cases h with
  | cons r t => cases t; exact ⟨_, rfl, r⟩
theorem Vals.zero {us : List Value} (h : Vals [] us) : us = [] := by cases h; rfl
theorem Vals.dropLast {xs : List V} {us : List Value} (h : Vals xs us) : Vals xs.dropLast us.dropLast := by
  induction h with
  | nil => exact .nil
  | cons r t ih =>
    cases t with
    | nil => exact .nil
    | cons q t' => exact .cons r ih
theorem Vals.reverse {xs : List V} {us : List Value} (h : Vals xs us) : Vals xs.reverse us.reverse := by
  induction h with
  | nil => exact .nil
  | cons r t ih => rw [List.reverse_cons, List.reverse_cons]; exact Vals.append ih (.cons r .nil)
theorem erase_last {α : Type} (l : List α) : l.eraseIdx (l.length - 1) = l.dropLast := by
  induction l with
  | nil => rfl
  | cons a r ih =>
    cases r with
    | nil => rfl
    | cons b r =>
      have e : (a :: b :: r).length - 1 = ((b :: r).length - 1) + 1 := by
        have h1 : (a :: b :: r).length = r.length + 2 := rfl
        have h2 : (b :: r).length = r.length + 1 := rfl
        lia
      rw [e, List.eraseIdx_cons_succ, ih]
      all_goals rfl

section
variable {X : Cx} {pins : List (Addr × Obj)} {σ : St} {H : Hp} {s : Shared} {l b : Addr} {xs ys zs : List V}

/-! ### the two steps: a tracked list is rewritten, a new list is laid -/
theorem Inv.lset {its its' : List Value} {n : Nat} {f : Array Value → Array Value} {t' : Nat} (I : Inv X pins σ H s) (hH : H l = some (.lst xs))
    (e : s.heap.get? l = some { cls := .type "list", data := .seq its.toArray n }) (hf : f its.toArray = its'.toArray) (hv : Vals ys its') (hz : ys.length ≤ sizeLine) :
    Inv X pins σ (upd H l (.lst ys)) { s with heap := s.heap.update l (Obj.mapSeq f), toks := t' } := by
  have q := PySem.IsL.update e f
  rw [hf] at q
  refine I.write (x := l) (e := l) (by rw [hH]; exact trivial) (.inl rfl) (fun b' u hb hu => (Heap.get?_update_other s.heap (Obj.mapSeq f) (Ne.symm hb)).trans hu) ⟨_, q⟩ ?_
  exact ⟨hz, its', _, hv, q⟩
theorem Inv.lnew {its : List Value} {t' : Nat} (I : Inv X pins σ H s) (hv : Vals ys its) (hz : ys.length ≤ sizeLine) :
    Inv X pins σ (upd H s.heap.objs.size (.lst ys)) { s with heap := s.heap.push { cls := .type "list", data := .seq its.toArray }, toks := t' } :=
  I.laid (fun _ _ q => Heap.get?_push_of_some _ q) (Nat.le_refl _) ⟨hz, its, 0, hv, Heap.get?_push_size _ rfl⟩
theorem Inv.fresh (I : Inv X pins σ H s) : H s.heap.objs.size = none := I.hok.fresh (Nat.le_refl _)
theorem Inv.lstM (I : Inv X pins σ H s) (hH : H l = some (.lst xs)) : xs.length ≤ sizeLine ∧ ∃ (its : List Value) (n : Nat), Vals xs its ∧ xs.length = its.length ∧ s.heap.get? l = some { cls := .type "list", data := .seq its.toArray n } := by
  obtain ⟨z, its, n, r, e⟩ := I.hok l _ hH
  exact ⟨z, its, n, r, r.length, e⟩

end

section
variable {X : Cx}

/-! ### methods -/
def rAppend : V → List V → Hp → VK → Prop := fun x vs H Q => ∃ l xs y, x = .ref l ∧ vs = [y] ∧ H l = some (.lst xs) ∧ xs.length < sizeLine ∧ Q .non (upd H l (.lst (xs ++ [y])))
theorem mt_append : MtM X "list.append" rAppend := by
  intro pins s σ H x vs v us Q I rx rv h
  obtain ⟨l, xs, y, rfl, rfl, hH, hz, q⟩ := h
  cases rx
  obtain ⟨u, rfl, ru⟩ := rv.one
  obtain ⟨z, its, n, r, hl, e⟩ := I.lstM hH
  refine call_meets F.slot_list_append ⟨_, e, rfl⟩ F.entry_list_append (F.args_list_append_2 _ _) (PySem.list_append l its.toArray n u (by rw [List.size_toArray]; lia)) ⟨e, ?_⟩
  refine ⟨.non, _, I.lset (its' := its ++ [u]) hH e (by simp) (r.append (.cons ru .nil)) ?_, rfl, q⟩
  rw [List.length_append, List.length_singleton]
  lia


def rPop : V → List V → Hp → VK → Prop := fun x vs H Q => ∃ l xs y, x = .ref l ∧ vs = [] ∧ H l = some (.lst xs) ∧ xs[xs.length - 1]? = some y ∧ Q y (upd H l (.lst xs.dropLast))
theorem mt_pop : MtM X "list.pop" rPop := by
  intro pins s σ H x vs v us Q I rx rv h
  obtain ⟨l, xs, y, rfl, rfl, hH, hy, q⟩ := h
  cases rx
  have hus := rv.zero
  subst hus
  obtain ⟨z, its, n, r, hl, e⟩ := I.lstM hH
  obtain ⟨u, hu, ru⟩ := r.get hy
  have hy' : its.toArray[its.toArray.size - 1]? = some u := by
    show its.toArray[its.length - 1]? = some u
    rw [← Array.getElem?_toList, ← hl]
    exact hu
  refine call_meets F.slot_list_pop ⟨_, e, rfl⟩ F.entry_list_pop (F.args_list_pop_1 _) (MeetsSeq.list_pop_last l its.toArray n u hy' (by rw [List.size_toArray]; lia)) ⟨e, ?_⟩
  refine ⟨y, _, I.lset (its' := its.dropLast) hH e ?_ r.dropLast ?_, ru, q⟩
  · show its.toArray.eraseIdxIfInBounds (its.toArray.size - 1) = its.dropLast.toArray
    rw [List.size_toArray, List.eraseIdxIfInBounds_toArray, erase_last]
  · rw [List.length_dropLast]
    lia




/-! ### list + list, list += list, list * int -/
def rCat : R2 := fun x y H Q => ∃ l b xs zs, x = .ref l ∧ y = .ref b ∧ H l = some (.lst xs) ∧ H b = some (.lst zs) ∧ xs.length + zs.length ≤ sizeLine ∧ ∀ p, H p = none → Q (.ref p) (upd H p (.lst (xs ++ zs)))
theorem op_cat : OpR X (binaryOp .Add) rCat := by
  intro pins s σ H x y v u Q I rx ry h
  obtain ⟨l, b, xs, zs, rfl, rfl, hH, hB, hz, q⟩ := h
  cases rx
  cases ry
  obtain ⟨z, its, n, r, hl, e⟩ := I.lstM hH
  obtain ⟨z2, its2, n2, r2, hl2, e2⟩ := I.lstM hB
  refine PySem.P.add_list e e2 ?_ (by rw [List.size_toArray, List.size_toArray]; lia)
  have ea : its.toArray ++ its2.toArray = (its ++ its2).toArray := by simp
  rw [ea]
  exact ⟨.ref _, _, I.lnew (t' := s.toks) (r.append r2) (by rw [List.length_append]; lia), rfl, q _ I.fresh⟩

/-! ### del xs[i] -/
end

/-! ### xs[a:b] = ys -/
section
variable {prog : Program} {w : World} {A : Around} {E : Value → Shared → Prop} {s : Shared}
end

section
variable {X : Cx}
end
end L2

namespace Att
open PySem PySem.W PySem.Calls PyProof.Rows

/-! ### the script -/
theorem ints_of_wellAll {P : Params} {h : Heap} : ∀ (ns : List Int) (vs : List Value), WellAll P h vs (ns.map WData.int) → IntsAre vs ns := by
  intro ns
  induction ns with
  | nil =>
    intro vs w
    rw [List.map_nil] at w
    cases w
    exact .nil
  | cons n ns ih =>
    intro vs w
    rw [List.map_cons] at w
    cases w with
    | cons a b =>
      cases a
      exact .cons _ _ (ih _ b)

theorem script_of {l : OpenLaw} {n : Nat} (hn : l.most = some n) {P : Params} {h : Heap} {args : List WData} {vals : List Value}
    (hpre : l.row.toRowW.claim.pre args = true) (hwl : WellAll P h vals args) :
    ∃ a vs ns, vals = [Value.ref a] ∧ args = [WData.list (ns.map WData.int)] ∧ h.get? a = some { cls := .type "list", data := .seq vs.toArray } ∧ IntsAre vs ns ∧ ns.length ≤ n := by
  have hsh : WShape.hasAll [] args [.list .int] = true := (pre_splitW hpre).1
  have hc : l.pre.holds [] { args := args } = true := (pre_splitW hpre).2
  obtain ⟨d, r, rfl, h1, h2⟩ := hasAllW_cons hsh
  obtain rfl := hasAllW_nil h2
  obtain ⟨xs, rfl, h3⟩ := hasW_list h1
  obtain ⟨ns, rfl⟩ := items_int h3
  have hlen : ns.length ≤ n := by
    unfold OpenLaw.pre at hc
    have h4 : (WTm.not (.lt (.lit (.int (n : Int))) (.len (.arg 0)))).holds [] { args := [.list (ns.map .int)] } = true := by
      have h4 := (holds_andW hc).1
      rw [hn] at h4
      exact h4
    have h5 := condW_of h4 (w_not (w_lt w_lit (w_len_list (w_arg rfl))))
    rw [List.length_map] at h5
    refine Nat.le_of_not_lt fun q => ?_
    have q' : (n : Int) < ((ns.length : Nat) : Int) := by lia
    first
      | (rw [decide_eq_true q'] at h5; exact absurd h5 (by decide))
      | (simp at h5; lia)
  cases hwl with
  | cons w1 w2 =>
    cases w2
    cases w1 with
    | list ho hall => exact ⟨_, _, ns, rfl, rfl, ho, ints_of_wellAll ns _ hall, hlen⟩

theorem post_true (l : OpenLaw) (args : List WData) : l.row.toRowW.claim.post args (.bool true) args = true :=
  postW_of (r := l.row.toRowW) (X := (true == true))
    (show WShape.has [] (.bool true) .bool = true by first | rfl | decide | simp [WShape.has, WShape.arms, WShape.armsAll])
    (show (WTm.eq .res (.lit (.bool true))).value [] { args := args, res := some (.bool true), after := args } = some (.bool (true == true)) from w_eq_bool (w_res rfl) w_lit) rfl

/-! ### the attachment: holds_open's last premise (the goal 'hc' behind k_head) from a wpAny of the law's body -/

/-- the same from a codeAny of the CALL (for a layer whose function contracts speak of calls) -/
theorem attach_call {l : OpenLaw} {n : Nat} {q : Program} {loose : List Str} {XP : (Str → Option Value) → Heap → Prop} {YP : World → Heap → Prop} {d : DefRec}
    (hn : l.most = some n) (hdf : d.params.defaults = [])
    (call : ∀ (w : World) (s₀ s₁ : Shared) (mg mb : Str → Option Value) (fa : Addr) (o : Obj) (pm cd doc : Value) (a : Addr) (vs : List Value) (ns : List Int),
      Ground q loose [] XP w s₀ mg mb s₁.heap → YP w s₁.heap →
      s₁.heap.get? fa = some o → o.data = .func (docDef d.name d.params d.body d.scope pm cd doc) → s₁.heap.CodeRec cd d.name → mg d.name = some (.ref fa) →
      s₁.heap.get? a = some { cls := .type "list", data := .seq vs.toArray } → IntsAre vs ns → ns.length ≤ n → s₁.gens = #[] →
      codeAny (model l.prog w) callerA (.call (.ref fa) ⟨[.ref a], []⟩) (fun r s' => r = .ok (.ret (.bool true)) ∧ OldK s₁.heap s'.heap ∧ s'.os = s₁.os ∧ AllBare s'.gens) s₁) :
    WalkO q loose XP YP l.row.toRowW d [] (fun f vs => PySem.call f vs) := by
  intro w s₀ s₁ mg mb G Y fa o pm cd doc dV kV ho hd hcd hD hmg hg args vals as hpre hlay hrd hwl hlo
  obtain rfl : dV = .none := Dflts.none hD hdf
  obtain rfl : kV = .none := Dflts.noKw hD
  obtain ⟨a, vs, ns, rfl, rfl, hobj, hints, hlen⟩ := script_of hn hpre hwl
  refine enter_call (codeAny_mono (call w s₀ s₁ mg mb fa o pm cd doc a vs ns G Y ho (fd_plain hd) hcd hmg hobj hints hlen hg) fun r s' hq => ?_)
  obtain ⟨rfl, h2, h3, h4⟩ := hq
  exact ⟨.inl ⟨.bool true, .bool true, [], rfl, fun _ => rfl, .bool true, post_true l _, fun _ => ⟨List.Pairwise.nil, fun _ hm => (nomatch hm)⟩⟩, h2, h3, h4⟩


/-! ### rules over ANY heap (no ledger) from facts about the written part K: the library's own take a ledger (News) for what they write -/
section
variable {prog : Program} {w : World} {A : Around} {E : Value → Shared → Prop} {s : Shared} {K : Frag}





/-! the whole heap as the ledger: makes every rule that writes through a ledger a rule over any heap -/
def ledger (h : Heap) (L d : Addr) : List (Addr × Obj) := (List.range h.objs.size).filterMap fun a => if a = L ∨ a = d then none else (h.get? a).map fun o => (a, o)

end
end Att

namespace L2
open PySem PySem.Spec PyProof.Rows

theorem vals_ints : ∀ {vs : List Value} {ns : List Int}, IntsAre vs ns → Vals (ns.map V.int) vs
  | _, _, .nil => .nil
  | _, _, .cons n t h => .cons ⟨t, rfl⟩ (vals_ints h)

/-- nothing is tracked but the script, known to the object (or it is an object of the module) -/
def Only (H : Hp) : Prop := ∀ b, H b = none ∨ ∃ o xs, H b = some (.frz o (.lst xs))

/-- THE HEAD: the law's promise, at the heap behind the top. F, the promise of the law's def, may use that base is part of the heap (so K.In base, base.Ns mainGlobals mg stand in Mod) -/
theorem law_call {P : Program} {w : World} {K : PySem.W.Frag} {mg mb : Str → Option Value} {CX : CXT} {k : Nat} {fa a : Addr} {fd : FuncData} {x : Str} {sp : Sp} {s₁ : Shared} {vs : List Value} {ns : List Int}
    (KX : K.In s₁.heap) (hns : s₁.heap.Ns mainGlobals mg) (hb : s₁.heap.Ns builtinsNs mb) (hbb : ∀ x : Str, x ≠ "__name__" → mb x = bootBuiltins x) (hlim : s₁.heap.NoLimit) (hg : s₁.gens = #[])
    (ha : s₁.heap.get? a = some { cls := .type "list", data := .seq vs.toArray }) (hi : IntsAre vs ns) (hl : ns.length ≤ sizeLine) (hr : Room k callerA)
    (F : ∀ base : Heap, K.In base → base.Ns mainGlobals mg → FnOk P w K mg base CX k fa fd [x] sp) (hbind : ∀ (s : Shared) (u : Value), BindsTo s fd ⟨[u], []⟩ [(x, u)])
    (hsp : ∀ H : Hp, Only H → SqL K H a (ns.map V.int) → sp [.ref a] H (fun v _ => v = .bl true) fun _ _ _ => False)
    (hCX : ∀ H e s', CX [] H s₁ (fun _ _ _ => False) e s' → False) :
    codeAny (model P w) callerA (.call (.ref fa) ⟨[.ref a], []⟩) (fun r s' => r = .ok (.ret (.bool true)) ∧ OldK s₁.heap s'.heap ∧ s'.os = s₁.os ∧ AllBare s'.gens) s₁ := by
  have rv := vals_ints hi
  have lenV := hi.length
  -- from an abstract heap in which nothing but the script may be tracked
  have core : ∀ H : Hp, Only H → SqL K H a (ns.map V.int) → HOk P w H s₁.heap → (∀ b, H b ≠ none → b = a) → (H a ≠ none → K.lookup a = none) →
      codeAny (model P w) callerA (.call (.ref fa) ⟨[.ref a], []⟩) (fun r s' => r = .ok (.ret (.bool true)) ∧ OldK s₁.heap s'.heap ∧ s'.os = s₁.os ∧ AllBare s'.gens) s₁ := by
    intro H hO hS hok hA hK
    have base_of : ∀ {b : Addr} {o : Obj}, s₁.heap.get? b = some o → H b = none → (hidT s₁.heap H).get? b = some o := fun e n => hidT_get e n
    have noA : ∀ {b : Addr} {o : Obj} {es : Array DictEntry} {ep : Nat}, s₁.heap.get? b = some o → o.data = .dict es ep → H b = none := fun {b o es ep} e d => by
      cases q : H b with
      | none => rfl
      | some u =>
        have e' : b = a := hA b (by rw [q]; simp)
        subst e'
        rw [ha] at e; cases e
        have d' : Data.seq vs.toArray _ = Data.dict es ep := d
        cases d'
    have nsK : ∀ {b : Addr} {m : Str → Option Value}, s₁.heap.Ns b m → (hidT s₁.heap H).Ns b m := fun {b m} ⟨o, es, ep, e, d, r⟩ => ⟨o, es, ep, base_of e (noA e d), d, r⟩
    have hKb : K.In (hidT s₁.heap H) := fun b o e => base_of (KX b o e) (by
      cases q : H b with
      | none => rfl
      | some u =>
        have e' : b = a := hA b (by rw [q]; simp)
        subst e'
        rw [hK (by rw [q]; simp)] at e; cases e)
    have hM : Mod K mg (hidT s₁.heap H) := ⟨hKb, nsK hns, ⟨mb, nsK hb, hbb⟩, let ⟨mc, h1, h2⟩ := hlim; ⟨mc, nsK h1, h2⟩⟩
    have e0 : Env0 P w K mg (hidT s₁.heap H) callerA [] s₁ H := ⟨rfl, hM, fun b o e => of_hidT e, Nat.le_of_eq (hidT_size _ _), trivial, fun b hb => absurd (show b ∈ ([] : List Addr) from hb) (by simp), hok, .of_eq hg⟩
    refine codeAny_mono ((F _ hKb (nsK hns)).run callerA [] s₁ H ⟨[.ref a], []⟩ [.ref a] [.ref a] _ _ hr e0 (hbind s₁ (.ref a)) (.cons rfl .nil) (hsp H hO hS)) fun r s' h => ?_
    cases r with
    | error e => exact (hCX H e s' h).elim
    | ok fl =>
      cases fl with
      | next => exact False.elim h
      | brk => exact False.elim h
      | cont => exact False.elim h
      | ret u =>
        obtain ⟨v, H', os, bare, un, hok', r', q⟩ := h
        have q' : v = .bl true := q
        subst q'
        obtain rfl : u = Value.bool true := r'
        refine ⟨rfl, OldK.of_keep fun b o e => ?_, os, bare⟩
        cases q : H b with
        | none => exact un.keep b o e q (by intro z; exact absurd (show b ∈ ([] : List Addr) from z) (by simp)) (by simp)
        | some u =>
          rcases hO b with z | ⟨ob, xs, z⟩
          · rw [q] at z; cases z
          · have z2 := un.frzs b ob _ z
            obtain ⟨e1, _⟩ := hok b _ z
            obtain ⟨e2, _⟩ := hok' b _ z2
            rw [e] at e1; cases e1
            exact e2
  cases hk : K.lookup a with
  | some o =>
    -- the script is one of the module's own objects
    have e := KX a o hk
    rw [ha] at e
    cases e
    refine core (fun _ => none) (fun _ => .inl rfl) (.inr ⟨_, vs.toArray, _, hk, rfl, rfl, rfl, by rw [List.size_toArray, lenV]; exact hl, by simpa using rv⟩) (fun b u z => by have z' : (none : Option HO) = some u := z; cases z') (fun b z => absurd rfl z) fun z => absurd rfl z
  | none =>
    refine core (fun b => if b = a then some (.frz { cls := .type "list", data := .seq vs.toArray } (.lst (ns.map V.int))) else none) (fun b => ?_) (.inl (.inr ⟨{ cls := .type "list", data := .seq vs.toArray }, if_pos rfl⟩)) (fun b u z => ?_) (fun b z => ?_) fun _ => hk
    · by_cases hb : b = a
      · exact .inr ⟨_, _, if_pos hb⟩
      · exact .inl (if_neg hb)
    · by_cases hb : b = a
      · have z' := (if_pos hb).symm.trans z
        cases z'
        subst hb
        exact ⟨ha, by rw [List.length_map]; exact hl, vs, _, rv, ha⟩
      · have z' := (if_neg hb).symm.trans z
        cases z'
    · by_cases hb : b = a
      · exact hb
      · exact absurd (if_neg hb) z
end L2

namespace L2
open PySem PySem.Spec PyProof.Rows


/-- the goal that k_head leaves (case hc), from the law's promise. F gives the function object fd (K's own) once, then the promise over every base -/
theorem walk_of {l : PySem.W.OpenLaw} {n k : Nat} {q : Program} {loose : List Str} {XP : (Str → Option Value) → Heap → Prop} {YP : World → Heap → Prop} {d : DefRec} {K : Params → PySem.W.Frag} {CX : World → CXT} {sp : World → Sp} {x : Str}
    (hn : l.most = some n) (hn2 : n ≤ sizeLine) (hdf : d.params.defaults = []) (hr : Room k callerA)
    (hY : ∀ (w : World) (h : Heap), YP w h → (K w.params).In h)
    (F : ∀ (w : World) (mg : Str → Option Value) (fa : Addr) (h : Heap), (K w.params).In h → h.Ns mainGlobals mg → mg d.name = some (.ref fa) →
      ∃ fd : FuncData, (∀ (s : Shared) (u : Value), BindsTo s fd ⟨[u], []⟩ [(x, u)]) ∧
        ∀ base : Heap, (K w.params).In base → base.Ns mainGlobals mg → FnOk l.prog w (K w.params) mg base (CX w) k fa fd [x] (sp w))
    (hsp : ∀ (w : World) (H : Hp) (a : Addr) (ns : List Int), ns.length ≤ n → Only H → SqL (K w.params) H a (ns.map V.int) → sp w [.ref a] H (fun v _ => v = .bl true) fun _ _ _ => False)
    (hCX : ∀ (w : World) (H : Hp) (s : Shared) (e : Value) (s' : Shared), CX w [] H s (fun _ _ _ => False) e s' → False) :
    PySem.W.WalkO q loose XP YP l.row.toRowW d [] (fun f vs => PySem.call f vs) := by
  refine Att.attach_call hn hdf fun w s₀ s₁ mg mb fa o pm cd doc a vs ns G Y ho hd hcd hmg hobj hints hlen hg => ?_
  have KX := hY w _ Y
  obtain ⟨fd, hb, hF⟩ := F w mg fa _ KX G.T.g hmg
  exact law_call KX G.T.g G.T.b G.T.builtins G.T.nolimit hg hobj hints (Nat.le_trans hlen hn2) hr hF hb (fun H hO hS => hsp w H a ns hlen hO hS) fun H e s' => hCX w H s₁ e s'
end L2



/-! SHORT WORDS over the layer: a def of the text, its body, what a loop and a test want. -/
namespace L2
open PySem PySem.Spec PyProof.Rows

/-! ### the text by places -/
/-- the j-th statement of a class's body -/
def inClass (s : Stmt) (j : Nat) : Stmt := match s with
  | .ClassDef _ _ _ body _ _ _ _ _ _ _ => body.getD j (.Pass ⟨0, 0, 0, 0⟩)
  | _ => .Pass ⟨0, 0, 0, 0⟩
def defArgs (s : Stmt) : Arguments := match s with
  | .FunctionDef _ a _ _ _ _ _ _ _ _ => a
  | _ => { posonlyargs := [], args := [], vararg := none, kwonlyargs := [], kw_defaults := [], kwarg := none, defaults := [] }
def defBody (s : Stmt) : List Stmt := match s with
  | .FunctionDef _ _ b _ _ _ _ _ _ _ => b
  | _ => []
def defScope (s : Stmt) : Scope := match s with
  | .FunctionDef _ _ _ _ _ _ sc _ _ _ => sc
  | _ => { kind := .function, names := [], isGenerator := false, isCoroutine := false }

/-! ### no exception leaves a def -/
abbrev CX0 : CXT := fun _ _ _ _ _ _ => False
abbrev E0 : XK := fun _ _ _ => False
theorem pass0 {X : Cx} : Passes CX0 X E0 := fun _ _ _ _ _ _ _ h => h.elim

/-! ### a def (or method) of the text as it stands behind the top -/
structure Fun (K : PySem.W.Frag) (x qual : Str) (st : Stmt) (f : Addr) (fd : FuncData) : Prop where
  ex : ∃ (oc : Value) (od : Option Addr) (kV doc pm : Value) (an : Option Addr) (cdv ct : Value) (osl : Array (Option Value)),
    fd = PySem.W.fnOf x qual (defArgs st) (defBody st) (defScope st) .none kV doc pm an cdv ct ∧ K.lookup f = some ⟨oc, od, .func fd, osl⟩ ∧ PySem.W.codeIn K cdv qual = true
  kp : PySem.W.keepIn K (.ref f) = true
section
variable {P : Program} {w : World} {K : PySem.W.Frag} {mg : Str → Option Value} {base : Heap}
/-- THE RULE for a def: its body as a term of rules, and the reading of that term -/
theorem Fun.ok {x qual : Str} {st : Stmt} {f : Addr} {fd : FuncData} {N ps : List Str} {k : Nat} {sp : Sp} (F : Fun K x qual st f fd) (S : FnScope N ps (defScope st)) (len : ∀ vs H Q E, sp vs H Q E → vs.length = ps.length)
    (hbody : ∀ (cdv : Value) (A : Around) (outer : List Env) (s : Shared) (H : Hp) (vs : List V) (Q : VK) (E : XK), Room k (A.deeper (envOfC qual (defScope st) s.heap.objs.size f cdv)) → sp vs H Q E →
      ∃ t, PSs (cxOf CX0 P w K mg base N qual (defScope st) f cdv A outer s H E).nox (defBody st) t ∧ t { nx := fun _ H' => Q .non H', rt := Q } (start N vs) H) : FnOk P w K mg base CX0 (k + 1) f fd ps sp := by
  obtain ⟨oc, od, kV, doc, pm, an, cdv, ct, osl, rfl, lk, hcd⟩ := F.ex
  refine fn_of lk hcd S len fun A outer s H vs Q E hr hsp => ?_
  obtain ⟨t, h, q⟩ := hbody cdv A outer s H vs Q E hr hsp
  exact ⟨t, h.nox, q⟩
/-- how its arguments bind (no defaults): h is «fun _ _ _ _ _ _ us hl => match us, hl with | [_, _], _ => rfl», one _ a parameter -/
theorem Fun.binds {x qual : Str} {st : Stmt} {f : Addr} {fd : FuncData} {ps : List Str} (F : Fun K x qual st f fd)
    (h : ∀ (kV doc pm : Value) (an : Option Addr) (cdv ct : Value) (us : List Value), us.length = ps.length → bindArgs (PySem.W.fnOf x qual (defArgs st) (defBody st) (defScope st) .none kV doc pm an cdv ct) ⟨us, []⟩ = pure (ps.zip us)) : Binds K fd ps [] := by
  obtain ⟨oc, od, kV, doc, pm, an, cdv, ct, osl, rfl, lk, hcd⟩ := F.ex
  exact .all (h kV doc pm an cdv ct)
theorem fun_mk {x qual : Str} {st : Stmt} {f : Addr} {oc : Value} {od an : Option Addr} {osl : Array (Option Value)} {kV doc pm cdv ct : Value} (l : K.lookup f = some ⟨oc, od, .func (PySem.W.fnOf x qual (defArgs st) (defBody st) (defScope st) .none kV doc pm an cdv ct), osl⟩)
    (c : PySem.W.codeIn K cdv qual = true) (k : PySem.W.keepIn K (.ref f) = true) : Fun K x qual st f (PySem.W.fnOf x qual (defArgs st) (defBody st) (defScope st) .none kV doc pm an cdv ct) := ⟨⟨oc, od, kV, doc, pm, an, cdv, ct, osl, rfl, l, c⟩, k⟩
end
theorem hu_of {A : Around} {k : Nat} (hr : Room k A) : A.units + 1 < cLine := Nat.lt_of_le_of_lt (Nat.add_le_add_left (by decide : 1 ≤ 64) _) hr.units

/-! ### expressions in short: the name that stands in the i-th slot -/
section
variable {X : Cx}
theorem pv (i : Nat) {x : Str} {pos : Pos} (hN : X.N[i]? = some x := by rfl) (hv : Vis X.env.scope x := by first | exact Or.inl rfl | exact Or.inr (Or.inl rfl) | exact Or.inr (Or.inr rfl)) (hd : (x == ("__debug__" : Str)) = false := by decide)
    (hcd : (x == ("__classdict__" : Str)) = false := by decide) : PE X (.Name x pos) (tVar i) := pe_var hN hv hd hcd
end

/-! ### tests -/
theorem iteF {A B : Prop} (h : B) : if false = true then A else B := by
  rw [if_neg Bool.false_ne_true]
  exact h
theorem iteT {A B : Prop} (h : A) : if true = true then A else B := by
  rw [if_pos rfl]
  exact h
theorem ite2 {c A B : Prop} [Decidable c] (h1 : c → A) (h2 : ¬ c → B) : if c then A else B := by
  by_cases h : c
  · rw [if_pos h]
    exact h1 h
  · rw [if_neg h]
    exact h2 h

/-! ### heaps -/
/-- all that was tracked is as it was -/
def Same (H H' : Hp) : Prop := ∀ b o, H b = some o → H' b = some o
theorem Same.refl (H : Hp) : Same H H := fun _ _ h => h
theorem Same.trans {H H1 H2 : Hp} (a : Same H H1) (b : Same H1 H2) : Same H H2 := fun c o h => b c o (a c o h)
theorem Same.free {H H' : Hp} (e : Same H H') {l : Addr} (h : H' l = Option.none) : H l = Option.none := by
  cases q : H l with
  | none => rfl
  | some o =>
    rw [e l o q] at h
    cases h
theorem Same.seq {K : PySem.W.Frag} {H H' : Hp} {a : Addr} {xs : List V} (e : Same H H') (h : SqL K H a xs) : SqL K H' a xs := by
  rcases h with (h | ⟨o, h⟩) | h
  · exact .inl (.inl (e _ _ h))
  · exact .inl (.inr ⟨o, e _ _ h⟩)
  · exact .inr h

end L2

set_option Elab.async false
set_option linter.all false
set_option maxRecDepth 100000
set_option maxHeartbeats 4000000
/-! A list comprehension of one clause over the hand layer: own work. -/
namespace L2
open PySem PySem.Spec PyProof.Rows

section
variable {prog : Program} {w : World} {A : Around} {R : Result → Shared → Prop} {s : Shared}
/-- the loop of a comprehension, its owned tuple let go, no exception within -/
theorem compLoop_own {elt target iter : Expr} {ifs : List Expr} {scope : Scope} {pos : Pos} {it acc : Value} {env : Env} (I : Nat → Shared → Prop)
    (turn : ∀ n s, I n s → wpAny (model prog w) A (pyNext it) (fun r s₁ => match r with
      | none => R (.ok .next) s₁
      | some v => wpAny (model prog w) A (letOwnedTupleGo target it v) (fun _ s₁' => wpAny (model prog w) A (assign target env v) (fun _ s₂ =>
          wpAny (model prog w) A (forIn ifs true fun c r => if r = true then do let ok ← isTrue c env (eval c env); pure (ForInStep.yield ok) else pure (ForInStep.yield r)) (fun ok s₃ =>
            if ok = true then wpAny (model prog w) A (eval elt env) (fun x s₄ =>
              wpAny (model prog w) A (call (.builtin "list.append") [acc, x]) (fun _ s₅ => ∃ m, m < n ∧ I m s₅) (fun _ _ => False) s₄) (fun _ _ => False) s₃
            else ∃ m, m < n ∧ I m s₃) (fun _ _ => False) s₂) (fun _ _ => False) s₁') (fun _ _ => False) s₁) (fun _ _ => False) s)
    (n : Nat) (h : I n s) : codeAny (model prog w) A (.compLoop (.ListComp elt [⟨target, iter, ifs, 0⟩] scope pos) 0 it acc env) R s := by
  refine codeAny_loop rfl I (fun n s hI => ?_) n h
  show wpAny _ A ((compTurn (.ListComp elt [⟨target, iter, ifs, 0⟩] scope pos) 0 it acc env).onRaise (fun x => do noteFrame x env; theTreesLotGoes x)) _ _ s
  refine wpAny_noted ?_
  rw [compTurn_list]
  refine wpAny_bind (wpAny_standAt (wpAny_bind (wpAny_mono (turn n s hI) (fun r s₁ h₁ => ?_) fun _ _ h' => h'.elim)))
  cases r with
  | none => exact wpAny_pure h₁
  | some v =>
    refine wpAny_bind (wpAny_mono h₁ (fun _ s₁' h₁' => wpAny_bind (wpAny_mono h₁' (fun _ s₂ h₂ => wpAny_bind (wpAny_mono h₂ (fun ok s₃ h₃ => ?_) fun _ _ h' => h'.elim)) fun _ _ h' => h'.elim)) fun _ _ h' => h'.elim)
    cases ok with
    | false => exact wpAny_pure ⟨rfl, h₃⟩
    | true =>
      exact wpAny_bind (wpAny_bind (wpAny_mono h₃ (fun x s₄ h₄ => wpAny_bind (wpAny_mono h₄ (fun _ s₅ h₅ => wpAny_pure (wpAny_pure ⟨rfl, h₅⟩)) fun _ _ h' => h'.elim)) fun _ _ h' => h'.elim))
end

/-- the cells that a comprehension's block takes from around it -/
theorem closure_of {scope : Scope} {env : Env} (h : ∀ y ∈ scope.names, y.2 = .free → ∃ c, env.cells.lookup y.1 = some c) :
    ∃ cl, closureFor scope env = pure cl ∧ (∀ x c, cl.lookup x = some c → env.cells.lookup x = some c) ∧ (∀ x, (x, NameKind.free) ∈ scope.names → ∃ c, cl.lookup x = some c) := by
  have key : ∀ (l : List (Str × NameKind)) (cs : List (Str × Addr)), (∀ y ∈ l, y.2 = .free → ∃ c, env.cells.lookup y.1 = some c) → (∀ x c, cs.lookup x = some c → env.cells.lookup x = some c) →
      ∃ cl, (forIn l cs (fun (p : Str × NameKind) (r : List (Str × Addr)) => (do
          if p.2 == NameKind.free then do
            let a ← cellOf env p.1
            pure (ForInStep.yield ((p.1, a) :: r))
          else pure (ForInStep.yield r) : Sem (ForInStep (List (Str × Addr)))))) = pure cl ∧ (∀ x c, cl.lookup x = some c → env.cells.lookup x = some c) ∧ (∀ x, ((x, NameKind.free) ∈ l ∨ ∃ c, cs.lookup x = some c) → ∃ c, cl.lookup x = some c) := by
    intro l
    induction l with
    | nil => intro cs _ hc; exact ⟨cs, rfl, hc, fun x hx => hx.elim (fun z => by cases z) id⟩
    | cons p r ih =>
      intro cs hl hc
      obtain ⟨n, k⟩ := p
      by_cases hk : k = .free
      · subst hk
        obtain ⟨c, e⟩ := hl (n, .free) List.mem_cons_self rfl
        obtain ⟨cl, e1, e2, e3⟩ := ih ((n, c) :: cs) (fun y hy => hl y (List.mem_cons_of_mem _ hy)) (fun x c' q => by
          rw [List.lookup_cons] at q
          by_cases hx : x == n
          · rw [hx] at q; cases q; rw [eq_of_beq hx]; exact e
          · have hx' : (x == n) = false := by simpa using hx
            rw [hx'] at q; exact hc x c' q)
        refine ⟨cl, ?_, e2, fun x hx => e3 x ?_⟩
        · rw [List.forIn_cons]
          have : (cellOf env n) = pure c := by unfold cellOf; rw [e]
          simp only [beq_self_eq_true, if_true, this, pure_bind]
          exact e1
        · rcases hx with hx | ⟨c', hx⟩
          · rcases List.mem_cons.mp hx with z | z
            · cases z; exact .inr ⟨c, by simp⟩
            · exact .inl z
          · by_cases q : x == n
            · exact .inr ⟨c, by rw [List.lookup_cons, q]⟩
            · have q' : (x == n) = false := by simpa using q
              exact .inr ⟨c', by rw [List.lookup_cons, q']; exact hx⟩
      · obtain ⟨cl, e1, e2, e3⟩ := ih cs (fun y hy => hl y (List.mem_cons_of_mem _ hy)) hc
        refine ⟨cl, ?_, e2, fun x hx => e3 x ?_⟩
        · rw [List.forIn_cons]
          have hb : (k == NameKind.free) = false := by simpa using hk
          simp only [hb, Bool.false_eq_true, if_false, pure_bind]
          exact e1
        · rcases hx with hx | hx
          · rcases List.mem_cons.mp hx with z | z
            · cases z; exact absurd rfl hk
            · exact .inl z
          · exact .inr hx
  obtain ⟨cl, e1, e2, e3⟩ := key scope.names [] h (fun x c q => by cases q)
  refine ⟨cl, ?_, e2, fun x hx => e3 x (.inl hx)⟩
  unfold closureFor
  have e1' := e1
  simp only [bind_pure] at e1' ⊢
  first
    | exact e1'
    | (rw [← e1']; rfl)
    | (show (forIn scope.names [] _ >>= fun r => pure r) = _; rw [bind_pure]; exact e1')
end L2

namespace L2
open PySem PySem.Spec PyProof.Rows

/-- what a comprehension's scope must be, over the def's own scope (outer), the def's names N; ks: which of N the block sees -/
structure LcS (outer names : List (Str × NameKind)) (N : List Str) (ks : List Bool) : Prop where
  fv : ∀ y ∈ names, y.2 = .free → outer.lookup y.1 = some .cell ∨ outer.lookup y.1 = some .free
  nocell : ∀ y ∈ names, y.2 ≠ .cell
  loc : ∀ y ∈ names, y.2 = .local → names.lookup y.1 = some .local
  free : ∀ y ∈ names, y.2 = .free → names.lookup y.1 = some .free
  vis : ∀ p ∈ N.zip ks, p.2 = true → names.lookup p.1 = some .free
  len : ks.length = N.length

/-- the values that the block sees -/
def mask (ks : List Bool) (σ : St) : St := List.zipWith (fun k v => if k then v else none) ks σ
theorem mask_get {ks : List Bool} {σ : St} {i : Nat} {v : V} (h : (mask ks σ)[i]? = some (some v)) : ks[i]? = some true ∧ σ[i]? = some (some v) := by
  unfold mask at h
  rw [List.getElem?_zipWith] at h
  cases e1 : ks[i]? with
  | none => rw [e1] at h; cases h
  | some k =>
    cases e2 : σ[i]? with
    | none => rw [e1, e2] at h; cases h
    | some u =>
      rw [e1, e2] at h
      cases k with
      | true => simp at h; subst h; exact ⟨rfl, rfl⟩
      | false => simp at h
theorem mask_len {ks : List Bool} {σ : St} (h : ks.length = σ.length) : (mask ks σ).length = σ.length := by
  unfold mask; rw [List.length_zipWith, h, Nat.min_self]

/-- the block's context -/
def cxLC (X : Cx) (scope : Scope) (cl : List (Str × Addr)) (ext : List Str) (C : Addr) (fp : List Addr) (s₀ : Shared) (H₀ : Hp) : Cx :=
  { X with N := X.N ++ ext, env := compEnvC scope cl C X.env, s₀ := s₀, H₀ := H₀, outer := X.stack, ex := fp, fn := fun _ => false, pn := [], xe := fun _ _ => False }

theorem relabel_kind {env : Env} : ∀ {names : List (Str × NameKind)} {x : Str} {k' : NameKind},
    (names.map fun (n, k) => if (k == NameKind.free && env.scope.kind == .function && env.kindOf n == some .cell) then (n, NameKind.cell) else (n, k)).lookup x = some k' →
    names.lookup x = some k' ∨ (k' = .cell ∧ names.lookup x = some .free)
  | [], _, _, h => by simp at h
  | (n, k) :: r, x, k', h => by
    have h : List.lookup x ((if (k == NameKind.free && env.scope.kind == .function && env.kindOf n == some .cell) = true then (n, NameKind.cell) else (n, k)) :: (r.map fun (n, k) => if (k == NameKind.free && env.scope.kind == .function && env.kindOf n == some .cell) then (n, NameKind.cell) else (n, k))) = some k' := h
    cases hx : x == n with
    | true =>
      by_cases hc : (k == NameKind.free && env.scope.kind == .function && env.kindOf n == some .cell) = true
      · rw [if_pos hc] at h
        simp only [List.lookup_cons, hx] at h
        cases h
        simp only [Bool.and_eq_true, beq_iff_eq] at hc
        exact .inr ⟨rfl, by simp only [List.lookup_cons, hx]; rw [hc.1.1]⟩
      · rw [if_neg hc] at h
        simp only [List.lookup_cons, hx] at h
        cases h
        exact .inl (by simp only [List.lookup_cons, hx])
    | false =>
      have h' : (r.map fun (n, k) => if (k == NameKind.free && env.scope.kind == .function && env.kindOf n == some .cell) then (n, NameKind.cell) else (n, k)).lookup x = some k' := by
        split at h <;> simpa only [List.lookup_cons, hx] using h
      simp only [List.lookup_cons, hx]
      exact relabel_kind h'
theorem relabel_free {env : Env} : ∀ {names : List (Str × NameKind)} {x : Str}, names.lookup x = some .free →
    (names.map fun (n, k) => if (k == NameKind.free && env.scope.kind == .function && env.kindOf n == some .cell) then (n, NameKind.cell) else (n, k)).lookup x = some .cell ∨
    (names.map fun (n, k) => if (k == NameKind.free && env.scope.kind == .function && env.kindOf n == some .cell) then (n, NameKind.cell) else (n, k)).lookup x = some .free
  | [], _, h => by simp at h
  | (n, k) :: r, x, h => by
    show List.lookup x ((if (k == NameKind.free && env.scope.kind == .function && env.kindOf n == some .cell) = true then (n, NameKind.cell) else (n, k)) :: _) = _ ∨ List.lookup x ((if (k == NameKind.free && env.scope.kind == .function && env.kindOf n == some .cell) = true then (n, NameKind.cell) else (n, k)) :: _) = _
    cases hx : x == n with
    | true =>
      simp only [List.lookup_cons, hx] at h
      cases h
      split
      · exact .inl (by simp only [List.lookup_cons, hx])
      · exact .inr (by simp only [List.lookup_cons, hx])
    | false =>
      simp only [List.lookup_cons, hx] at h
      have ih := @relabel_free env r x h
      split <;> simp only [List.lookup_cons, hx] <;> exact ih

/-- the block's entry -/
theorem inv_lc {X : Cx} {pins : List (Addr × Obj)} {σ : St} {H : Hp} {s : Shared} {scope : Scope} {cl : List (Str × Addr)} {ks : List Bool} {ext : List Str} {fp : List Addr} {C : Addr} {h1 : Heap} {tk : Nat}
    (I : Inv X pins σ H s) (S : LcS X.env.scope.names scope.names X.N ks) (hkind : scope.kind = .function) (c1 : ∀ x c, cl.lookup x = some c → X.env.cells.lookup x = some c) (c2 : ∀ x, (x, NameKind.free) ∈ scope.names → ∃ c, cl.lookup x = some c)
    (hfp : ∀ b ∈ fp, FpOk X pins H b) (hlt : ∀ b ∈ fp, b < s.heap.objs.size) (hC : C = s.heap.objs.size) (hn : h1.Ns C (fun _ => none)) (hk : ∀ b o, s.heap.get? b = some o → h1.get? b = some o) :
    Inv (cxLC X scope cl ext C fp s H) [] (mask ks σ ++ List.replicate ext.length none) H { s with heap := h1, toks := tk } := by
  have hlen : ks.length = σ.length := by rw [S.len, I.len]
  refine ⟨⟨I.ok.mod, hkind, I.ok.glob, I.ok.blt, Nat.le_of_eq hC.symm, fun x y c e1 e2 => I.ok.inj x y c (c1 x c e1) (c1 y c e2), fun x hx => ?_, (fun x c hf => by cases hf), I.ok.hd, I.ok.frames, .inl rfl, fun b hb => ⟨?_, fun x c e => (hfp b hb).2.2.2.2.1 x c (c1 x c e)⟩, I.bs, Nat.le_trans I.ok.bsz I.sz, fun b o e hb => ?_, fun b hb hz => ?_, I.stack, I.stkFree⟩,
    rfl, I.bare, Un.kept hk, ⟨_, hn, fun i x v e1 e2 e3 => ?_⟩, fun x c e => ?_, ?_, fun x c e => I.freeC x c (c1 x c e), fun p hp => absurd (show p ∈ ([] : List (Addr × Obj)) from hp) (by simp), I.hok.kept hk, ?_⟩
  · -- a cell for each cell or free name
    have hx' : (relabel scope X.env).names.lookup x = some .cell ∨ (relabel scope X.env).names.lookup x = some .free := hx
    have hfree : scope.names.lookup x = some .free := by
      rcases hx' with q | q
      · rcases relabel_kind q with z | ⟨_, z⟩
        · exact absurd rfl (S.nocell _ (PySem.mem_of_lookup z))
        · exact z
      · rcases relabel_kind q with z | ⟨z, _⟩
        · exact z
        · cases z
    exact c2 x (PySem.mem_of_lookup hfree)
  · intro z
    have h0 := hlt b hb
    have z' : b = C := z
    rw [z', hC] at h0
    exact Nat.lt_irrefl _ h0
  · obtain ⟨_, _, _, h4, _, _⟩ := hfp b hb
    rcases h4 with z | z
    · exact I.ok.noex b o e z
    · exact absurd (Heap.lt_size (I.ok.bs b o e).1) (Nat.not_lt.mpr z)
  · have hz' : b ∈ frs X.stack := hz
    rcases List.mem_cons.mp (I.stkSub b hz') with q | q
    · exact (hfp b hb).2.1 q
    · exact (hfp b hb).2.2.1 q
  · have hi : i < (mask ks σ).length := by
      by_cases hi : i < (mask ks σ).length
      · exact hi
      · rw [List.getElem?_append_right (by lia), List.getElem?_replicate] at e2
        split at e2 <;> cases e2
    rw [List.getElem?_append_left hi] at e2
    obtain ⟨k1, k2⟩ := mask_get e2
    have hiN : i < X.N.length := by rw [← I.len]; rw [mask_len hlen] at hi; exact hi
    have e1' : X.N[i]? = some x := by
      have : (X.N ++ ext)[i]? = some x := e1
      rwa [List.getElem?_append_left hiN] at this
    have hz : (x, true) ∈ X.N.zip ks := by
      rw [List.mem_iff_getElem?]
      exact ⟨i, by rw [List.getElem?_zip_eq_some]; exact ⟨e1', k1⟩⟩
    have hfree := S.vis (x, true) hz rfl
    have hvis : X.env.kindOf x = some .cell ∨ X.env.kindOf x = some .free := S.fv (x, .free) (PySem.mem_of_lookup hfree) rfl
    obtain ⟨m, hm, hl⟩ := I.loc
    obtain ⟨u, r, l⟩ := hl i x v e1' k2 (hvis.elim (fun z => .inr (.inl z)) fun z => .inr (.inr z))
    refine ⟨u, r, .inr ⟨relabel_free hfree, ?_⟩⟩
    rcases l with ⟨z, _⟩ | ⟨_, c, ec, hc⟩
    · rcases hvis with q | q <;> · rw [q] at z; cases z
    · obtain ⟨c', ec'⟩ := c2 x (PySem.mem_of_lookup hfree)
      have := c1 x c' ec'
      rw [ec] at this; cases this
      obtain ⟨o, ho, hd⟩ := hc
      exact ⟨c, ec', o, hk c o ho, hd⟩
  · obtain ⟨v, o, ho, hd⟩ := I.cell x c (c1 x c e)
    exact ⟨v, o, hk c o ho, hd⟩
  · show H C = none
    rw [hC]; exact I.hok.fresh (Nat.le_refl _)
  · rw [List.length_append, List.length_replicate, mask_len hlen, I.len]
    show _ = (X.N ++ ext).length
    rw [List.length_append]
end L2

namespace L2
open PySem PySem.Spec PyProof.Rows

/-- the tests of a clause -/
def PTs (X : Cx) (ifs : List Expr) (t : TT) : Prop :=
  ∀ (pins : List (Addr × Obj)) (s : Shared) (σ : St) (H : Hp) (Q : Bool → Hp → Prop), Inv X pins σ H s → t σ H Q →
    wpAny (model X.prog X.w) X.A (forIn ifs true fun c r => if r = true then do let ok ← isTrue c X.env (eval c X.env); pure (ForInStep.yield ok) else pure (ForInStep.yield r)) (TP X pins σ Q) X.xe s
def tYes : TT := fun _ H Q => Q true H
theorem pts_nil {X : Cx} : PTs X [] tYes := fun _ _ σ H Q I h => wpAny_tests_nil ⟨H, I, h⟩

/-- the turns, by a word W of turn, measure, what was gathered, values, heap -/
def lcTurn (J : It) (D : Addr) (g : TG) (tt : TT) (te : TE) (Q : Hp → Prop) (W : Nat → Nat → List V → St → Hp → Prop) : Prop :=
  ∀ i m ys σ H, W i m ys σ H → (J.stop i H ∧ Q H) ∨ (J.go i H ∧ ∀ x H', J.yld i H x H' → g x σ H' fun σ2 H2 => tt σ2 H2 fun b H3 =>
    if b = true then te σ2 H3 fun y H4 => H4 D = some (.lst ys) ∧ ys.length < sizeLine ∧ ∃ m', m' < m ∧ W (i + 1) m' (ys ++ [y]) σ2 (upd H4 D (.lst (ys ++ [y])))
    else ∃ m', m' < m ∧ W (i + 1) m' ys σ2 H3)
def tLC (ks : List Bool) (e : Nat) (wi : TI) (g : TG) (tt : TT) (te : TE) : TE := fun σ H Q => wi σ H fun J H1 => ∀ D, H1 D = none →
  ∃ W : Nat → Nat → List V → St → Hp → Prop, (∃ m, W 0 m [] (mask ks σ ++ List.replicate e none) (upd H1 D (.lst []))) ∧ lcTurn J D g tt te (fun H2 => Q (.ref D) H2) W

structure Blk (X : Cx) (scope : Scope) (ext : List Str) (tg : Expr) (ifs : List Expr) (elt : Expr) (g : TG) (tt : TT) (te : TE) : Prop where
  pg : ∀ cl C fp s₀ H₀, PG (cxLC X scope cl ext C fp s₀ H₀) tg g
  pt : ∀ cl C fp s₀ H₀, PTs (cxLC X scope cl ext C fp s₀ H₀) ifs tt
  pe : ∀ cl C fp s₀ H₀, PE (cxLC X scope cl ext C fp s₀ H₀) elt te

theorem lc_core {X : Cx} {elt tg iter : Expr} {ifs : List Expr} {scope : Scope} {pos : Pos} {ks : List Bool} {ext : List Str} {g : TG} {tt : TT} {te : TE} {pins : List (Addr × Obj)} {σ : St} {H2 : Hp} {s2 : Shared} {cl : List (Str × Addr)}
    {it : Addr} {fp : List Addr} {tn : Nat → Heap → Prop} {J : It} {RR : Value → Addr → Result → Shared → Prop} {QD : Addr → Hp → Prop} {E : Value → Shared → Prop}
    (S : LcS X.env.scope.names scope.names X.N ks) (hkind : scope.kind = .function) (hc : X.calm = true) (B : Blk X scope ext tg ifs elt g tt te)
    (c1 : ∀ x c, cl.lookup x = some c → X.env.cells.lookup x = some c) (c2 : ∀ x, (x, NameKind.free) ∈ scope.names → ∃ c, cl.lookup x = some c)
    (I2 : Inv X pins σ H2 s2) (T : Turn X.prog X.w X.K tg J fp it tn) (st2 : tn 0 s2.heap) (f2 : ∀ b ∈ fp, FpOk X pins H2 b)
    (hW : ∀ D, H2 D = none → ∃ W : Nat → Nat → List V → St → Hp → Prop, (∃ m, W 0 m [] (mask ks σ ++ List.replicate ext.length none) (upd H2 D (.lst []))) ∧ lcTurn J D g tt te (QD D) W)
    (hRR : ∀ D C s4 H' m, Inv X pins σ H' s4 → FpOk X pins H' C → s4.heap.Ns C m → QD D H' → RR (.ref D) C (.ok .next) s4) :
    wpAny (model X.prog X.w) X.A (newList []) (fun acc s₃ => wpAny (model X.prog X.w) X.A (newFunctionEnv scope X.env.globals cl [] X.env.qual none .none (some X.env)) (fun cenv s₄ =>
      codeAny (model X.prog X.w) X.A (.compStart (.ListComp elt [⟨tg, iter, ifs, 0⟩] scope pos) 0 (.ref it) acc { cenv with scope := relabel scope X.env }) (RR acc cenv.locals) s₄) E s₃) E s2 := by
  have hcell : ∀ y ∈ scope.names, y.2 ≠ .cell := S.nocell
  refine wpAny_newObj_type (wpAny_newFunctionEnv hcell (by intro y hy; simp at hy) (fun h₁ hns₁ hsb₁ => ?_) hkind)
  dsimp only at hns₁ hsb₁ ⊢
  have fD : H2 s2.heap.objs.size = none := I2.hok.fresh (Nat.le_refl _)
  have I3 : Inv X pins σ (upd H2 s2.heap.objs.size (.lst [])) { s2 with heap := s2.heap.push { cls := .type "list", dict := none, data := .seq ([] : List Value).toArray } } :=
    I2.laid (t' := s2.toks) (fun b u e => Heap.get?_push_of_some _ e) (Nat.le_refl _) ⟨Nat.zero_le _, [], 0, .nil, Heap.get?_push_size _ rfl⟩
  obtain ⟨W, ⟨m0, w0⟩, turn⟩ := hW s2.heap.objs.size fD
  generalize hH3 : s2.heap.push { cls := .type "list", dict := none, data := .seq ([] : List Value).toArray } = h3 at hns₁ hsb₁ I3 ⊢
  have hsz : h3.objs.size = s2.heap.objs.size + 1 := by rw [← hH3, Heap.size_push]
  have hlt2 : ∀ b ∈ fp, b < s2.heap.objs.size := fun b hb => let ⟨o, e, _⟩ := T.obj 0 _ st2 b hb; Heap.lt_size e
  have hlt : ∀ b ∈ fp, b < h3.objs.size := fun b hb => Nat.lt_of_lt_of_eq (Nat.lt_succ_of_lt (hlt2 b hb)) hsz.symm
  have f3 : ∀ b ∈ fp, FpOk X pins (upd H2 s2.heap.objs.size (.lst [])) b := fun b hb => ⟨by rw [upd_ne (Nat.ne_of_lt (hlt2 b hb))]; exact (f2 b hb).1, (f2 b hb).2⟩
  have hk : ∀ b o, h3.get? b = some o → h₁.get? b = some o := fun b o e => hsb₁.extBut b o (Nat.ne_of_lt (Heap.lt_size e)) (Heap.get?_push_of_some _ e)
  have I4 : Inv (cxLC X scope cl ext h3.objs.size fp { s2 with heap := h3 } (upd H2 s2.heap.objs.size (.lst []))) [] (mask ks σ ++ List.replicate ext.length none) (upd H2 s2.heap.objs.size (.lst [])) { s2 with heap := h₁, toks := s2.toks + ([] : List (Str × Value)).length } :=
    inv_lc (C := h3.objs.size) I3 S hkind c1 c2 f3 hlt rfl (by simpa using hns₁) hk
  have st4 : tn 0 h₁ := T.keep _ _ _ st2 fun b hb o e => hk b o (by rw [← hH3]; exact Heap.get?_push_of_some _ e)
  have stat : ∀ {H' : Hp} {p' : List (Addr × Obj)}, p' = [] → (∀ b ∈ fp, H' b = none) → ∀ b ∈ fp, FpOk (cxLC X scope cl ext h3.objs.size fp { s2 with heap := h3 } (upd H2 s2.heap.objs.size (.lst []))) p' H' b := fun {H' p'} hp hn b hb => by
    subst hp
    exact ⟨hn b hb, (I4.ok.exf b hb).1, I4.ok.exfs b hb, .inl hb, fun x c e => (I4.ok.exf b hb).2 x c e, fun p hp => absurd (show p ∈ ([] : List (Addr × Obj)) from hp) (by simp)⟩
  have loop : ∀ s₃ : Shared, s₃ = { s2 with heap := h₁, toks := s2.toks + ([] : List (Str × Value)).length } →
      codeAny (model X.prog X.w) X.A (.compLoop (.ListComp elt [⟨tg, iter, ifs, 0⟩] scope pos) 0 (.ref it) (.ref s2.heap.objs.size) (compEnvC scope cl h3.objs.size X.env)) (RR (.ref s2.heap.objs.size) h3.objs.size) s₃ := by
    rintro s₃ rfl
    refine compLoop_own (fun n s' => ∃ i ys σ' H', Inv (cxLC X scope cl ext h3.objs.size fp { s2 with heap := h3 } (upd H2 s2.heap.objs.size (.lst []))) [] σ' H' s' ∧ tn i s'.heap ∧ (∀ b ∈ fp, H' b = none) ∧ W i n ys σ' H') ?_ m0
      ⟨0, [], _, _, I4, st4, fun b hb => (f3 b hb).1, w0⟩
    rintro n s' ⟨i, ys, σ', H', I', st', fr', w'⟩
    rcases turn i n ys σ' H' w' with ⟨stop, q⟩ | ⟨go, step⟩
    · refine thn (T.done (cxLC X scope cl ext h3.objs.size fp { s2 with heap := h3 } (upd H2 s2.heap.objs.size (.lst []))) rfl rfl rfl hc i [] s' σ' H' _ I' (stat rfl fr') st' stop) ?_
      rintro r s4 ⟨hr, J4⟩
      subst hr
      show RR (.ref s2.heap.objs.size) h3.objs.size (.ok .next) s4
      obtain ⟨m, hn, _⟩ := J4.loc
      have fC : H' h3.objs.size = none := J4.free
      have IX : Inv X pins σ H' s4 := I3.call' (ch := fp) J4.os J4.base J4.hok J4.bare fun b hb => ⟨(f3 b hb).2.2.2.1, (f3 b hb).2.1, (f3 b hb).2.2.2.2.1, (f3 b hb).2.2.2.2.2⟩
      exact hRR _ _ s4 H' m IX (I3.fpOk (Nat.le_refl _) fC) hn q
    · refine thn (T.item (cxLC X scope cl ext h3.objs.size fp { s2 with heap := h3 } (upd H2 s2.heap.objs.size (.lst []))) rfl rfl rfl hc i [] s' σ' H' _ I' (stat rfl fr') st' go) ?_
      rintro r s4 ⟨u, hr, h4⟩
      subst hr
      refine thn h4 ?_
      rintro _ s5 ⟨x, H5, I5, r5, y5, st5, fr5⟩
      have I5' := I5.pinned (stat rfl fr5) (T.obj _ _ st5)
      refine thn (B.pg _ _ _ _ _ _ s5 σ' H5 x u _ I5' r5 (step x H5 y5)) ?_
      rintro _ s6 ⟨σ6, H6, I6, q6⟩
      refine thn (B.pt _ _ _ _ _ _ s6 σ6 H6 _ I6 q6) ?_
      rintro ok s7 ⟨H7, I7, q7⟩
      have again : ∀ {σ7 : St} {H8 : Hp} {s8 : Shared} {ys' : List V} {m' : Nat}, Inv (cxLC X scope cl ext h3.objs.size fp { s2 with heap := h3 } (upd H2 s2.heap.objs.size (.lst []))) ([] ++ pinsAt fp s5.heap) σ7 H8 s8 → m' < n → W (i + 1) m' ys' σ7 H8 →
          ∃ m, m < n ∧ ∃ i ys σ' H', Inv (cxLC X scope cl ext h3.objs.size fp { s2 with heap := h3 } (upd H2 s2.heap.objs.size (.lst []))) [] σ' H' s8 ∧ tn i s8.heap ∧ (∀ b ∈ fp, H' b = none) ∧ W i m ys σ' H' := fun {σ7 H8 s8 ys' m'} I8 hm w8 => by
        refine ⟨m', hm, i + 1, ys', σ7, H8, I8.unpinned, T.keep _ _ _ st5 fun b hb o e => (I8.pin (b, o) (List.mem_append_right _ (List.mem_append_right _ (mem_pinsAt hb e)))).1, fun b hb => ?_, w8⟩
        obtain ⟨o, e, d⟩ := T.obj _ _ st5 b hb
        exact (I8.pin (b, o) (List.mem_append_right _ (List.mem_append_right _ (mem_pinsAt hb e)))).2.1
      cases ok with
      | false =>
        obtain ⟨m', hm, w7⟩ := (show ∃ m', m' < n ∧ W (i + 1) m' ys σ6 H7 from q7)
        exact again I7 hm w7
      | true =>
        rw [if_pos rfl] at q7 ⊢
        refine thn (B.pe _ _ _ _ _ _ s7 σ6 H7 _ I7 q7) ?_
        rintro yv s8 ⟨y, H8, I8, r8, e8, z8, m', hm, w8⟩
        refine thn (mt_append _ s8 σ6 H8 (.ref s2.heap.objs.size) [y] (.ref s2.heap.objs.size) [yv] (fun _ H9 => H9 = upd H8 s2.heap.objs.size (.lst (ys ++ [y]))) I8 rfl (.cons r8 .nil) ⟨_, ys, y, rfl, rfl, e8, z8, rfl⟩) ?_
        rintro _ s9 ⟨_, H9, I9, _, e9⟩
        subst e9
        exact again I9 hm w8
  exact codeAny_compStart_list (loop _ rfl) (T.self _ 0 _ _ _ st4 (loop _ rfl))

section
variable {X : Cx} {elt tg iter : Expr} {ifs : List Expr} {scope : Scope} {pos : Pos} {ks : List Bool} {ext : List Str} {wi : TI} {g : TG} {tt : TT} {te : TE}

theorem lc_clos {pins : List (Addr × Obj)} {σ : St} {H : Hp} {s : Shared} (I : Inv X pins σ H s) (S : LcS X.env.scope.names scope.names X.N ks) :
    ∃ cl, closureFor scope X.env = pure cl ∧ (∀ x c, cl.lookup x = some c → X.env.cells.lookup x = some c) ∧ (∀ x, (x, NameKind.free) ∈ scope.names → ∃ c, cl.lookup x = some c) :=
  closure_of fun y hy hf => I.ok.has y.1 (S.fv y hy hf)

/-- [e for x in iter if ..] -/
theorem pe_lc (S : LcS X.env.scope.names scope.names X.N ks) (hc : X.calm = true) (hi : PI X tg iter wi) (B : Blk X scope ext tg ifs elt g tt te) (hkind : scope.kind = .function := by rfl)
    (hs : ∀ x, foldedSetIterable iter X.env x = pure x := by intro _; rfl) : PE X (.ListComp elt [⟨tg, iter, ifs, 0⟩] scope pos) (tLC ks ext.length wi g tt te) := by
  intro pins s σ H Q I h
  obtain ⟨cl, hcl, c1, c2⟩ := lc_clos I S
  rw [eval_ListComp]
  refine wpAny_comprehension_free (use := none) rfl hs hcl hkind S.loc (thn (hi pins s σ H _ I h) fun v s1 h1 => thn h1 fun itv s2 h2 => ?_)
  obtain ⟨it, fp, tn, J, H2, e, I2, T, st2, f2, hW⟩ := h2
  subst e
  refine lc_core (RR := fun acc C => compPost (model X.prog X.w) X.A X.xe none (EP X pins σ Q) acc C) (QD := fun D H' => Q (.ref D) H') S hkind hc B c1 c2 I2 T st2 f2 hW fun D C s4 H' m I4 fC hn q => ?_
  refine ⟨m, hn, fun h' sb => ⟨.ref D, H', ?_, rfl, q⟩⟩
  exact I4.turned (t' := s4.toks) (fun b o hb e => (sb.2 b hb).trans e) fC.1 fC.2.1 fC.2.2.2.1 fC.2.2.2.2.1 fC.2.2.2.2.2

end

/-! ### forms -/
/-- over a list: what passes the test p becomes f, the tracked heap stays -/
theorem lc_list {K : PySem.W.Frag} {a : Addr} {xs : List V} {i : Nat} {tt : TT} {te : TE} {σ : St} {H : Hp} {D : Addr} {Q : Hp → Prop} (p : V → Bool) (f : V → V) (hl : ∀ ys, SqL K (upd H D (.lst ys)) a xs) (hn : xs.length ≤ sizeLine)
    (ht : ∀ (k : Nat) x (v : Option V) (ys : List V) (R : Bool → Hp → Prop), xs[k]? = some x → (∀ H', H' = upd H D (.lst ys) → R (p x) H') → tt ((σ.set i v).set i (some x)) (upd H D (.lst ys)) R)
    (hs : ∀ (k : Nat) x (v : Option V) (ys : List V) (R : VK), xs[k]? = some x → p x = true → (∀ H', H' = upd H D (.lst ys) → R (f x) H') → te ((σ.set i v).set i (some x)) (upd H D (.lst ys)) R)
    (hq : ∀ H', H' = upd H D (.lst ((xs.filter p).map f)) → Q H') :
    ∃ W : Nat → Nat → List V → St → Hp → Prop, (∃ m, W 0 m [] σ (upd H D (.lst []))) ∧ lcTurn (Itl K a) D (gName i) tt te Q W := by
  refine ⟨fun k m ys σ' H' => m = xs.length - k ∧ k ≤ xs.length ∧ ys = ((xs.take k).filter p).map f ∧ (σ' = σ ∨ ∃ v, σ' = σ.set i v) ∧ H' = upd H D (.lst ys), ⟨xs.length, by simp⟩, ?_⟩
  rintro k m ys σ' H' ⟨rfl, hk, rfl, hσ, rfl⟩
  by_cases hlt : k < xs.length
  · refine .inr ⟨⟨xs, xs[k], hl _, by simp [hlt]⟩, fun x H2 hy => ?_⟩
    obtain ⟨rfl, hy⟩ := hy
    have hx := hy xs (hl _)
    have ex : xs[k] = x := by have := hx; simp [hlt] at this; exact this
    show tt (σ'.set i _) _ _
    have hσ' : ∃ v, σ'.set i (some x) = (σ.set i v).set i (some x) := by
      rcases hσ with rfl | ⟨v, rfl⟩
      · exact ⟨none, by rw [List.set_set]⟩
      · exact ⟨v, rfl⟩
    obtain ⟨v, ev⟩ := hσ'
    have hσ2 : ∃ v', σ'.set i (some x) = σ.set i v' := ⟨some x, by rw [ev, List.set_set]⟩
    have etake : xs.take (k + 1) = xs.take k ++ [x] := by rw [List.take_succ, hx]; rfl
    rw [ev]
    refine ht k x v _ _ hx fun H3 e => ?_
    subst e
    cases hp : p x with
    | true =>
      rw [if_pos rfl]
      refine hs k x v _ _ hx hp fun H4 e => ?_
      subst e
      refine ⟨upd_same, ?_, xs.length - (k + 1), by omega, rfl, hlt, ?_, by rw [← ev]; exact .inr hσ2, upd_upd⟩
      · rw [List.length_map]
        have := List.length_filter_le p (xs.take k)
        rw [List.length_take] at this
        omega
      · rw [etake, List.filter_append, List.map_append]; simp [hp]
    | false =>
      rw [if_neg Bool.false_ne_true]
      refine ⟨xs.length - (k + 1), by omega, rfl, hlt, ?_, by rw [← ev]; exact .inr hσ2, rfl⟩
      rw [etake, List.filter_append]; simp [hp]
  · have e : k = xs.length := by omega
    subst e
    refine .inl ⟨⟨xs, hl _, Nat.le_refl _⟩, hq _ (by rw [List.take_length])⟩
end L2

namespace L2
open PySem PySem.Spec PyProof.Rows
end L2

set_option linter.all false
/-! The table of a set of ints: its places rise, so a walk meets each member once. Own work. -/
namespace SetPure
open PySem











end SetPure

set_option linter.all false
set_option maxRecDepth 100000
set_option maxHeartbeats 4000000
/-! A set of ints that is filled: which members, and that its table is good. Own work. -/
namespace SI
open PySem SetPure




section
variable {prog : Program} {w : World} {A : Around} {E : Value → Shared → Prop} {s : Shared}



end
end SI

set_option linter.all false
set_option maxRecDepth 100000
set_option maxHeartbeats 4000000
namespace SI
open PySem SetPure
section
variable {prog : Program} {w : World} {A : Around} {E : Value → Shared → Prop} {s : Shared}

end
end SI

set_option linter.all false
set_option maxRecDepth 100000
set_option maxHeartbeats 4000000
namespace SI
open PySem SetPure
section
variable {prog : Program} {w : World} {A : Around} {E : Value → Shared → Prop} {s : Shared}








end
end SI

set_option linter.all false
set_option maxRecDepth 100000
set_option maxHeartbeats 4000000
namespace SI
open PySem SetPure
section
variable {prog : Program} {w : World} {A : Around} {E : Value → Shared → Prop} {s : Shared}



end
end SI

set_option linter.all false
set_option maxRecDepth 100000
set_option maxHeartbeats 4000000
namespace SI
open PySem SetPure PyProof.Rows
section
variable {prog : Program} {w : World} {A : Around} {R : Result → Shared → Prop} {I : Addr} {fp wr : List Addr} {G : Array GenState → Array GenState → Prop} {n : Nat} {P : Nat → Value → Prop} {St : Nat → Shared → Prop}
end
section
variable {prog : Program} {w : World} {A : Around} {E : Value → Shared → Prop} {s : Shared}
end
end SI

set_option linter.all false
set_option maxRecDepth 100000
set_option maxHeartbeats 4000000
namespace SI
open PySem SetPure PyProof.Rows
section
variable {prog : Program} {w : World} {A : Around} {E : Value → Shared → Prop} {s : Shared}
end
end SI

set_option Elab.async false
set_option linter.all false
set_option maxRecDepth 100000
set_option maxHeartbeats 4000000
/-! Rules over the hand layer: sets of ints, all, isinstance, == of lists. Own work. -/
namespace L2
open PySem PySem.Spec PyProof.Rows SI

section
variable {X : Cx}




/-- all(a list of bools) -/
theorem call_allB (hc : X.calm = true) : CallR X (.builtin "all") (fun xs H Q => ∃ (p : Addr) (bs : List Bool), xs = [.ref p] ∧ SqL X.K H p (bs.map V.bl) ∧ Q (.bl (bs.all id)) H) := by
  intro pins s σ H xs us Q I r h
  obtain ⟨p, bs, rfl, hq, q⟩ := h
  obtain ⟨u, rfl, rx⟩ := vals1 r
  cases rx
  obtain ⟨its, rv, pl, hz⟩ := I.list hq
  have hlen : bs.length = its.length := by have := rv.length; rw [List.length_map] at this; exact this
  have hp : p < s.heap.objs.size := by obtain ⟨o, ho, _⟩ := pl.isList; exact Heap.lt_size ho
  refine call_all_walk (wpAny_pyIter_list pl.isList ?_)
  refine ⟨s.heap.objs.size, _, _, _, _, _, fun i => bs.getD i true, rfl, Walks.list (by simpa using I.ok.hd hc) s.heap.objs.size p (Nat.ne_of_lt hp) its.toArray, ⟨⟨_, Heap.get?_push_size _ rfl, rfl, rfl⟩, pl.isList.push _⟩, ?_, fun h' tk hk => ?_⟩
  · intro i v s' Q' E' hv hq'
    have hv' : its[i]? = some v := by simpa using hv
    have hb : bs[i]? = some (bs.getD i true) := by
      have hi : i < its.length := (List.getElem?_eq_some_iff.mp hv').1
      have hi' : i < bs.length := by lia
      simp [List.getD, hi']
    obtain ⟨u, hu, ru⟩ := rv.get (i := i) (x := .bl (bs.getD i true)) (by rw [List.getElem?_map, hb]; rfl)
    rw [hv'] at hu
    cases hu
    cases (show v = Value.bool (bs.getD i true) from ru)
    exact wpAny_truthy_bool hq'
  · have hf := I.fpOk (H' := H) (Nat.le_refl s.heap.objs.size) (I.hok.fresh (Nat.le_refl _))
    have I1 : Inv X pins σ H { s with heap := h', toks := tk } := I.turned (it := s.heap.objs.size) (fun b o hb e => hk b o (by simpa using hb) (Heap.get?_push_of_some _ e)) hf.1 hf.2.1 (.inr I.sz) hf.2.2.2.2.1 hf.2.2.2.2.2
    refine ⟨.bl (bs.all id), H, I1, ?_, q⟩
    show Value.bool _ = Value.bool _
    congr 1
    have e : (List.range its.toArray.size).map (fun i => bs.getD i true) = bs := by
      apply List.ext_getElem?
      intro i
      rw [List.getElem?_map, List.size_toArray]
      by_cases hi : i < bs.length
      · have hi2 : i < its.length := by lia
        simp [hi, hi2]
      · have hi2 : ¬ i < its.length := by lia
        simp [hi, hi2]
    conv => rhs; rw [← e]
    rw [List.all_map]
    rfl

/-- a class, as a value -/
def clsV : V → Option Value
  | .ty n => some (.type n)
  | .ref C => some (.ref C)
  | _ => none
theorem clsV_of {c : V} {cv u : Value} (h : clsV c = some cv) (r : RelV c u) : u = cv := by
  cases c with
  | ty n => cases h; exact r
  | ref C => cases h; exact r
  | _ => cases h
/-- isinstance(x, c) -/
theorem call_isI : CallR X (.builtin "isinstance") (fun xs H Q => ∃ (x c : V) (cv t : Value) (b : Bool), xs = [x, c] ∧ clsV c = some cv ∧ TyOf X.K H x t ∧ PySem.W.kitOne X.K t cv = some b ∧ Q (.bl b) H) := by
  intro pins s σ H xs us Q I r h
  obtain ⟨x, c, cv, t, b, rfl, hcv, ty, hk, q⟩ := h
  obtain ⟨u, w', rfl, r1, r2⟩ := vals2 r
  have e := clsV_of hcv r2
  subst e
  exact isinst_ok I r1 ty hk fun tk => ⟨.bl b, H, I.tok tk, rfl, q⟩

/-- == of two lists of flat things -/
def eqVs : List V → List V → Bool
  | [], [] => true
  | x :: xs, y :: ys => eqV x y && eqVs xs ys
  | _, _ => false
theorem eqVs_len : ∀ {xs ys : List V}, eqVs xs ys = true → xs.length = ys.length
  | [], [], _ => rfl
  | [], _ :: _, h => by cases h
  | _ :: _, [], h => by cases h
  | x :: xs, y :: ys, h => by
    unfold eqVs at h
    rw [Bool.and_eq_true] at h
    simp [eqVs_len h.2]
theorem eqVs_all : ∀ {xs ys : List V}, xs.length = ys.length → eqVs xs ys = (List.range xs.length).all fun i => eqV (xs.getD i .non) (ys.getD i .non)
  | [], [], _ => rfl
  | [], _ :: _, h => by cases h
  | _ :: _, [], h => by cases h
  | x :: xs, y :: ys, h => by
    have ih := eqVs_all (xs := xs) (ys := ys) (by simpa using h)
    unfold eqVs
    rw [ih, List.length_cons, List.range_succ_eq_map, List.all_cons, List.all_map]
    rfl
theorem eqVs_ne {xs ys : List V} (h : xs.length ≠ ys.length) : eqVs xs ys = false := by
  cases e : eqVs xs ys with
  | false => rfl
  | true => exact absurd (eqVs_len e) h
def rEqL (K : PySem.W.Frag) (neg : Bool) : R2 := fun x y H Q => ∃ a b xs ys, x = .ref a ∧ y = .ref b ∧ SqL K H a xs ∧ SqL K H b ys ∧ xs.all flatV = true ∧ ys.all flatV = true ∧ Q (.bl (if neg then !eqVs xs ys else eqVs xs ys)) H
end

theorem bt_len : bootBuiltins "len" = some (.builtin "len") := by decide +kernel
theorem bt_list : bootBuiltins "list" = some (.type "list") := by decide +kernel
theorem bt_all : bootBuiltins "all" = some (.builtin "all") := by decide +kernel
theorem bt_isinstance : bootBuiltins "isinstance" = some (.builtin "isinstance") := by decide +kernel
theorem bt_bool : bootBuiltins "bool" = some (.type "bool") := by decide +kernel
theorem bt_int : bootBuiltins "int" = some (.type "int") := by decide +kernel
theorem same_upd {H : Hp} {l : Addr} {o : HO} (h : H l = none) : Same H (upd H l o) := fun b u e => by
  rw [upd_ne (ne_of_none e h)]; exact e
end L2

set_option Elab.async false
set_option linter.all false
set_option maxRecDepth 100000
set_option maxHeartbeats 4000000
/-! Rules over the hand layer: != of lists, sum, list(range(..)), bit_length. Own work. -/
namespace L2
open PySem PySem.Spec PyProof.Rows SI
section
variable {X : Cx}
theorem op_neL (hu : X.A.units + 1 < cLine) : OpR X (compareOp .NotEq) (rEqL X.K true) := by
  intro pins s σ H x y v u Q I rx ry h
  obtain ⟨a, b, xs, ys, rfl, rfl, ha, hb, fx, fy, q⟩ := h
  cases rx
  cases ry
  obtain ⟨i1, r1, p1, z1⟩ := I.list ha
  obtain ⟨i2, r2, p2, z2⟩ := I.list hb
  have l1 := r1.length
  have l2 := r2.length
  by_cases hl : xs.length = ys.length
  · refine SeqAt.RcNeAt.lists (e := fun i => eqV (xs.getD i .non) (ys.getD i .non)) p1.isList p2.isList (by simp; lia) (by lia) (fun j h1 h2 => ?_) X.prog X.w X.xe _ ⟨.bl (!eqVs xs ys), H, I, ?_, q⟩
    · simp only [List.size_toArray] at h1 h2
      have j1 : j < xs.length := by lia
      have j2 : j < ys.length := by lia
      obtain ⟨u1, e1, s1⟩ := r1.get (List.getElem?_eq_getElem j1)
      obtain ⟨u2, e2, s2⟩ := r2.get (List.getElem?_eq_getElem j2)
      rw [List.getElem?_eq_getElem h1] at e1
      rw [List.getElem?_eq_getElem h2] at e2
      cases e1
      cases e2
      have := eqAt_V (A := X.A.in1) (s := s) s1 s2 (List.all_eq_true.mp fx _ (List.getElem_mem j1)) (List.all_eq_true.mp fy _ (List.getElem_mem j2))
      simpa [List.getD, j1, j2] using this
    · show Value.bool _ = Value.bool _
      rw [eqVs_all hl, List.size_toArray, ← l1]
  · refine SeqAt.RcNeAt.lists_lengths p1.isList p2.isList (by simp; lia) (by lia) X.prog X.w X.xe _ ⟨.bl (!eqVs xs ys), H, I, ?_, q⟩
    rw [eqVs_ne hl]; rfl
end
end L2

set_option Elab.async false
set_option linter.all false
set_option maxRecDepth 100000
set_option maxHeartbeats 4000000
/-! Rules over the hand layer: classes' functions, methods by class, pairs walked (enumerate, zip), tuples compared, is. Own work. -/
namespace L2
open PySem PySem.Spec PyProof.Rows SI
/-! ### records of an iterator that is more than one object -/
section
variable {X : Cx} {pins : List (Addr × Obj)} {σ : St} {H : Hp} {s : Shared} {h' : Heap}
theorem Inv.turnedL {ch : List Addr} {t' : Nat} (I : Inv X pins σ H s) (hch : ∀ b ∈ ch, FpOk X pins H b) (k : ∀ b u, b ∉ ch → s.heap.get? b = some u → h'.get? b = some u) : Inv X pins σ H { s with heap := h', toks := t' } := by
  have nit : ∀ b u, H b = some u → b ∉ ch := fun b u e z => by rw [(hch b z).1] at e; cases e
  refine I.step (g' := s.gens) (d' := s.drawn) (ch := ch) (fun b hb => ?_) (fun b o _ _ hc e _ => k b o hc e) (fun b o _ _ hc e _ => ⟨o.slots, k b o hc e⟩) (fun _ _ _ _ n => n)
    (fun b o hc e => ⟨o, k b o hc e⟩) (fun _ _ e => e) (fun _ _ _ e => e) (fun b ps e => ⟨#[], by rw [e]; simp⟩) (fun m hm => ?_) (fun b u e => ?_) I.bare
  · obtain ⟨f0, f1, f2, f3, f4, f5⟩ := hch b hb
    exact ⟨f3, f1, f4, f5⟩
  · obtain ⟨o, es, ep, ho, r⟩ := hm
    exact ⟨o, es, ep, k _ o (fun z => (hch _ z).2.1 rfl) ho, r⟩
  · refine (I.hok b u e).stay (fun c v hc q => k c v ?_ q) (fun _ q => q) fun _ _ q => q
    rcases hc with z | z
    · rw [z]; exact nit b u e
    · exact nit c _ z
theorem Inv.turnedLaid {ch : List Addr} {t' : Nat} {n : Addr} {ob : HO} (I : Inv X pins σ H s) (hch : ∀ b ∈ ch, FpOk X pins H b) (k : ∀ b u, b ∉ ch → s.heap.get? b = some u → h'.get? b = some u)
    (hn : s.heap.objs.size ≤ n) (new : ObjOk X.prog X.w (upd H n ob) h' n ob) : Inv X pins σ (upd H n ob) { s with heap := h', toks := t' } := by
  have hno := I.hok.fresh hn
  have nit : ∀ b u, H b = some u → b ∉ ch := fun b u e z => by rw [(hch b z).1] at e; cases e
  refine I.step (g' := s.gens) (d' := s.drawn) (ch := ch) (fun b hb => ?_) (fun b o _ _ hc e _ => k b o hc e) (fun b o _ _ hc e _ => ⟨o.slots, k b o hc e⟩)
    (fun b o _ e q => by rw [upd_ne (Nat.ne_of_lt (Nat.lt_of_lt_of_le (Heap.lt_size e) hn))]; exact q)
    (fun b o hc e => ⟨o, k b o hc e⟩) (fun b xs e => by rw [upd_ne (ne_of_none e hno)]; exact e) (fun b o u e => by rw [upd_ne (ne_of_none e hno)]; exact e)
    (fun b ps e => ⟨#[], by rw [upd_ne (ne_of_none e hno), e]; simp⟩) (fun m hm => ?_) (fun b u e => ?_) I.bare
  · obtain ⟨f0, f1, f2, f3, f4, f5⟩ := hch b hb
    exact ⟨f3, f1, f4, f5⟩
  · obtain ⟨o, es, ep, ho, r⟩ := hm
    exact ⟨o, es, ep, k _ o (fun z => (hch _ z).2.1 rfl) ho, r⟩
  · by_cases hb : b = n
    · subst hb; rw [upd_same] at e; cases e; exact new
    · rw [upd_ne hb] at e
      refine (I.hok b u e).stay (fun c v hc q => k c v ?_ q) (fun c q => by rw [upd_ne (ne_of_none q hno)]; exact q) fun c xs q => by rw [upd_ne (ne_of_none q hno)]; exact q
      rcases hc with z | z
      · rw [z]; exact nit b u e
      · exact nit c _ z
end

/-! ### enumerate(a list), walked by a target of two -/
theorem bt_zip : bootBuiltins "zip" = some (.type "zip") := by decide +kernel
theorem bt_tuple : bootBuiltins "tuple" = some (.type "tuple") := by decide +kernel
section
variable {X : Cx}
end

/-! ### zip(a list, a list), walked by a target of two -/
def Itz (K : PySem.W.Frag) (a b : Addr) : It :=
  ⟨fun i H => ∃ xs ys x y, SqL K H a xs ∧ SqL K H b ys ∧ xs[i]? = some x ∧ ys[i]? = some y,
   fun i H x H' => ∃ p y z, x = .ref p ∧ H p = none ∧ H' = upd H p (.tup [y, z]) ∧ (∀ xs, SqL K H a xs → xs[i]? = some y) ∧ ∀ ys, SqL K H b ys → ys[i]? = some z,
   fun i H => ∃ xs ys, SqL K H a xs ∧ SqL K H b ys ∧ (xs.length ≤ i ∨ ys.length ≤ i)⟩
structure ZipA (z TI TO i1 i2 : Addr) : Prop where
  TIz : TI ≠ z
  TOz : TO ≠ z
  i1z : i1 ≠ z
  i2z : i2 ≠ z
  TITO : TI ≠ TO
  TIi1 : TI ≠ i1
  TIi2 : TI ≠ i2
  TOi1 : TO ≠ i1
  TOi2 : TO ≠ i2
  i12 : i1 ≠ i2
theorem zip_apart {h : Heap} {z TI TO i1 i2 l1 l2 : Addr} {f0 a b : Value} {k1 k2 : Nat} {m1 m2 : Addr} {xs ys : Array Value} (Z : ZipA z TI TO i1 i2) (hz : IsZip h z TI TO f0) (hTO : IsPair h TO a b) (h1 : h.IsListIter i1 m1 k1) (h2 : h.IsListIter i2 m2 k2)
    (hl1 : h.IsList l1 xs) (hl2 : h.IsList l2 ys) : ZipApart z TI TO i1 i2 l1 l2 := by
  obtain ⟨o1, e1, c1, _⟩ := h1
  obtain ⟨o2, e2, c2, _⟩ := h2
  obtain ⟨p1, f1, d1, _⟩ := hl1
  obtain ⟨p2, f2, d2, _⟩ := hl2
  have key : ∀ {l q : Addr} {o o' : Obj}, h.get? l = some o → o.cls = .type "list" → h.get? q = some o' → o'.cls ≠ .type "list" → l ≠ q := fun {l q o o'} e c e' c' z => by
    subst z; rw [e] at e'; cases e'; exact c' c
  refine ⟨Z.TIz, Z.TOz, Z.i1z, Z.i2z, Z.TITO, Z.TIi1, Z.TIi2, Z.TOi1, Z.TOi2, Z.i12, ?_, ?_, ?_, ?_, ?_, ?_, ?_, ?_⟩
  · exact key f1 d1 hz (by simp)
  · exact key f1 d1 hTO (by simp)
  · exact key f1 d1 e1 (by rw [c1]; simp)
  · exact key f1 d1 e2 (by rw [c2]; simp)
  · exact key f2 d2 hz (by simp)
  · exact key f2 d2 hTO (by simp)
  · exact key f2 d2 e1 (by rw [c1]; simp)
  · exact key f2 d2 e2 (by rw [c2]; simp)
theorem turn_zip {P : Program} {w : World} {K : PySem.W.Frag} {elts : List Expr} {x1 : Nat} {pos : Pos} (a b z TI TO i1 i2 : Addr) (Z : ZipA z TI TO i1 i2) :
    Turn P w K (.Tuple elts x1 pos) (Itz K a b) [z, TI, TO, i1, i2] z (fun i h => IsZip h z TI TO .none ∧ IsPair h TI (.ref i1) (.ref i2) ∧ (∃ u v, IsPair h TO u v) ∧ h.IsListIter i1 a i ∧ h.IsListIter i2 b i) where
  mem := by simp
  obj := fun i h st c hc => by
    obtain ⟨hz, hTI, ⟨u, v, hTO⟩, ⟨o1, e1, _, d1⟩, o2, e2, _, d2⟩ := st
    simp only [List.mem_cons, List.not_mem_nil, or_false] at hc
    rcases hc with rfl | rfl | rfl | rfl | rfl
    · exact ⟨_, hz, fun v z => by cases z⟩
    · exact ⟨_, hTI, fun v z => by cases z⟩
    · exact ⟨_, hTO, fun v z => by cases z⟩
    · exact ⟨o1, e1, fun v z => by rw [d1] at z; cases z⟩
    · exact ⟨o2, e2, fun v z => by rw [d2] at z; cases z⟩
  keep := fun i h h' st k => ⟨k z (by simp) _ st.1, k TI (by simp) _ st.2.1, let ⟨u, v, e⟩ := st.2.2.1; ⟨u, v, k TO (by simp) _ e⟩, st.2.2.2.1.at fun o e => k i1 (by simp) o e, st.2.2.2.2.at fun o e => k i2 (by simp) o e⟩
  item := by
    intro X hP hw hK hc i pins s σ H E I hf st hg
    subst hP hw hK
    obtain ⟨xs, ys, x, y, hq1, hq2, hx, hy⟩ := hg
    obtain ⟨its1, rv1, p1, hz1⟩ := I.list hq1
    obtain ⟨its2, rv2, p2, hz2⟩ := I.list hq2
    obtain ⟨u1, hu1, ru1⟩ := rv1.get hx
    obtain ⟨u2, hu2, ru2⟩ := rv2.get hy
    obtain ⟨hz, hTI, ⟨a', b', hTO⟩, hi1, hi2⟩ := st
    refine wpAny_pyNext_zip_item (zip_apart Z hz hTO hi1 hi2 p1.isList p2.isList) hz hTI hTO hi1 hi2 p1.isList p2.isList (x := u1) (y := u2) (by simpa using hu1) (by simpa using hu2) fun h1 az aTO ai1 ai2 aT asz ak => ?_
    refine ⟨_, rfl, wpAny_letOwnedTupleGo_zip az fun h2 bz bs => ?_⟩
    have bs' : Heap.SameBut z h1 h2 := bs
    have hE : z < s.heap.objs.size := Heap.lt_size hz
    have up : ∀ c o, c ≠ z → h1.get? c = some o → h2.get? c = some o := fun c o hc e => (bs'.2 c hc).trans e
    have hT2 : h2.get? s.heap.objs.size = some { cls := .type "tuple", data := .seq #[u1, u2] } := up _ _ (Nat.ne_of_gt hE) aT
    refine ⟨.ref s.heap.objs.size, upd H s.heap.objs.size (.tup [x, y]), ?_, rfl, ⟨_, x, y, rfl, I.hok.fresh (Nat.le_refl _), rfl, fun zs hs => by rw [I.list_inj hs hq1]; exact hx, fun zs hs => by rw [I.list_inj hs hq2]; exact hy⟩, ⟨bz, ?_, ⟨u1, u2, up _ _ Z.TOz aTO⟩, ?_, ?_⟩, fun c hc => ?_⟩
    · refine I.turnedLaid (ch := [z, TI, TO, i1, i2]) (t' := s.toks) hf (fun c o hb q => ?_) (Nat.le_refl _) ⟨by show 2 ≤ sizeLine; rw [sizeLine_eq]; decide, [u1, u2], .cons ru1 (.cons ru2 .nil), ⟨_, hT2, rfl, ⟨_, rfl⟩, rfl⟩⟩
      have n1 : c ≠ z := fun z => hb (by simp [z])
      have n2 : c ≠ TO := fun z => hb (by simp [z])
      have n3 : c ≠ i1 := fun z => hb (by simp [z])
      have n4 : c ≠ i2 := fun z => hb (by simp [z])
      exact up c o n1 (ak c o n1 n2 n3 n4 q)
    · exact up _ _ Z.TIz (ak TI _ Z.TIz Z.TITO Z.TIi1 Z.TIi2 hTI)
    · obtain ⟨o, e, r⟩ := ai1
      exact ⟨o, up _ _ Z.i1z e, r⟩
    · obtain ⟨o, e, r⟩ := ai2
      exact ⟨o, up _ _ Z.i2z e, r⟩
    · obtain ⟨oc, ec, _⟩ : ∃ o, s.heap.get? c = some o ∧ ∀ v, o.data ≠ .cell v := by
        obtain ⟨o1, e1, _, d1⟩ := hi1
        obtain ⟨o2, e2, _, d2⟩ := hi2
        have hc' := hc
        simp only [List.mem_cons, List.not_mem_nil, or_false] at hc'
        rcases hc' with rfl | rfl | rfl | rfl | rfl
        · exact ⟨_, hz, fun v z => by cases z⟩
        · exact ⟨_, hTI, fun v z => by cases z⟩
        · exact ⟨_, hTO, fun v z => by cases z⟩
        · exact ⟨o1, e1, fun v z => by rw [d1] at z; cases z⟩
        · exact ⟨o2, e2, fun v z => by rw [d2] at z; cases z⟩
      rw [upd_ne (Nat.ne_of_lt (Heap.lt_size ec))]
      exact (hf c hc).1
  done := by
    intro X hP hw hK hc i pins s σ H E I hf st hg
    subst hP hw hK
    obtain ⟨xs, ys, hq1, hq2, hx⟩ := hg
    obtain ⟨its1, rv1, p1, hz1⟩ := I.list hq1
    obtain ⟨its2, rv2, p2, hz2⟩ := I.list hq2
    have l1 := rv1.length
    have l2 := rv2.length
    obtain ⟨hz, hTI, ⟨a', b', hTO⟩, hi1, hi2⟩ := st
    refine wpAny_pyNext_zip_end (I.ok.hd hc) (zip_apart Z hz hTO hi1 hi2 p1.isList p2.isList) hz hTI hTO hi1 hi2 p1.isList p2.isList (hx.imp (fun q => by simp; lia) fun q => by simp; lia) fun h' eb => ⟨rfl, I.turnedL (ch := [z, TI, TO, i1, i2]) (t' := s.toks) hf fun c o hb q => ?_⟩
    exact eb c o (fun z => hb (by simp [z])) (fun z => hb (by simp [z])) (fun z => hb (by simp [z])) (fun z => hb (by simp [z])) q
  self := fun _ _ _ _ _ st h => wpAny_pyIter_zip st.1 h
def iZip (K : PySem.W.Frag) (ta : TA) : TI := fun σ H R => ta σ H fun vs H1 => ∃ a b, vs = [.ref a, .ref b] ∧ (∃ xs, SqL K H1 a xs) ∧ (∃ ys, SqL K H1 b ys) ∧ R (Itz K a b) H1
section
variable {X : Cx}
theorem pi_zip {a b : Expr} {ta : TA} {p pos pt : Pos} {elts : List Expr} {x1 : Nat} (hg : Gl X "zip") (hm : X.mg "zip" = none) (ha : PA X [a, b] ta) (hs : starEach [a, b] X.env = [(false, eval a X.env), (false, eval b X.env)] := by rfl) (hs2 : starEach [b] X.env = [(false, eval b X.env)] := by rfl) :
    PI X (.Tuple elts x1 pt) (.Call (.Name "zip" p) [a, b] [] pos) (iZip X.K ta) := by
  intro pins s σ H R I h
  refine Call_ (ld_blt I hg hm bt_zip (PyProof.Rows.callWith_type1 (thn (ha pos pins s σ H _ I h) ?_) (by rw [hs, hs2]) (by rw [hs2]; rfl)))
  rintro us s1 ⟨vs, H1, I1, r1, q1⟩
  obtain ⟨a, b, e, ⟨xs, hq1⟩, ⟨ys, hq2⟩, q⟩ := q1
  subst e
  obtain ⟨u, w', rfl, rx, ry⟩ := vals2 r1
  cases rx
  cases ry
  obtain ⟨its1, rv1, p1, hz1⟩ := I1.list hq1
  obtain ⟨its2, rv2, p2, hz2⟩ := I1.list hq2
  refine call_zip_2 p1.isList p2.isList fun h' hZ hTI hTO hi1 hi2 hsz hk => ?_
  refine wpAny_pyIter_zip hZ ?_
  have I2 : Inv X pins σ H1 { s1 with heap := h' } := I1.kept (t' := s1.toks) hk
  refine ⟨s1.heap.objs.size + 4, [s1.heap.objs.size + 4, s1.heap.objs.size + 2, s1.heap.objs.size + 3, s1.heap.objs.size, s1.heap.objs.size + 1], _, _, H1, rfl, I2,
    turn_zip a b _ _ _ _ _ ⟨?_, ?_, ?_, ?_, ?_, ?_, ?_, ?_, ?_, ?_⟩, ⟨hZ, hTI, ⟨_, _, hTO⟩, hi1, hi2⟩, fun c hc => ?_, q⟩
  all_goals first
    | (show (_ : Nat) ≠ _; lia)
    | skip
  have hb' : s1.heap.objs.size ≤ c := by
    simp only [List.mem_cons, List.not_mem_nil, or_false] at hc
    rcases hc with rfl | rfl | rfl | rfl | rfl
    all_goals (show (_ : Nat) ≤ _; lia)
  exact I1.fpOk hb' (I1.hok.fresh hb')
end
theorem for_zip {K : PySem.W.Frag} {a b : Addr} {xs ys : List V} {g : TG} {tb : TS} {D : Ends} {σ : St} {H : Hp} (hlen : xs.length = ys.length) (Pv : Nat → St → Hp → Prop) (h0 : Pv 0 σ H) (hl : ∀ i σ H, i ≤ xs.length → Pv i σ H → SqL K H a xs ∧ SqL K H b ys)
    (hs : ∀ i x y p σ H, xs[i]? = some x → ys[i]? = some y → Pv i σ H → H p = none → g (.ref p) σ (upd H p (.tup [x, y])) fun σ2 H2 => tb { D with nx := Pv (i + 1), ct := Pv (i + 1), bk := D.nx } σ2 H2) (hd : ∀ σ H, Pv xs.length σ H → D.nx σ H) :
    ∃ W : Nat → Nat → St → Hp → Prop, (∃ m, W 0 m σ H) ∧ ∀ i m σ H, W i m σ H →
      ((Itz K a b).stop i H ∧ D.nx σ H) ∨ ((Itz K a b).go i H ∧ ∃ N : St → Hp → Prop, (∀ σ' H', N σ' H' → ∃ m', m' < m ∧ W (i + 1) m' σ' H') ∧ ∀ x H', (Itz K a b).yld i H x H' → g x σ H' fun σ2 H2 => tb { D with nx := N, ct := N, bk := D.nx } σ2 H2) := by
  refine ⟨fun i m σ H => m = xs.length - i ∧ i ≤ xs.length ∧ Pv i σ H, ⟨xs.length, by simp, Nat.zero_le _, h0⟩, ?_⟩
  rintro i m σ H ⟨rfl, hi, p⟩
  obtain ⟨q1, q2⟩ := hl i σ H hi p
  by_cases hlt : i < xs.length
  · have hlt2 : i < ys.length := by lia
    refine .inr ⟨⟨xs, ys, xs[i], ys[i], q1, q2, by simp [hlt], by simp [hlt2]⟩, Pv (i + 1), fun σ' H' p' => ⟨xs.length - (i + 1), by lia, rfl, hlt, p'⟩, fun x H' y => ?_⟩
    obtain ⟨pp, u, v, rfl, hn, rfl, y1, y2⟩ := y
    exact hs i u v pp σ _ (y1 xs q1) (y2 ys q2) p hn
  · have e : i = xs.length := by lia
    subst e
    exact .inl ⟨⟨xs, ys, q1, q2, .inl (Nat.le_refl _)⟩, hd σ H p⟩
end L2

set_option Elab.async false
set_option linter.all false
set_option maxRecDepth 100000
set_option maxHeartbeats 4000000
/-! Rules over the hand layer: a class's function by the class, a method by the instance's class, max with a default, tuples compared, is, defs with defaults, comprehensions that make things. Own work. -/
namespace L2
open PySem PySem.Spec PyProof.Rows SI
/-! ### C.m(..) -/
section
variable {X : Cx} {CX : CXT} {k : Nat} {f C : Addr} {fd : FuncData} {ps : List Str} {sp : Sp} {dvs : List V} {ds : List Value} {E : XK} {x m : Str} {p pos apos : Pos} {e o : Expr} {es : List Expr} {ta : TE} {t : TA}

/-! ### o.m(..), by the class of o -/
end

/-! ### a def with defaults -/
structure FunD (K : PySem.W.Frag) (x qual : Str) (st : Stmt) (f : Addr) (fd : FuncData) (T : Addr) : Prop where
  ex : ∃ (oc : Value) (od : Option Addr) (kV doc pm : Value) (an : Option Addr) (cdv ct : Value) (osl : Array (Option Value)),
    fd = PySem.W.fnOf x qual (defArgs st) (defBody st) (defScope st) (.ref T) kV doc pm an cdv ct ∧ K.lookup f = some ⟨oc, od, .func fd, osl⟩ ∧ PySem.W.codeIn K cdv qual = true
  kp : PySem.W.keepIn K (.ref f) = true
section
variable {P : Program} {w : World} {K : PySem.W.Frag} {mg : Str → Option Value} {base : Heap}
theorem FunD.ok {x qual : Str} {st : Stmt} {f T : Addr} {fd : FuncData} {N ps : List Str} {k : Nat} {sp : Sp} (F : FunD K x qual st f fd T) (S : FnScope N ps (defScope st)) (len : ∀ vs H Q E, sp vs H Q E → vs.length = ps.length)
    (hbody : ∀ (cdv : Value) (A : Around) (outer : List Env) (s : Shared) (H : Hp) (vs : List V) (Q : VK) (E : XK), Room k (A.deeper (envOfC qual (defScope st) s.heap.objs.size f cdv)) → sp vs H Q E →
      ∃ t, PSs (cxOf CX0 P w K mg base N qual (defScope st) f cdv A outer s H E).nox (defBody st) t ∧ t { nx := fun _ H' => Q .non H', rt := Q } (start N vs) H) : FnOk P w K mg base CX0 (k + 1) f fd ps sp := by
  obtain ⟨oc, od, kV, doc, pm, an, cdv, ct, osl, rfl, lk, hcd⟩ := F.ex
  refine fn_of lk hcd S len fun A outer s H vs Q E hr hsp => ?_
  obtain ⟨t, h, q⟩ := hbody cdv A outer s H vs Q E hr hsp
  exact ⟨t, h.nox, q⟩
theorem fund_mk {x qual : Str} {st : Stmt} {f T : Addr} {oc : Value} {od an : Option Addr} {osl : Array (Option Value)} {kV doc pm cdv ct : Value} (l : K.lookup f = some ⟨oc, od, .func (PySem.W.fnOf x qual (defArgs st) (defBody st) (defScope st) (.ref T) kV doc pm an cdv ct), osl⟩)
    (c : PySem.W.codeIn K cdv qual = true) (k : PySem.W.keepIn K (.ref f) = true) : FunD K x qual st f (PySem.W.fnOf x qual (defArgs st) (defBody st) (defScope st) (.ref T) kV doc pm an cdv ct) T := ⟨⟨oc, od, kV, doc, pm, an, cdv, ct, osl, rfl, l, c⟩, k⟩
end

/-! ### max(a list of ints, default = d) -/
section
variable {prog : Program} {w : World} {A : Around} {R : Result → Shared → Prop}
end
end L2

set_option Elab.async false
set_option linter.all false
set_option maxRecDepth 100000
set_option maxHeartbeats 4000000
/-! Rules over the hand layer: max with a default, tuples compared, is, comprehensions that make things. Own work. -/
namespace L2
open PySem PySem.Spec PyProof.Rows SI
section
variable {X : Cx}
/-! ### tuples compared -/
def rEqT (K : PySem.W.Frag) (neg : Bool) : R2 := fun x y H Q => ∃ a b xs ys, x = .ref a ∧ y = .ref b ∧ SqT K H a xs ∧ SqT K H b ys ∧ xs.all flatV = true ∧ ys.all flatV = true ∧ Q (.bl (if neg then !eqVs xs ys else eqVs xs ys)) H
theorem eqVs_min {xs ys : List V} : eqVs xs ys = ((List.range (min xs.length ys.length)).all (fun i => eqV (xs.getD i .non) (ys.getD i .non)) && xs.length == ys.length) := by
  by_cases hl : xs.length = ys.length
  · rw [eqVs_all hl, hl]; simp
  · rw [eqVs_ne hl]; simp [hl]
theorem op_eqT (hu : X.A.units + 1 < cLine) : OpR X (compareOp .Eq) (rEqT X.K false) := by
  intro pins s σ H x y v u Q I rx ry h
  obtain ⟨a, b, xs, ys, rfl, rfl, ha, hb, fx, fy, q⟩ := h
  cases rx
  cases ry
  obtain ⟨i1, r1, p1, z1⟩ := I.tuple ha
  obtain ⟨i2, r2, p2, z2⟩ := I.tuple hb
  have l1 := r1.length
  have l2 := r2.length
  refine SeqAt.eq_tupleAt (e := fun i => eqV (xs.getD i .non) (ys.getD i .non)) (show s.heap.IsTuple a i1.toArray from p1) (show s.heap.IsTuple b i2.toArray from p2) (by lia) (fun j h1 h2 => ?_) ⟨.bl (eqVs xs ys), H, I, ?_, q⟩
  · simp only [List.size_toArray] at h1 h2
    have j1 : j < xs.length := by lia
    have j2 : j < ys.length := by lia
    obtain ⟨u1, e1, s1⟩ := r1.get (List.getElem?_eq_getElem j1)
    obtain ⟨u2, e2, s2⟩ := r2.get (List.getElem?_eq_getElem j2)
    rw [List.getElem?_eq_getElem h1] at e1
    rw [List.getElem?_eq_getElem h2] at e2
    cases e1
    cases e2
    have := eqAt_V (A := X.A.in1) (s := s) s1 s2 (List.all_eq_true.mp fx _ (List.getElem_mem j1)) (List.all_eq_true.mp fy _ (List.getElem_mem j2))
    simpa [List.getD, j1, j2] using this
  · show Value.bool _ = Value.bool _
    rw [eqVs_min, List.size_toArray, List.size_toArray, ← l1, ← l2]
/-! ### is, of bools -/
end
/-! ### comprehensions over a list, of which each element may make things -/
end L2

set_option Elab.async false
set_option linter.all false
set_option maxRecDepth 100000
set_option maxHeartbeats 4000000
/-! Rules over the hand layer: lists of different length compared, whatever they hold. Own work. -/
namespace L2
open PySem PySem.Spec PyProof.Rows SI
section
variable {X : Cx}
end
end L2

set_option Elab.async false
set_option linter.all false
set_option maxRecDepth 100000
set_option maxHeartbeats 4000000
/-! Comprehensions over enumerate, zip, range, whatever their elements do. Own work. -/
namespace L2
open PySem PySem.Spec PyProof.Rows
theorem lc_gen {J : It} {n : Nat} {g : TG} {tt : TT} {te : TE} {σ : St} {H : Hp} {D : Addr} {Q : Hp → Prop} (P : Nat → List V → St → Hp → Prop) (h0 : P 0 [] σ (upd H D (.lst [])))
    (hs : ∀ k ys σ' H', k < n → P k ys σ' H' → J.go k H' ∧ ∀ x H1, J.yld k H' x H1 → g x σ' H1 (fun σ2 H2 => tt σ2 H2 fun b H3 =>
      if b = true then te σ2 H3 fun y H4 => H4 D = some (.lst ys) ∧ ys.length < sizeLine ∧ ∃ m', m' < n - k ∧ m' = n - (k + 1) ∧ k + 1 ≤ n ∧ P (k + 1) (ys ++ [y]) σ2 (upd H4 D (.lst (ys ++ [y]))) else ∃ m', m' < n - k ∧ m' = n - (k + 1) ∧ k + 1 ≤ n ∧ P (k + 1) ys σ2 H3))
    (hd : ∀ ys σ' H', P n ys σ' H' → J.stop n H' ∧ Q H') :
    ∃ W : Nat → Nat → List V → St → Hp → Prop, (∃ m, W 0 m [] σ (upd H D (.lst []))) ∧ lcTurn J D g tt te Q W := by
  refine ⟨fun k m ys σ' H' => m = n - k ∧ k ≤ n ∧ P k ys σ' H', ⟨n, by simp, Nat.zero_le _, h0⟩, ?_⟩
  rintro k m ys σ' H' ⟨rfl, hk, hP⟩
  by_cases hlt : k < n
  · exact .inr (hs k ys σ' H' hlt hP)
  · have e : k = n := by lia
    subst e
    exact .inl (hd ys σ' H' hP)
/-- what stands behind a turn -/
def Beh (n k : Nat) (P : Nat → List V → St → Hp → Prop) (ys : List V) (σ : St) (H : Hp) : Prop := ∃ m', m' < n - k ∧ m' = n - (k + 1) ∧ k + 1 ≤ n ∧ P (k + 1) ys σ H
theorem Beh.of {n k : Nat} {P : Nat → List V → St → Hp → Prop} {ys : List V} {σ : St} {H : Hp} (hk : k < n) (h : P (k + 1) ys σ H) : Beh n k P ys σ H := ⟨n - (k + 1), by omega, rfl, hk, h⟩
theorem lc_rng {lo : Int} {n : Nat} {g : TG} {tt : TT} {te : TE} {σ : St} {H : Hp} {D : Addr} {Q : Hp → Prop} (P : Nat → List V → St → Hp → Prop) (h0 : P 0 [] σ (upd H D (.lst [])))
    (hs : ∀ k ys σ' H', k < n → P k ys σ' H' → g (.int (lo + k)) σ' H' (fun σ2 H2 => tt σ2 H2 fun b H3 =>
      if b = true then te σ2 H3 fun y H4 => H4 D = some (.lst ys) ∧ ys.length < sizeLine ∧ Beh n k P (ys ++ [y]) σ2 (upd H4 D (.lst (ys ++ [y]))) else Beh n k P ys σ2 H3))
    (hd : ∀ ys σ' H', P n ys σ' H' → Q H') :
    ∃ W : Nat → Nat → List V → St → Hp → Prop, (∃ m, W 0 m [] σ (upd H D (.lst []))) ∧ lcTurn (Itr lo n) D g tt te Q W := by
  refine lc_gen (n := n) P h0 (fun k ys σ' H' hk hP => ⟨hk, fun x H1 y => ?_⟩) (fun ys σ' H' hP => ⟨Nat.le_refl _, hd ys σ' H' hP⟩)
  obtain ⟨rfl, rfl⟩ := y
  exact hs k ys σ' _ hk hP
end L2

set_option Elab.async false
set_option linter.all false
set_option maxRecDepth 100000
set_option maxHeartbeats 4000000
/-! A comprehension over a list, whatever its elements do. Own work (as in K24f). -/
namespace L2
open PySem PySem.Spec PyProof.Rows
theorem lc_lst {K : PySem.W.Frag} {a : Addr} {xs : List V} {g : TG} {tt : TT} {te : TE} {σ : St} {H : Hp} {D : Addr} {Q : Hp → Prop} (P : Nat → List V → St → Hp → Prop) (h0 : P 0 [] σ (upd H D (.lst []))) (hl : ∀ k ys σ' H', k ≤ xs.length → P k ys σ' H' → SqL K H' a xs)
    (hs : ∀ k x ys σ' H', xs[k]? = some x → P k ys σ' H' → g x σ' H' (fun σ2 H2 => tt σ2 H2 fun b H3 =>
      if b = true then te σ2 H3 fun y H4 => H4 D = some (.lst ys) ∧ ys.length < sizeLine ∧ Beh xs.length k P (ys ++ [y]) σ2 (upd H4 D (.lst (ys ++ [y]))) else Beh xs.length k P ys σ2 H3))
    (hd : ∀ ys σ' H', P xs.length ys σ' H' → Q H') :
    ∃ W : Nat → Nat → List V → St → Hp → Prop, (∃ m, W 0 m [] σ (upd H D (.lst []))) ∧ lcTurn (Itl K a) D g tt te Q W := by
  refine lc_gen (n := xs.length) P h0 (fun k ys σ' H' hk hP => ?_) (fun ys σ' H' hP => ⟨⟨xs, hl _ _ _ _ (Nat.le_refl _) hP, Nat.le_refl _⟩, hd ys σ' H' hP⟩)
  have q := hl k ys σ' H' (Nat.le_of_lt hk) hP
  refine ⟨⟨xs, xs[k], q, by simp [hk]⟩, fun x H1 y => ?_⟩
  obtain ⟨rfl, y⟩ := y
  exact hs k x ys σ' _ (y xs q) hP
end L2

set_option Elab.async false
set_option linter.all false
set_option maxRecDepth 100000
set_option maxHeartbeats 4000000
/-! t[lo:hi], the whole of it too. Own work. -/
namespace HT
open PySem PySem.Spec PyProof.Rows
section
variable {prog : Program} {w : World} {A : Around} {E : Value → Shared → Prop} {s : Shared}
end
end HT
namespace L2
open PySem PySem.Spec PyProof.Rows
end L2

set_option Elab.async false
set_option linter.all false
set_option maxRecDepth 100000
set_option maxHeartbeats 4000000
/-! The rules once more, behind structures: Lean's elaborator does not look into these, so that suites with long lists written out are read fast. Own work. -/
namespace Z
open PySem L2
structure E (X : Cx) (e : Expr) (t : TE) : Prop where h : PE X e t
structure T (X : Cx) (e : Expr) (t : TT) : Prop where h : PT X e t
structure W (X : Cx) (e : Expr) (t : TT) : Prop where h : PW X e t
structure A (X : Cx) (es : List Expr) (t : TA) : Prop where h : PA X es t
structure S (X : Cx) (st : Stmt) (t : TS) : Prop where h : PS X st t
structure Ss (X : Cx) (sts : List Stmt) (t : TS) : Prop where h : PSs X sts t
structure O (X : Cx) (e : Option Expr) (t : TO) : Prop where h : PO X e t
section
variable {X : Cx} {st : Stmt} {rest : List Stmt} {t u : TS} {a b e : Expr} {es : List Expr} {ta tb te : TE} {tA tB' : TT} {tt : TA} {pos p p2 : Pos}
theorem suite (h : Ss X rest t) : PSs X rest t := h.h
theorem given (h : PSs X rest t) : Ss X rest t := ⟨h⟩
theorem pss_cons (h1 : S X st t) (h2 : Ss X rest u) : Ss X (st :: rest) (tSeq t u) := ⟨L2.pss_cons h1.h h2.h⟩
theorem pss_one (h1 : S X st t) : Ss X [st] t := ⟨L2.pss_one h1.h⟩
theorem pss_nil : Ss X [] tNext := ⟨L2.pss_nil⟩
theorem ps_if {c : Expr} {xs ys : List Stmt} {tc : TT} (hc : T X c tc) (ha : Ss X xs t) (hb : Ss X ys u) : S X (.If c xs ys pos) (tIfS tc t u) := ⟨L2.ps_if hc.h ha.h hb.h⟩
theorem ps_ret (he : E X e te) : S X (.Return (some e) pos) (tRet te) := ⟨L2.ps_ret he.h⟩
theorem ps_set {i : Nat} {x : Str} {pos' : Pos} (hN : X.N.Nodup) (hi : X.N[i]? = some x) (hx : Loc X.env.scope x) (he : E X e te) (hs : swapsWith e (some (.Name x pos')) pos.line X.env = pure false := by rfl) (hf : X.fn x = true ∨ X.env.scope.names.lookup x = some .local := by first | exact .inl rfl | exact .inr rfl | assumption) :
    S X (.Assign [.Name x pos'] e pos) (tAsg te (gName i)) := ⟨L2.ps_set hN hi hx he.h hs hf⟩
theorem pt_cmpR {op : CmpOp} {r : R2} (ho : OpR X (compareOp op) r) (ha : E X a ta) (hb : E X b tb) (hm : behindInMarks op b = false) : T X (.Compare a [op] [b] pos) (tTest (tOp r ta tb)) := ⟨L2.pt_cmpR ho ha.h hb.h hm⟩
theorem pt (h : W X e tA) : T X e tA := ⟨h.h.pt⟩
theorem pw_and1 (ha : T X a tA) : W X (.BoolOp .And [a] pos) tA := ⟨L2.pw_and1 ha.h⟩
theorem pw_or1 (ha : T X a tA) : W X (.BoolOp .Or [a] pos) tA := ⟨L2.pw_or1 ha.h⟩
theorem pw_or {r : List Expr} (ha : T X a tA) (hb : W X (.BoolOp .Or (b :: r) pos) tB') : W X (.BoolOp .Or (a :: b :: r) pos) (tOr tA tB') := ⟨L2.pw_or ha.h hb.h⟩
theorem pw_and {r : List Expr} (ha : T X a tA) (hb : W X (.BoolOp .And (b :: r) pos) tB') : W X (.BoolOp .And (a :: b :: r) pos) (tAnd tA tB') := ⟨L2.pw_and ha.h hb.h⟩
theorem pe_tup {x1} (h : A X es tt) : E X (.Tuple es x1 pos) (tTup tt) := ⟨L2.pe_tup h.h⟩
theorem pe_lst (h : A X es tt) : E X (.List es pos) (tLst tt) := ⟨L2.pe_lst h.h⟩
theorem pa_cons (ha : E X e te) (hr : A X es tt) (hs : starEach (e :: es) X.env = (false, eval e X.env) :: starEach es X.env := by rfl) : A X (e :: es) (tCons te tt) := ⟨L2.pa_cons ha.h hr.h hs⟩
theorem pa_nil : A X [] tNil := ⟨L2.pa_nil⟩
theorem pe_str {x j} : E X (.Constant (.str x) j pos) (tC (.str x)) := ⟨L2.pe_str⟩
theorem pe_int {i j} : E X (.Constant (.int i) j pos) (tC (.int i)) := ⟨L2.pe_int⟩
theorem pe_non {j} : E X (.Constant .none j pos) (tC .non) := ⟨L2.pe_non⟩
theorem pe_op {op : Operator} {r : R2} (ho : OpR X (binaryOp op) r) (ha : E X a ta) (hb : E X b tb) : E X (.BinOp a op b pos) (tOp r ta tb) := ⟨L2.pe_op ho ha.h hb.h⟩
theorem pe_ix {r : R2} (hr : IxR X r) (ha : E X a ta) (hb : E X b tb) (hs : PlainIx b) : E X (.Subscript a b pos) (tOp r ta tb) := ⟨L2.pe_ix hr ha.h hb.h hs⟩
theorem po_none : O X none tNoPart := ⟨L2.po_none⟩
theorem po_some (h : E X e te) : O X (some e) (tPart te) := ⟨L2.po_some h.h⟩
theorem pe_slice {lo hi : Option Expr} {tl th : TO} {r : V → Option Int → Option Int → Hp → VK → Prop} (hr : SlR X r) (he : E X e te) (hl : O X lo tl) (hu : O X hi th) : E X (.Subscript e (.Slice lo hi none p2) pos) (tSl r te tl th) := ⟨L2.pe_slice hr he.h hl.h hu.h⟩
theorem pe_call {CX : CXT} {k : Nat} {f : Addr} {fd : FuncData} {ps : List Str} {sp : Sp} {dvs : List V} {ds : List Value} {EE : XK} {x : Str} (F : FnOk X.prog X.w X.K X.mg X.base CX k f fd ps sp) (hr : Room k X.A) (hg : Gl X x) (hm : X.mg x = some (.ref f)) (hk : PySem.W.keepIn X.K (.ref f) = true) (hb : Binds X.K fd ps ds) (hd : Vals dvs ds) (hx : Passes CX X EE)
    (ha : A X (e :: es) tt) (hdb : (x == ("__debug__" : Str)) = false := by decide) (he : starEach (e :: es) X.env = (false, eval e X.env) :: starEach es X.env := by rfl) (hpl : (backTo pos (starEach es X.env)).any (·.1) = false := by rfl) :
    E X (.Call (.Name x p) (e :: es) [] pos) (tCall sp dvs EE tt) := ⟨L2.pe_call F hr hg hm hk hb hd hx ha.h hdb he hpl⟩
theorem pe_callB {id : String} {r : List V → Hp → VK → Prop} {x : Str} (hc : CallR X (.builtin id) r) (hg : Gl X x) (hm : X.mg x = none) (hv : bootBuiltins x = some (.builtin id)) (ha : A X (e :: es) tt) (hn : x ≠ "__name__" := by decide) (hdb : (x == ("__debug__" : Str)) = false := by decide)
    (he : starEach (e :: es) X.env = (false, eval e X.env) :: starEach es X.env := by rfl) (hpl : (backTo pos (starEach es X.env)).any (·.1) = false := by rfl) : E X (.Call (.Name x p) (e :: es) [] pos) (tCB r tt) := ⟨L2.pe_callB hc hg hm hv ha.h hn hdb he hpl⟩
end
end Z

set_option Elab.async false
set_option linter.all false
set_option maxRecDepth 100000
set_option maxHeartbeats 4000000
/-! any list == []. Own work. -/
namespace L2
open PySem PySem.Spec PyProof.Rows SI
section
variable {X : Cx}
def rEqE (K : PySem.W.Frag) : R2 := fun x y H Q => ∃ a b xs, x = .ref a ∧ y = .ref b ∧ SqL K H a xs ∧ SqL K H b [] ∧ ∃ t : Bool, (t = true ↔ xs = []) ∧ Q (.bl t) H
theorem op_eqE (hu : X.A.units + 1 < cLine) : OpR X (compareOp .Eq) (rEqE X.K) := by
  intro pins s σ H x y v u Q I rx ry h
  obtain ⟨a, b, xs, rfl, rfl, ha, hb, t, ht, q⟩ := h
  cases rx
  cases ry
  obtain ⟨i1, r1, p1, z1⟩ := I.list ha
  obtain ⟨i2, r2, p2, z2⟩ := I.list hb
  have l1 := r1.length
  have l2 : 0 = i2.length := r2.length
  by_cases hl : xs = []
  · have et : t = true := ht.mpr hl
    subst et
    have l3 : i1.length = 0 := by rw [← l1, hl]; rfl
    refine SeqAt.eq_listAt (e := fun _ => true) p1.isList p2.isList (by simp; lia) (by lia) (fun j h1 h2 => ?_) ⟨.bl true, H, I, ?_, q⟩
    · simp only [List.size_toArray] at h1
      lia
    · show Value.bool _ = Value.bool _
      rw [List.size_toArray, l3]; rfl
  · have et : t = false := by
      cases t with
      | false => rfl
      | true => exact absurd (ht.mp rfl) hl
    subst et
    have l3 : 0 < i1.length := by rw [← l1]; exact List.length_pos_iff.mpr hl
    exact SeqAt.eq_list_lengthsAt p1.isList p2.isList (by simp; lia) (by lia) ⟨.bl false, H, I, rfl, q⟩
end
end L2

set_option Elab.async false
set_option linter.all false
set_option maxRecDepth 100000
set_option maxHeartbeats 4000000
/-! Rules that speak of the heap alone, in fewer words. Own work. -/
namespace L2
open PySem PySem.Spec PyProof.Rows
section
variable {X : Cx}
theorem PE.le {e : Expr} {te te' : TE} (h : PE X e te) (f : ∀ σ H Q, te' σ H Q → te σ H Q) : PE X e te' := fun pins s σ H Q I q => h pins s σ H Q I (f σ H Q q)
/-- name[const] of a list, of a tuple that lies on the heap -/
def tIxL (i : Nat) (n : Int) : TE := fun σ H Q => ∃ p xs v, σ[i]? = some (some (.ref p)) ∧ H p = some (.lst xs) ∧ atI xs n = some v ∧ Q v H
def tIxT (i : Nat) (n : Int) : TE := fun σ H Q => ∃ p xs v, σ[i]? = some (some (.ref p)) ∧ H p = some (.tup xs) ∧ atI xs n = some v ∧ Q v H
theorem pe_ixL (i : Nat) {x : Str} {n : Int} {j : Nat} {p1 p2 pos : Pos} (hN : X.N[i]? = some x := by rfl) (hv : Vis X.env.scope x := by first | exact Or.inl rfl | exact Or.inr (Or.inl rfl) | exact Or.inr (Or.inr rfl)) (hd : (x == ("__debug__" : Str)) = false := by decide)
    (hcd : (x == ("__classdict__" : Str)) = false := by decide) : PE X (.Subscript (.Name x p1) (.Constant (.int n) j p2) pos) (tIxL i n) := by
  refine (pe_ix ix_list (pv i hN hv hd hcd) pe_int (fun _ _ => rfl)).le fun σ H Q h => ?_
  obtain ⟨p, xs, v, h1, h2, h3, q⟩ := h
  exact ⟨_, h1, p, xs, n, v, rfl, rfl, SqL.of h2, h3, q⟩
theorem pe_ixT (i : Nat) {x : Str} {n : Int} {j : Nat} {p1 p2 pos : Pos} (hN : X.N[i]? = some x := by rfl) (hv : Vis X.env.scope x := by first | exact Or.inl rfl | exact Or.inr (Or.inl rfl) | exact Or.inr (Or.inr rfl)) (hd : (x == ("__debug__" : Str)) = false := by decide)
    (hcd : (x == ("__classdict__" : Str)) = false := by decide) : PE X (.Subscript (.Name x p1) (.Constant (.int n) j p2) pos) (tIxT i n) := by
  refine (pe_ix ix_tup (pv i hN hv hd hcd) pe_int (fun _ _ => rfl)).le fun σ H Q h => ?_
  obtain ⟨p, xs, v, h1, h2, h3, q⟩ := h
  exact ⟨_, h1, p, xs, n, v, rfl, rfl, SqT.of h2, h3, q⟩
/-- any list != [] -/
def rNeE (K : PySem.W.Frag) : R2 := fun x y H Q => ∃ a b xs, x = .ref a ∧ y = .ref b ∧ SqL K H a xs ∧ SqL K H b [] ∧ ∃ t : Bool, (t = false ↔ xs = []) ∧ Q (.bl t) H
theorem op_neE (hu : X.A.units + 1 < cLine) : OpR X (compareOp .NotEq) (rNeE X.K) := by
  intro pins s σ H x y v u Q I rx ry h
  obtain ⟨a, b, xs, rfl, rfl, ha, hb, t, ht, q⟩ := h
  cases rx
  cases ry
  obtain ⟨i1, r1, p1, z1⟩ := I.list ha
  obtain ⟨i2, r2, p2, z2⟩ := I.list hb
  have l1 := r1.length
  have l2 : 0 = i2.length := r2.length
  by_cases hl : xs = []
  · have et : t = false := ht.mpr hl
    subst et
    have l3 : i1.length = 0 := by rw [← l1, hl]; rfl
    refine SeqAt.RcNeAt.lists (e := fun _ => true) p1.isList p2.isList (by simp; lia) (by lia) (fun j h1 h2 => ?_) X.prog X.w X.xe _ ⟨.bl false, H, I, ?_, q⟩
    · simp only [List.size_toArray] at h1
      lia
    · show Value.bool _ = Value.bool _
      rw [List.size_toArray, l3]; rfl
  · have et : t = true := by
      cases t with
      | true => rfl
      | false => exact absurd (ht.mp rfl) hl
    subst et
    have l3 : 0 < i1.length := by rw [← l1]; exact List.length_pos_iff.mpr hl
    refine SeqAt.RcNeAt.lists_lengths p1.isList p2.isList (by simp; lia) (by lia) X.prog X.w X.xe _ ⟨.bl true, H, I, rfl, q⟩
theorem ify_ne {i : Nat} {k w : Str} {p : Addr} {xs : List V} {t u : TS} {D : Ends} {σ : St} {H : Hp} (hσ : σ[i]? = some (some (.ref p))) (hq : H p = some (.tup xs)) (ha : atI xs 0 = some (.str k)) (hn : decide (V.str k = V.str w) = false) (h : u D σ H) : tIfS (tTest (tOp rEq (tIxT i 0) (tC (.str w)))) t u D σ H :=
  ⟨p, xs, _, hσ, hq, ha, rfl, false, congrArg V.bl hn, iteF h⟩
theorem ify_eq {i : Nat} {w : Str} {p : Addr} {xs : List V} {t u : TS} {D : Ends} {σ : St} {H : Hp} (hσ : σ[i]? = some (some (.ref p))) (hq : H p = some (.tup xs)) (ha : atI xs 0 = some (.str w)) (h : t D σ H) : tIfS (tTest (tOp rEq (tIxT i 0) (tC (.str w)))) t u D σ H :=
  ⟨p, xs, _, hσ, hq, ha, rfl, true, congrArg V.bl (decide_eq_true rfl), iteT h⟩
end
end L2
namespace Z
open PySem L2
variable {X : Cx}
end Z

set_option Elab.async false
set_option linter.all false
set_option maxRecDepth 100000
namespace L2
open PySem PySem.Spec PyProof.Rows

/-! ### lists of pairs as tables -/
section
variable {κ : Type} [DecidableEq κ]
def valV (kvs : List (κ × V)) (k : κ) : Option V := (kvs.find? fun kv => decide (kv.1 = k)).map (·.2)
/-- in its place, or at the end -/
def putK (kvs : List (κ × V)) (k : κ) (v : V) : List (κ × V) :=
  if (kvs.any fun kv => decide (kv.1 = k)) = true then kvs.map (fun kv => if kv.1 = k then (kv.1, v) else kv) else kvs ++ [(k, v)]

theorem valV_pos {p : κ × V} {r : List (κ × V)} {k : κ} (e : p.1 = k) : valV (p :: r) k = some p.2 := by simp [valV, List.find?_cons, e]
theorem valV_neg {p : κ × V} {r : List (κ × V)} {k : κ} (e : ¬ p.1 = k) : valV (p :: r) k = valV r k := by simp [valV, List.find?_cons, e]
theorem valV_any (k : κ) : ∀ kvs : List (κ × V), (kvs.any fun kv => decide (kv.1 = k)) = (valV kvs k).isSome
  | [] => rfl
  | p :: r => by
    rw [List.any_cons]
    by_cases e : p.1 = k
    · simp only [valV_pos e, decide_eq_true e, Bool.true_or, Option.isSome_some]
    · rw [valV_neg e, decide_eq_false e, Bool.false_or]; exact valV_any k r
theorem valV_map (k j : κ) (y : V) : ∀ kvs : List (κ × V), valV (kvs.map fun kv => if kv.1 = k then (kv.1, y) else kv) j = (valV kvs j).map fun x => if j = k then y else x
  | [] => rfl
  | p :: r => by
    have ih := valV_map k j y r
    rw [List.map_cons]
    by_cases h : p.1 = k
    · rw [if_pos h]
      by_cases e : p.1 = j
      · rw [valV_pos (p := (p.1, y)) e, valV_pos e, Option.map_some, if_pos (e.symm.trans h)]
      · rw [valV_neg (p := (p.1, y)) e, valV_neg e, ih]
    · rw [if_neg h]
      by_cases e : p.1 = j
      · rw [valV_pos (p := p) e, valV_pos e, Option.map_some, if_neg (fun z => h (e.trans z))]
      · rw [valV_neg (p := p) e, valV_neg e, ih]
theorem valV_snoc (k j : κ) (y : V) : ∀ kvs : List (κ × V), valV kvs k = none → valV (kvs ++ [(k, y)]) j = if j = k then some y else valV kvs j
  | [], _ => by
    by_cases e : k = j
    · rw [if_pos e.symm]; exact valV_pos (p := (k, y)) e
    · rw [if_neg (fun z => e z.symm)]; exact valV_neg (p := (k, y)) e
  | p :: r, hn => by
    rw [List.cons_append]
    have hk : ¬ p.1 = k := fun z => by rw [valV_pos z] at hn; cases hn
    rw [valV_neg hk] at hn
    have ih := valV_snoc k j y r hn
    by_cases e : p.1 = j
    · rw [valV_pos e, valV_pos e, if_neg (fun z => hk (e.trans z))]
    · rw [valV_neg e, valV_neg e, ih]
theorem valV_put (kvs : List (κ × V)) (k j : κ) (y : V) : valV (putK kvs k y) j = if j = k then some y else valV kvs j := by
  unfold putK
  by_cases a : (kvs.any fun kv => decide (kv.1 = k)) = true
  · rw [if_pos a, valV_map]
    rw [valV_any] at a
    by_cases e : j = k
    · obtain ⟨x, hx⟩ := Option.isSome_iff_exists.mp a
      rw [if_pos e, e, hx, Option.map_some, if_pos rfl]
    · rw [if_neg e]
      cases valV kvs j with
      | none => rfl
      | some x => rw [Option.map_some, if_neg e]
  · rw [if_neg a]
    refine valV_snoc k j y kvs ?_
    rw [valV_any] at a
    cases q : valV kvs k with
    | none => rfl
    | some x => rw [q] at a; exact (a rfl).elim
theorem length_putK (kvs : List (κ × V)) (k : κ) (v : V) : (putK kvs k v).length ≤ kvs.length + 1 := by
  unfold putK
  split
  · rw [List.length_map]; lia
  · rw [List.length_append, List.length_cons, List.length_nil]; lia

theorem RelO.isSome_eq {o : Option V} {u : Option Value} (r : RelO o u) : o.isSome = u.isSome := by
  cases o with
  | none => cases u with
    | none => rfl
    | some _ => exact (show False from r).elim
  | some _ => cases u with
    | none => exact (show False from r).elim
    | some _ => rfl
theorem RelO.getD {o : Option V} {u : Option Value} {d : V} {d' : Value} (r : RelO o u) (rd : RelV d d') : RelV (o.getD d) (u.getD d') := by
  cases o with
  | none => cases u with
    | none => exact rd
    | some _ => exact (show False from r).elim
  | some _ => cases u with
    | none => exact (show False from r).elim
    | some _ => exact r

/-- raw tables of the same keys -/
theorem KV.val {kvs : List (κ × V)} {vs : List (κ × Value)} (r : KV kvs vs) (k : κ) : RelO (valV kvs k) (valueAt vs k) := by
  unfold KV at r
  induction r with
  | nil => exact True.intro
  | @cons p q ps qs h t ih =>
    obtain ⟨h1, h2⟩ := h
    by_cases e : p.1 = k
    · have e' : q.1 = k := h1.symm.trans e
      have b : valueAt (q :: qs) k = some q.2 := by simp [valueAt, List.find?_cons, e']
      rw [valV_pos e, b]; exact h2
    · have e' : ¬ q.1 = k := fun z => e (h1.trans z)
      have b : valueAt (q :: qs) k = valueAt qs k := by simp [valueAt, List.find?_cons, e']
      rw [valV_neg e, b]; exact ih
theorem KV.any {kvs : List (κ × V)} {vs : List (κ × Value)} (r : KV kvs vs) (k : κ) : (kvs.any fun kv => decide (kv.1 = k)) = vs.any fun kv => decide (kv.1 = k) := by
  unfold KV at r
  induction r with
  | nil => rfl
  | cons h t ih => rw [List.any_cons, List.any_cons, ih, h.1]
theorem KV.repl {kvs : List (κ × V)} {vs : List (κ × Value)} (r : KV kvs vs) (k : κ) {y : V} {u : Value} (ry : RelV y u) :
    KV (kvs.map fun kv => if kv.1 = k then (kv.1, y) else kv) (vs.map fun kv => if kv.1 = k then (kv.1, u) else kv) := by
  unfold KV at r ⊢
  induction r with
  | nil => exact .nil
  | @cons p q ps qs h t ih =>
    rw [List.map_cons, List.map_cons]
    refine .cons ?_ ih
    obtain ⟨h1, h2⟩ := h
    by_cases e : p.1 = k
    · rw [if_pos e, if_pos (h1.symm.trans e)]; exact ⟨h1, ry⟩
    · rw [if_neg e, if_neg (fun z => e (h1.trans z))]; exact ⟨h1, h2⟩
theorem KV.put {kvs : List (κ × V)} {vs : List (κ × Value)} (r : KV kvs vs) (k : κ) {y : V} {u : Value} (ry : RelV y u) : KV (putK kvs k y) (stored vs k u) := by
  unfold putK stored
  rw [r.any k]
  by_cases e : (vs.any fun kv => decide (kv.1 = k)) = true
  · rw [if_pos e, if_pos e]; exact r.repl k ry
  · rw [if_neg e, if_neg e]; exact Paired.snoc r ⟨rfl, ry⟩
theorem KV.length {kvs : List (κ × V)} {vs : List (κ × Value)} (r : KV kvs vs) : kvs.length = vs.length := Paired.length r
end


/-! ### a tracked dict, its keys ints and texts or tuples of these -/
theorem kV_is {P : Program} {w : World} {k : Key} {u : Value} (r : RelV (kV k) u) : (mixKind P w).is k u = true := by
  rcases k with (_ | i) | x
  · cases (show u = Value.none from r); exact mixKind_none P w
  · obtain ⟨t, e⟩ := (show ∃ t, u = Value.int i t from r); subst e; exact mixKind_int P w i t
  · obtain ⟨t, e⟩ := (show ∃ t, u = Value.str x t from r); subst e; exact mixKind_str P w x t
theorem items_are {P : Program} {w : World} : ∀ {ks : List Key} {us : List Value}, Vals (ks.map kV) us → ItemsAre (mixKind P w) ks us
  | [], _, r => by rw [List.map_nil] at r; cases r; exact .nil
  | k :: ks, _, r => by
    rw [List.map_cons] at r
    cases r with
    | cons h t => exact .cons (kV_is h) (items_are t)

/-- raw entries of a dict with tuple keys -/
abbrev KT (H : Hp) : List (List Key × V) → List (List Key × Addr × Value) → Prop := Paired fun p q => p.1 = q.1 ∧ H q.2.1 = some (.tup (p.1.map kV)) ∧ RelV p.2 q.2.2
theorem KT.val {H : Hp} {kvs : List (List Key × V)} {xs : List (List Key × Addr × Value)} (r : KT H kvs xs) (k : List Key) : RelO (valV kvs k) ((atKey xs k).map (·.2)) := by
  induction r with
  | nil => exact True.intro
  | @cons p q ps qs h t ih =>
    obtain ⟨h1, _, h2⟩ := h
    by_cases e : p.1 = k
    · have e' : q.1 = k := h1.symm.trans e
      have b : atKey (q :: qs) k = some q.2 := by simp [atKey, List.find?_cons, e']
      rw [valV_pos e, b]; exact h2
    · have e' : ¬ q.1 = k := fun z => e (h1.trans z)
      have b : atKey (q :: qs) k = atKey qs k := by simp [atKey, List.find?_cons, e']
      rw [valV_neg e, b]; exact ih
theorem KT.repl {H : Hp} {kvs : List (List Key × V)} {xs : List (List Key × Addr × Value)} (r : KT H kvs xs) (k : List Key) {y : V} {u : Value} (ry : RelV y u) :
    KT H (kvs.map fun kv => if kv.1 = k then (kv.1, y) else kv) (xs.map (putAt k u)) := by
  induction r with
  | nil => exact .nil
  | @cons p q ps qs h t ih =>
    rw [List.map_cons, List.map_cons]
    refine .cons ?_ ih
    obtain ⟨h1, h2, h3⟩ := h
    unfold putAt
    by_cases e : p.1 = k
    · rw [if_pos e, if_pos (h1.symm.trans e)]; exact ⟨h1, h2, ry⟩
    · rw [if_neg e, if_neg (fun z => e (h1.trans z))]; exact ⟨h1, h2, h3⟩
theorem KT.put {H : Hp} {kvs : List (List Key × V)} {xs : List (List Key × Addr × Value)} (r : KT H kvs xs) (k : List Key) {b : Addr} {y : V} {u : Value} (hb : H b = some (.tup (k.map kV))) (ry : RelV y u) :
    KT H (putK kvs k y) (storedH xs k b u) := by
  have e : (kvs.any fun kv => decide (kv.1 = k)) = (atKey xs k).isSome := by
    rw [valV_any, (r.val k).isSome_eq, Option.isSome_map]
  unfold putK storedH
  rw [e]
  by_cases q : (atKey xs k).isSome = true
  · rw [if_pos q, if_pos q]; exact r.repl k ry
  · rw [if_neg q, if_neg q]; exact Paired.snoc r ⟨rfl, hb, ry⟩
theorem KT.keeps {H H' : Hp} {kvs : List (List Key × V)} {xs : List (List Key × Addr × Value)} (r : KT H kvs xs) (ht : ∀ b ys, H b = some (.tup ys) → H' b = some (.tup ys)) : KT H' kvs xs :=
  Paired.mapP r fun _ _ z => ⟨z.1, ht _ _ z.2.1, z.2.2⟩

section
variable {P : Program} {w : World} {H : Hp} {h : Heap} {a : Addr}
theorem rd_of {u : HO} (ok : HOk P w H h) (e : Rd H a u) : ObjOk P w H h a u := e.ok ok
theorem dk_rd {kvs : List (Key × V)} (ok : HOk P w H h) (e : Rd H a (.dK kvs)) : kvs.length ≤ sizeLine ∧ (a == sysModules) = false ∧ ∃ vs, KV kvs vs ∧ h.DictOf (mixKind P w) a vs :=
  show ObjOk P w H h a (.dK kvs) from rd_of ok e
theorem dk_of {kvs : List (Key × V)} (ok : HOk P w H h) (e : H a = some (.dK kvs)) : kvs.length ≤ sizeLine ∧ (a == sysModules) = false ∧ ∃ vs, KV kvs vs ∧ h.DictOf (mixKind P w) a vs := dk_rd ok (.inl e)
/-- a tracked tuple of ints and texts is a key -/
theorem key_of {ks : List Key} (ok : HOk P w H h) (e : H a = some (.tup (ks.map kV))) : (tupleKind (mixKind P w)).is h ks a := by
  obtain ⟨_, its, r, o, h1, h2, ⟨n, h3⟩, _⟩ := (show ObjOk P w H h a (.tup (ks.map kV)) from ok a _ e)
  exact ⟨o, its.toArray, n, h1, h2, h3, by simpa using items_are r⟩
theorem dt_rd {kvs : List (List Key × V)} (ok : HOk P w H h) (e : Rd H a (.dT kvs)) : kvs.length ≤ sizeLine ∧ (a == sysModules) = false ∧
    ∃ xs, KT H kvs xs ∧ h.DictOfH (tupleKind (mixKind P w)) a xs := by
  obtain ⟨z, y, xs, r, o, es, ep, h1, h2, h3, h4, h5⟩ := (show ObjOk P w H h a (.dT kvs) from rd_of ok e)
  refine ⟨z, y, xs, r, o, es, ep, h1, h2, h3, h4, fun x hx => ?_, h5⟩
  have all : ∀ {l : List (List Key × V)} {m : List (List Key × Addr × Value)}, KT H l m → ∀ x ∈ m, (tupleKind (mixKind P w)).is h x.1 x.2.1 := by
    intro l m q
    induction q with
    | nil => intro x hx; exact nomatch hx
    | @cons p q ps qs hq t ih =>
      intro x hx
      rcases List.mem_cons.mp hx with e | hx
      · subst e
        exact key_of ok (by rw [← hq.1]; exact hq.2.1)
      · exact ih x hx
  exact all r x hx
theorem dt_of {kvs : List (List Key × V)} (ok : HOk P w H h) (e : H a = some (.dT kvs)) : kvs.length ≤ sizeLine ∧ (a == sysModules) = false ∧
    ∃ xs, KT H kvs xs ∧ h.DictOfH (tupleKind (mixKind P w)) a xs := dt_rd ok (.inl e)
end

/-- what the dict at a holds at the key y -/
def DGet (H : Hp) (a : Addr) (y : V) (r : Option V) : Prop :=
  (∃ kvs k, Rd H a (.dK kvs) ∧ y = kV k ∧ r = valV kvs k) ∨ ∃ kvs k b, Rd H a (.dT kvs) ∧ y = .ref b ∧ H b = some (.tup (k.map kV)) ∧ r = valV kvs k
/-- the heap behind a[y] = v -/
def DPut (H : Hp) (a : Addr) (y v : V) (H' : Hp) : Prop :=
  (∃ kvs k, H a = some (.dK kvs) ∧ y = kV k ∧ kvs.length < sizeLine ∧ H' = upd H a (.dK (putK kvs k v))) ∨
  ∃ kvs k b, H a = some (.dT kvs) ∧ y = .ref b ∧ H b = some (.tup (k.map kV)) ∧ kvs.length < sizeLine ∧ H' = upd H a (.dT (putK kvs k v))
theorem DGet.k {H : Hp} {a : Addr} {kvs : List (Key × V)} {k : Key} (e : H a = some (.dK kvs)) : DGet H a (kV k) (valV kvs k) := .inl ⟨kvs, k, .inl e, rfl, rfl⟩
theorem DPut.k {H : Hp} {a : Addr} {kvs : List (Key × V)} {k : Key} {v : V} (e : H a = some (.dK kvs)) (hl : kvs.length < sizeLine) : DPut H a (kV k) v (upd H a (.dK (putK kvs k v))) := .inl ⟨kvs, k, e, rfl, hl, rfl⟩


section
variable {X : Cx} {pins : List (Addr × Obj)} {σ : St} {H : Hp} {s : Shared} {a : Addr} {y v : V} {u r : Value} {o : Option V} {A : Around} {E : Value → Shared → Prop}

theorem Inv.big (I : Inv X pins σ H s) : sysModules < s.heap.objs.size := by
  have h : mainGlobals < s.heap.objs.size := (I.mod.glob.keeps I.bk).lt
  exact Nat.lt_trans (by decide) h

/-- d[y], there -/
theorem d_getItem {Q : Value → Shared → Prop} (hu : A.units + 1 < cLine) (I : Inv X pins σ H s) (g : DGet H a y (some v)) (ry : RelV y u) (h : ∀ w' s', Inv X pins σ H s' → RelV v w' → Q w' s') :
    wpAny (model X.prog X.w) A (getItem (.ref a) u) Q E s := by
  rcases g with ⟨kvs, k, e, ey, l⟩ | ⟨kvs, k, b, e, ey, eb, l⟩
  · subst ey
    obtain ⟨z, hd, vs, rel, dd⟩ := dk_rd I.hok e
    obtain ⟨w', hw, rw'⟩ := RelO.some_of (v := v) (o := valueAt vs k) (by rw [l]; exact rel.val k)
    exact wpAny_getItem_of (kV_is ry) dd.mapOf hw (h w' _ (I.tok _) rw')
  · subst ey
    cases (show u = Value.ref b from ry)
    obtain ⟨z, hd, xs, rel, dd⟩ := dt_rd I.hok e
    obtain ⟨w', hw, rw'⟩ := RelO.some_of (v := v) (o := (atKey xs k).map (·.2)) (by rw [l]; exact rel.val k)
    obtain ⟨p, hp, hp2⟩ := Option.map_eq_some_iff.mp hw
    refine wpAny_getItem_heap (tupleKind_room_in1 hu) (key_of I.hok eb) dd hp ?_
    rw [hp2]
    exact h w' _ (I.tok _) rw'
/-- y in d -/
theorem d_in {Q : Value → Shared → Prop} (hu : A.units + 1 < cLine) (I : Inv X pins σ H s) (g : DGet H a y o) (ry : RelV y u) (h : ∀ s', Inv X pins σ H s' → Q (.bool o.isSome) s') :
    wpAny (model X.prog X.w) A (compareOp .In u (.ref a)) Q E s := by
  rcases g with ⟨kvs, k, e, ey, l⟩ | ⟨kvs, k, b, e, ey, eb, l⟩
  · subst ey
    obtain ⟨z, hd, vs, rel, dd⟩ := dk_rd I.hok e
    refine wpAny_in_of (kV_is ry) hd dd.mapOf ?_
    rw [← (rel.val k).isSome_eq, ← l]
    exact h _ (I.tok _)
  · subst ey
    cases (show u = Value.ref b from ry)
    obtain ⟨z, hd, xs, rel, dd⟩ := dt_rd I.hok e
    refine wpAny_in_heap (tupleKind_room_in1 hu) (key_of I.hok eb) hd dd ?_
    have q := (rel.val k).isSome_eq
    rw [Option.isSome_map] at q
    rw [← q, ← l]
    exact h _ (I.tok _)
theorem d_notIn {Q : Value → Shared → Prop} (hu : A.units + 1 < cLine) (I : Inv X pins σ H s) (g : DGet H a y o) (ry : RelV y u) (h : ∀ s', Inv X pins σ H s' → Q (.bool (!o.isSome)) s') :
    wpAny (model X.prog X.w) A (compareOp .NotIn u (.ref a)) Q E s := by
  rcases g with ⟨kvs, k, e, ey, l⟩ | ⟨kvs, k, b, e, ey, eb, l⟩
  · subst ey
    obtain ⟨z, hd, vs, rel, dd⟩ := dk_rd I.hok e
    refine wpAny_notIn_of (kV_is ry) hd dd.mapOf ?_
    rw [← (rel.val k).isSome_eq, ← l]
    exact h _ (I.tok _)
  · subst ey
    cases (show u = Value.ref b from ry)
    obtain ⟨z, hd, xs, rel, dd⟩ := dt_rd I.hok e
    refine wpAny_notIn_heap (tupleKind_room_in1 hu) (key_of I.hok eb) hd dd ?_
    have q := (rel.val k).isSome_eq
    rw [Option.isSome_map] at q
    rw [← q, ← l]
    exact h _ (I.tok _)
/-- a dict's object is replaced -/
theorem d_write {h' : Heap} {t' : Nat} {ob : HO} (I : Inv X pins σ H s) (mu : Mut (H a)) (hs : Heap.SameBut a s.heap h') (he : ∃ q, h'.get? a = some q) (new : ObjOk X.prog X.w (upd H a ob) h' a ob) :
    Inv X pins σ (upd H a ob) { s with heap := h', toks := t' } :=
  I.write (x := a) (e := a) mu (.inl rfl) (fun b q hb z => (hs.2 b hb).trans z) he new
theorem dk_new {P : Program} {w : World} {H' : Hp} {h' : Heap} {kvs : List (Key × V)} {vs : List (Key × Value)} (z : kvs.length ≤ sizeLine) (hd : (a == sysModules) = false) (rel : KV kvs vs) (dd : h'.DictOf (mixKind P w) a vs) :
    ObjOk P w H' h' a (.dK kvs) := ⟨z, hd, vs, rel, dd⟩
/-- d[y] = v -/
theorem d_setItem {H' : Hp} {Q : Unit → Shared → Prop} (hu : A.units + 1 < cLine) (I : Inv X pins σ H s) (g : DPut H a y v H') (ry : RelV y u) (rv : RelV v r) (h : ∀ s', Inv X pins σ H' s' → Q () s') :
    wpAny (model X.prog X.w) A (setItem (.ref a) u r) Q E s := by
  rcases g with ⟨kvs, k, e, ey, l, eH⟩ | ⟨kvs, k, b, e, ey, eb, l, eH⟩
  · subst ey eH
    obtain ⟨z, hd, vs, rel, dd⟩ := dk_of I.hok e
    have hz : vs.length ≤ sizeLine := by rw [← rel.length]; exact z
    have hl : (putK kvs k v).length ≤ sizeLine := by have := length_putK kvs k v; lia
    refine wpAny_setItem_pairs (hsz := hz) (kV_is ry) dd fun h' dd' hs => h _ ?_
    have he : ∃ q, h'.get? a = some q := let ⟨q, _, _, hq, _⟩ := dd'; ⟨q, hq⟩
    exact d_write I (by rw [e]; exact True.intro) hs he (dk_new hl hd (rel.put k rv) dd')
  · subst ey eH
    cases (show u = Value.ref b from ry)
    obtain ⟨z, hd, xs, rel, dd⟩ := dt_of I.hok e
    have hz : xs.length ≤ sizeLine := by rw [← Paired.length rel]; exact z
    have hl : (putK kvs k v).length ≤ sizeLine := by have := length_putK kvs k v; lia
    refine wpAny_setItem_heap (hsz := hz) (tupleKind_room_in1 hu) (key_of I.hok eb) dd fun h' dd' hs => h _ ?_
    obtain ⟨q, es, ep, hq, h2, h3, h4, _, h5⟩ := dd'
    refine d_write I (by rw [e]; exact True.intro) hs ⟨q, hq⟩ ⟨hl, hd, _, (rel.put k eb rv).keeps fun c ys ec => ?_, q, es, ep, hq, h2, h3, h4, h5⟩
    rw [upd_ne (ne_of ec e (fun z => nomatch z))]
    exact ec
end

section
variable {X : Cx} {pins : List (Addr × Obj)} {σ : St} {H : Hp} {s : Shared} {a : Addr} {kvs : List (Key × V)} {k : Key} {u : Value} {A : Around} {E : Value → Shared → Prop}
end


/-! ### readings and rules -/
/-- the element of a subscription, not a slice -/
def NoSl (i : Expr) : Prop := ∀ ov iv, subscripted i false ov iv = operate [ov, iv] (getItem ov iv)
theorem subD_of {prog : Program} {w : World} {A : Around} {E : Value → Shared → Prop} {s : Shared} {env : Env} {value slice : Expr} {pos : Pos} {T id : String} {Q : Value → Shared → Prop}
    (hl : typeLookup (.type T) "__getitem__" = pure (some (.builtin id))) (hs : NoSl slice)
    (h : wpAny (model prog w) A (eval value env) (fun o s₁ => wpAny (model prog w) A (eval slice env) (fun i s₂ => s₂.TypeIs o T ∧ wpAny (model prog w) A (getItem o i) Q E s₂) E s₁) E s) :
    wpAny (model prog w) A (eval (.Subscript value slice pos) env) Q E s := by
  refine Subscript_ (wpAny_mono h (fun o s₁ h₁ => wpAny_mono h₁ (fun i s₂ h₂ => ?_) fun _ _ x => x) fun _ _ x => x)
  obtain ⟨hT, h₂⟩ := h₂
  unfold subscriptTail
  refine wpAny_bind ?_
  rw [getitemInPython_of_ne hT.not_modules]
  refine wpAny_bind (wpAny_specialOf hT hl ?_)
  have fin : wpAny (model prog w) A (subscripted slice false o i) (fun r s₃ => wpAny (model prog w) A (letTemporaryGo value o r >>= fun _ => pure r) Q E s₃) E s₂ := by
    rw [hs o i]
    exact wpAny_operating (wpAny_mono h₂ (fun r s₃ h₃ => wpAny_bind (wpAny_letTemporaryGo (wpAny_pure h₃))) fun _ _ x => x)
  first
    | exact wpAny_pure (wpAny_bind fin)
    | exact wpAny_bind (wpAny_pure (wpAny_bind fin))
    | exact wpAny_bind fin

theorem dict_typeIs {X : Cx} {pins : List (Addr × Obj)} {σ : St} {H : Hp} {s : Shared} {a : Addr} {y : V} {o : Option V} (I : Inv X pins σ H s) (g : DGet H a y o) : s.TypeIs (.ref a) "dict" := by
  rcases g with ⟨kvs, k, e, _, _⟩ | ⟨kvs, k, b, e, _, _, _⟩
  · obtain ⟨_, _, vs, _, dd⟩ := dk_rd I.hok e
    exact dd.typeIs
  · obtain ⟨_, _, xs, _, dd⟩ := dt_rd I.hok e
    exact dd.typeIs

/-- d[y] -/
def tDGet (td ty : TE) : TE := fun σ H Q => td σ H fun x H1 => ty σ H1 fun y H2 => ∃ a v, x = .ref a ∧ DGet H2 a y (some v) ∧ Q v H2
/-- y in d, y not in d -/
def tDIn (ty td : TE) : TE := fun σ H Q => ty σ H fun y H1 => td σ H1 fun x H2 => ∃ a o, x = .ref a ∧ DGet H2 a y o ∧ Q (.bl o.isSome) H2
def tDNotIn (ty td : TE) : TE := fun σ H Q => ty σ H fun y H1 => td σ H1 fun x H2 => ∃ a o, x = .ref a ∧ DGet H2 a y o ∧ Q (.bl (!o.isSome)) H2
/-- d[y] = v -/
def sDPut (td ty tv : TE) : TS := fun D σ H => tv σ H fun v H1 => td σ H1 fun x H2 => ty σ H2 fun y H3 => ∃ a H4, x = .ref a ∧ DPut H3 a y v H4 ∧ D.nx σ H4

section
variable {X : Cx} {o i e value : Expr} {pos pos' tpos : Pos} {td ty tv : TE}
theorem pe_dget (hu : X.A.units + 1 < cLine) (ho : PE X o td) (hi : PE X i ty) (hs : NoSl i) : PE X (.Subscript o i pos) (tDGet td ty) := by
  intro pins s σ H Q I h
  refine subD_of PySem.F.slot_dict_getitem.lookup hs (thn (ho pins s σ H _ I h) ?_)
  rintro u s1 ⟨x, H1, I1, rx, q1⟩
  refine thn (hi pins s1 σ H1 _ I1 q1) ?_
  rintro iv s2 ⟨y, H2, I2, ry, a, v, ex, g, q2⟩
  subst ex
  obtain rfl : u = Value.ref a := rx
  exact ⟨dict_typeIs I2 g, d_getItem hu I2 g ry fun w' s3 I3 rw' => ⟨v, H2, I3, rw', q2⟩⟩
theorem pc_din (hu : X.A.units + 1 < cLine) (hi : PE X i ty) (ho : PE X o td) : PC X .In i o (tDIn ty td) := by
  intro pins s σ H Q I h
  refine thn (hi pins s σ H _ I h) ?_
  rintro iv s1 ⟨y, H1, I1, ry, q1⟩
  refine thn (ho pins s1 σ H1 _ I1 q1) ?_
  rintro u s2 ⟨x, H2, I2, rx, a, ov, ex, g, q2⟩
  subst ex
  obtain rfl : u = Value.ref a := rx
  exact d_in hu I2 g ry fun s3 I3 => ⟨.bl ov.isSome, H2, I3, rfl, q2⟩
theorem pc_dnotin (hu : X.A.units + 1 < cLine) (hi : PE X i ty) (ho : PE X o td) : PC X .NotIn i o (tDNotIn ty td) := by
  intro pins s σ H Q I h
  refine thn (hi pins s σ H _ I h) ?_
  rintro iv s1 ⟨y, H1, I1, ry, q1⟩
  refine thn (ho pins s1 σ H1 _ I1 q1) ?_
  rintro u s2 ⟨x, H2, I2, rx, a, ov, ex, g, q2⟩
  subst ex
  obtain rfl : u = Value.ref a := rx
  exact d_notIn hu I2 g ry fun s3 I3 => ⟨.bl (!ov.isSome), H2, I3, rfl, q2⟩
theorem ps_dput (hu : X.A.units + 1 < cLine) (ho : PE X o td) (hi : PE X i ty) (hv : PE X value tv) (hs : swapsWith value (some (.Subscript o i pos')) pos.line X.env = pure false) :
    PS X (.Assign [.Subscript o i pos'] value pos) (sDPut td ty tv) := by
  intro pins s σ H D I h
  refine wpAny_Assign_Subscript (thn (hv pins s σ H _ I h) ?_) hs
  rintro r s1 ⟨v, H1, I1, rv, q1⟩
  refine thn (ho pins s1 σ H1 _ I1 q1) ?_
  rintro u s2 ⟨x, H2, I2, rx, q2⟩
  refine thn (hi pins s2 σ H2 _ I2 q2) ?_
  rintro iv s3 ⟨y, H3, I3, ry, a, H4, ex, g, q3⟩
  subst ex
  obtain rfl : u = Value.ref a := rx
  exact d_setItem hu I3 g ry rv fun s4 I4 => ⟨σ, H4, I4, q3⟩
end


/-! ### displays -/
theorem dk_empty {P : Program} {w : World} {H : Hp} (h : Heap) (hb : sysModules < h.objs.size) : ObjOk P w H (h.push { cls := .type "dict", data := .dict #[] }) h.objs.size (.dK []) :=
  ⟨Nat.zero_le _, beq_eq_false_iff_ne.mpr (Ne.symm (Nat.ne_of_lt hb)), [], .nil, Heap.DictOf.new h⟩
/-- {}, to be a dict of the kind that is wanted -/
def tDNewK : TE := fun _ H Q => ∀ p, H p = none → Q (.ref p) (upd H p (.dK []))
section
variable {X : Cx} {pos : Pos}
theorem pe_dnewK : PE X (.Dict [] [] pos) tDNewK := fun pins s σ H Q I h =>
  wpAny_Dict_empty ⟨.ref s.heap.objs.size, _, I.laid (a := s.heap.objs.size) (o := .dK []) (t' := s.toks) (fun _ _ q => Heap.get?_push_of_some _ q) (Nat.le_refl _) (dk_empty s.heap I.big), rfl, h _ (I.hok.fresh (Nat.le_refl _))⟩
end


def mergeK (kvs more : List (Key × V)) : List (Key × V) := more.foldl (fun acc kv => putK acc kv.1 kv.2) kvs
theorem KV.merge : ∀ {more : List (Key × V)} {rs : List (Key × Value)} {kvs : List (Key × V)} {vs : List (Key × Value)}, KV more rs → KV kvs vs → KV (mergeK kvs more) (merged vs rs) := by
  intro more rs kvs vs r
  unfold KV at r
  induction r generalizing kvs vs with
  | nil => intro q; exact q
  | @cons p q ps qs h t ih =>
    intro r0
    have e : KV (putK kvs p.1 p.2) (stored vs q.1 q.2) := by
      have := r0.put p.1 h.2
      rw [← h.1]; exact this
    exact ih e
theorem length_mergeK : ∀ (more kvs : List (Key × V)), (mergeK kvs more).length ≤ kvs.length + more.length
  | [], kvs => by show kvs.length ≤ kvs.length + 0; lia
  | p :: r, kvs => by
    have h1 := length_mergeK r (putK kvs p.1 p.2)
    have h2 := length_putK kvs p.1 p.2
    show (mergeK (putK kvs p.1 p.2) r).length ≤ _
    rw [List.length_cons]; lia


/-! ### methods -/
/-- a method call o.m(e) of a built-in, with one argument: what must be seen of the text -/
structure M1 (X : Cx) (o : Expr) (m : Str) (apos : Pos) (e : Expr) (cpos : Pos) : Prop where
  base : attributeBase o m X.env (eval o X.env) = eval o X.env
  few : ((backTo cpos (starEach [e] X.env)).all (fun x => !x.1) && (backToKw cpos (keywordEach [] X.env)).all (fun x => x.1.isSome)
    && decide (([e] : List Expr).length + ([] : List Keyword).length + (if ([] : List Keyword).isEmpty then 0 else 1) < 30)) = true
  line : (apos.endLine == cpos.line) = true
  trees : backTo cpos (starEach [e] X.env) = [(false, eval e X.env)]

/-- a is a dict, whatever its keys -/
def IsD (H : Hp) (a : Addr) : Prop := (∃ kvs, Rd H a (.dK kvs)) ∨ ∃ kvs, Rd H a (.dT kvs)
theorem isD_at {X : Cx} {pins : List (Addr × Obj)} {σ : St} {H : Hp} {s : Shared} {a : Addr} (I : Inv X pins σ H s) (d : IsD H a) :
    s.TypeIs (.ref a) "dict" ∧ (∀ b, Value.ref a = .ref b → ∃ ob, s.heap.get? b = some ob ∧ ob.dict = none) ∧ (a == sysModules) = false := by
  rcases d with ⟨kvs, e⟩ | ⟨kvs, e⟩
  · obtain ⟨_, hd, vs, _, dd⟩ := dk_rd I.hok e
    refine ⟨dd.typeIs, fun b q => ?_, hd⟩
    cases q
    obtain ⟨ob, _, _, h1, h2, _⟩ := dd
    exact ⟨ob, h1, h2.2.1⟩
  · obtain ⟨_, hd, xs, _, dd⟩ := dt_rd I.hok e
    refine ⟨dd.typeIs, fun b q => ?_, hd⟩
    cases q
    obtain ⟨ob, _, _, h1, h2, _⟩ := dd
    exact ⟨ob, h1, h2.2.1⟩

section
variable {X : Cx} {pins : List (Addr × Obj)} {σ : St} {H : Hp} {s : Shared} {a : Addr} {y d : V} {u r : Value} {o : Option V} {A : Around} {E : Value → Shared → Prop}
/-- d.get(y) -/
theorem d_get1 {Q : Value → Shared → Prop} (hu : A.units + 1 < cLine) (I : Inv X pins σ H s) (g : DGet H a y o) (ry : RelV y u) (h : ∀ w' s', Inv X pins σ H s' → RelV (o.getD .non) w' → Q w' s') :
    wpAny (model X.prog X.w) A (call (.builtin "dict.get") [.ref a, u]) Q E s := by
  rcases g with ⟨kvs, k, e, ey, l⟩ | ⟨kvs, k, b, e, ey, eb, l⟩
  · subst ey
    obtain ⟨z, hd, vs, rel, dd⟩ := dk_rd I.hok e
    refine call_meetsIn PySem.F.slot_dict_get dd.typeIs PySem.F.entry_dict_get (PySem.F.args_dict_get_2 _ _) (meets_dict_get (mixKind X.prog X.w) a (kV_is ry) hd) ⟨_, dd.mapOf, h _ _ (I.tok _) ?_⟩
    rw [l]
    exact (rel.val k).getD rfl
  · subst ey
    cases (show u = Value.ref b from ry)
    obtain ⟨z, hd, xs, rel, dd⟩ := dt_rd I.hok e
    refine call_meetsIn PySem.F.slot_dict_get dd.typeIs PySem.F.entry_dict_get (PySem.F.args_dict_get_2 _ _) (meetsH_dict_get (tupleKind (mixKind X.prog X.w)) a b hd) ⟨tupleKind_room_in1 hu, k, xs, key_of I.hok eb, dd, h _ _ (I.tok _) ?_⟩
    rw [l]
    exact (rel.val k).getD rfl
end

def tDGet1 (td ty : TE) : TE := fun σ H Q => td σ H fun x H1 => ∃ a, x = .ref a ∧ IsD H1 a ∧ ty σ H1 fun y H2 => ∃ o, DGet H2 a y o ∧ Q (o.getD .non) H2
section
variable {X : Cx} {o e f : Expr} {apos cpos : Pos} {td ty tx : TE}
theorem pe_dget1 (hu : X.A.units + 1 < cLine) (ho : PE X o td) (he : PE X e ty) (m : M1 X o "get" apos e cpos) : PE X (.Call (.Attribute o "get" apos) [e] [] cpos) (tDGet1 td ty) := by
  intro pins s σ H Q I h
  refine wpAny_Call_method m.base m.few m.line PySem.F.plainAttrs_dict PySem.F.slot_dict_get PySem.F.type_dict_get (thn (ho pins s σ H _ I h) ?_)
  rintro u s1 ⟨x, H1, I1, rx, a, ex, d, q1⟩
  subst ex
  obtain rfl : u = Value.ref a := rx
  obtain ⟨t1, t2, _⟩ := isD_at I1 d
  refine ⟨t1, t2, ?_⟩
  rw [m.trees]
  refine Calls.callWith_builtin rfl (Calls.evalArgs_plain (Calls.spliced_cons (thn (he pins s1 σ H1 _ I1 q1) ?_)))
  rintro iv s2 ⟨y, H2, I2, ry, ov, g, q2⟩
  refine Calls.spliced_nil ?_
  exact d_get1 hu I2 g ry fun w' s3 I3 rw' => ⟨_, H2, I3, rw', q2⟩
end

/-! ### dict(d): a copy -/
section
variable {X : Cx} {pins : List (Addr × Obj)} {σ : St} {H : Hp} {s : Shared} {a : Addr} {kvs : List (Key × V)} {A : Around} {E : Value → Shared → Prop}
end


section
variable {X : Cx} {pins : List (Addr × Obj)} {σ : St} {H : Hp} {s : Shared} {a : Addr} {y : V} {u : Value} {A : Around} {E : Value → Shared → Prop}
end
end L2

namespace L2
open PySem PySem.Spec PyProof.Rows
section
variable {X : Cx}
end
/-! ### a dict's pairs: keys that differ -/
section
variable {κ : Type} [DecidableEq κ]
end
end L2

set_option Elab.async false
set_option linter.all false
set_option maxRecDepth 100000
set_option maxHeartbeats 4000000
/-! dicts: a copy, clear, == and != of alike ones; f-strings of a str and an int. Own work. -/
namespace DQ
open PySem PyProof.Rows
section
variable {prog : Program} {w : World} {κ : Type} [DecidableEq κ] {knd : PySem.KeyKind prog w κ} {A : Around} {E : Value → Shared → Prop} {s : Shared}
end
end DQ
namespace L2
open PySem PySem.Spec PyProof.Rows
section
variable {X : Cx}
end
end L2

set_option Elab.async false
set_option linter.all false
set_option maxRecDepth 100000
set_option maxHeartbeats 4000000
/-! dict(a list of pairs). Own work. -/
namespace DK
open PySem PyProof.Rows
theorem list_no_keys : typeLookup (.type "list") "keys" = pure none := am_miss_of_fast (by kernel_rfl)
theorem keys_miss {prog : Program} {w : World} {A : Around} {E : Value → Shared → Prop} {s : Shared} {a : Addr} {o : Obj} {xs : Array Value} {k : Nat} {Q : Option Value → Shared → Prop}
    (hx : s.heap.get? a = some o) (hc : o.cls = .type "list") (hdat : o.data = .seq xs k) (hd : o.dict = none) (hA : A.handled = none)
    (h : ∀ h' tk, (∀ b ob, s.heap.get? b = some ob → h'.get? b = some ob) → Q none { s with heap := h', toks := tk }) :
    wpAny (model prog w) A (getAttr? (.ref a) "keys") Q E s := by
  obtain ⟨c, dct, dat, sl⟩ := o
  simp only at hc hdat hd
  subst hc hdat hd
  obtain ⟨hp, g, d, tk, os⟩ := s
  have hT : ∀ tk', (⟨hp, g, d, tk', os⟩ : Shared).TypeIs (.ref a) "list" := fun _ => ⟨_, hx, rfl⟩
  have f1 := sub_AttributeError
  have f3 := F.slot_list_getattribute.lookup
  have f4 := F.slot_list_getattribute.bind (.ref a)
  have f5 := am_list_getattr_none
  unfold getAttr? getAttrBy? getAttrBy
  repeat (any_goals (first | assumption | exact hT _ | ((with_reducible show wpAny _ _ (call (Value.builtin "list.__getattribute__") _ _) _ _ _); refine call_meets F.slot_list_getattribute (hT _) am_entry_list_getattribute (F.args_list_getattribute_2 _ _) (meets_getattribute_miss_list a xs k sl "keys" _ list_no_keys (by decide +kernel)) ⟨hx, by simpa using hA, fun h' tk' e hx' => ?_⟩) | wp_step))
  obtain ⟨t', u', he⟩ := hx'.there
  show wpAny _ _ (getattributeRaised _ _ _ _ _ _ _) _ _ _
  unfold getattributeRaised
  repeat (any_goals (first | assumption | wp_step))
  exact h _ _ hx'.keeps
namespace F
theorem entry_dict_loop : entryFor table "dict.update.loop" = some Builtin.«dict.update.loop» := entryFor_of_tree (by kernel_rfl)
theorem plain_dict_loop : plainId "dict.update.loop" = true := by decide +kernel
end F
section
variable {prog : Program} {w : World} {κ : Type} [DecidableEq κ] {knd : PySem.KeyKind prog w κ} {A : Around} {R : Result → Shared → Prop} {I : Addr} {fp wr : List Addr} {G : Array GenState → Array GenState → Prop} {n : Nat} {P : Nat → Value → Prop} {St : Nat → Shared → Prop}
/-- a tuple of a key and a value -/
def PairAt (knd : PySem.KeyKind prog w κ) (h : Heap) (t : Addr) (k : κ) (u : Value) : Prop := ∃ kv, h.IsTuple t #[kv, u] ∧ knd.is k kv = true
theorem stored_len (kvs : List (κ × Value)) (k : κ) (v : Value) : (stored kvs k v).length ≤ kvs.length + 1 := by
  unfold stored
  split
  · rw [List.length_map]; lia
  · rw [List.length_append, List.length_singleton]; exact Nat.le_refl _
theorem dict_loop (W : WalksS prog w A.in1 I fp wr G n P St) (d : Addr) (hdf : d ∉ fp) (key : Nat → κ) (val : Nat → Value) :
    ∀ (k i : Nat) (s : Shared) (z : Int) (kvs : List (κ × Value)), n - i = k → i ≤ n → St i s →
      (∀ j v, P j v → ∃ t, v = .ref t ∧ t ∉ d :: wr ∧ PairAt knd s.heap t (key j) (val j)) →
      s.heap.DictOf knd d kvs → kvs.length + k ≤ sizeLine →
      (∀ s', Moved (d :: wr) G s s' → s'.heap.DictOf knd d ((List.range' i k).foldl (fun a j => stored a (key j) (val j)) kvs) → R (.ok (.ret .none)) s') →
      codeAny (model prog w) A (.builtin "dict.update.loop" ⟨[.ref d, .ref I, rawInt z, .none], []⟩) R s := by
  have hdw : d ∉ wr := fun h => hdf (W.sub _ h)
  have hsub : ∀ b ∈ wr, b ∈ d :: wr := fun b hb => List.mem_cons_of_mem _ hb
  intro k
  induction k with
  | zero =>
    intro i s z kvs hk hi hst hp hD hz hR
    have hin : i = n := by lia
    subst hin
    refine codeAny_builtin F.entry_dict_loop ?_
    rw [Around.under_plainId F.plain_dict_loop _]
    show wpAny _ A.in1 (pyNext (.ref I) >>= _) _ _ s
    refine wpAny_bind (W.done s _ _ hst fun s' hm => ?_)
    show wpAny _ A.in1 (Builtin.Dict.addKeywords d [] >>= _) _ _ s'
    refine wpAny_bind (wpAny_pure ?_)
    exact wpAny_pure (hR s' (hm.mono hsub) (by
      obtain ⟨o, es, ep, ho, rest⟩ := hD
      exact ⟨o, es, ep, hm.heap d _ hdw ho, rest⟩))
  | succ k ih =>
    intro i s z kvs hk hi hst hp hD hz hR
    have hlt : i < n := by lia
    refine codeAny_builtin F.entry_dict_loop ?_
    rw [Around.under_plainId F.plain_dict_loop _]
    show wpAny _ A.in1 (pyNext (.ref I) >>= _) _ _ s
    refine wpAny_bind (W.item i s _ _ hlt hst fun v s' hP hst' hm => ?_)
    obtain ⟨t, rfl, htw, kv, htu, hkv⟩ := hp i v hP
    have hD' : s'.heap.DictOf knd d kvs := by
      obtain ⟨o, es, ep, ho, rest⟩ := hD
      exact ⟨o, es, ep, hm.heap d _ hdw ho, rest⟩
    have htu' : s'.heap.IsTuple t #[kv, val i] := by
      obtain ⟨o, ho, rest⟩ := htu
      exact ⟨o, hm.heap t _ (fun h => htw (hsub _ h)) ho, rest⟩
    obtain ⟨ot, hot, hct, nt, hdt⟩ := htu'
    show wpAny _ A.in1 (holding [Value.ref t] (tryCatch (Builtin.Dict.pairItems (.ref t)) _ >>= _) >>= _) _ _ s'
    refine wpAny_bind (wpAny_holding (wpAny_bind (wpAny_tryCatch ?_)))
    unfold Builtin.Dict.pairItems
    have hT : s'.TypeIs (.ref t) "tuple" := ⟨_, hot, hct⟩
    refine wpAny_bind (wpAny_typeOf hT ?_)
    rw [if_pos (by decide)]
    refine wpAny_bind (wpAny_seqItems hot hdt (wpAny_pure ?_))
    show wpAny _ A.in1 (holding [kv, val i] (dictSet d kv (val i))) _ _ s'
    refine wpAny_holding (wpAny_dictSet_pairs hkv hD' (fun h' hD2 hsb => ?_) (by lia))
    have hl2 := stored_len kvs (key i) (val i)
    refine wpAny_pure ⟨plainId_quiet F.plain_dict_loop _, ih (i + 1) _ (z + 1) _ (by lia) hlt (W.frame _ s' _ _ hst' (Nat.le_succ _) fun b hb o e => ?_) (fun j v hj => ?_) hD2 (by lia) fun s'' hm'' hD'' => ?_⟩
    · exact hsb.extBut b o (fun h : b = d => hdf (by rw [← h]; exact hb)) e
    · obtain ⟨t', rfl, htw', kv', ⟨o', ho', rest'⟩, hkv'⟩ := hp j v hj
      exact ⟨t', rfl, htw', kv', ⟨o', hsb.extBut _ _ (fun h => htw' (by rw [h]; exact List.mem_cons_self)) (hm.heap _ _ (fun h => htw' (hsub _ h)) ho'), rest'⟩, hkv'⟩
    · refine hR s'' (Moved.trans W.gtrans ((hm.mono hsub).then_heap (Nat.le_succ _) fun b o hb e => ?_) hm'') (by rw [List.range'_succ]; exact hD'')
      exact hsb.extBut b o (fun h : b = d => hb (by rw [h]; exact List.mem_cons_self)) e
end
section
variable {prog : Program} {w : World} {κ : Type} [DecidableEq κ] {knd : PySem.KeyKind prog w κ} {A : Around} {E : Value → Shared → Prop} {s : Shared}
theorem call_pairs {l : Addr} {items : Array Value} {o : Obj} {nn : Nat} {Q : Value → Shared → Prop} (hh : A.handled = none) (hx : s.heap.get? l = some o) (hc : o.cls = .type "list") (hdat : o.data = .seq items nn) (hd : o.dict = none)
    (key : Nat → κ) (val : Nat → Value) (hp : ∀ (j : Nat) v, items[j]? = some v → ∃ t, v = .ref t ∧ PairAt knd s.heap t (key j) (val j)) (hz : items.size ≤ sizeLine)
    (h : ∀ h' tk, h'.DictOf knd s.heap.objs.size ((List.range items.size).foldl (fun a j => stored a (key j) (val j)) []) → (∀ b o, s.heap.get? b = some o → h'.get? b = some o) → Q (.ref s.heap.objs.size) { s with heap := h', toks := tk }) :
    wpAny (model prog w) A (call (.type "dict") [.ref l]) Q E s := by
  refine callType_codes (Q₁ := fun obj s₁ => obj = .ref s.heap.objs.size ∧ s₁ = { s with heap := s.heap.push { cls := .type "dict", data := .dict #[] } }) PySem.F.kt_called_dict (PySem.F.kt_typeCall_dict_1 _) PySem.F.entry_dict_init (kt_code_dict_new _ ⟨rfl, rfl⟩) ?_
  rintro obj s₁ ⟨rfl, rfl⟩
  have hnew : (s.heap.push { cls := .type "dict", data := .dict #[] }).DictOf knd s.heap.objs.size [] := Heap.DictOf.new s.heap
  have hl1 : (s.heap.push { cls := .type "dict", data := .dict #[] }).get? l = some o := Heap.get?_push_of_some _ hx
  refine ⟨hnew.typeIs, PySem.F.args_dict_init_2 _ _, ?_⟩
  unfold Builtin.«dict.__init__»
  refine wpAny_bind ?_
  unfold Builtin.Dict.selfAndRest
  refine wpAny_bind (wpAny_notOrdered_dict hnew.typeIs ?_)
  show wpAny _ _ (pure (s.heap.objs.size, [Value.ref l])) _ _ _
  refine wpAny_pure ?_
  show wpAny _ _ (Builtin.Dict.updateFrom "dict.__init__" s.heap.objs.size (.ref l) [] .none) _ _ _
  unfold Builtin.Dict.updateFrom
  refine wpAny_bind (wpAny_typeOf (T := "list") ⟨_, hl1, hc⟩ ?_)
  rw [if_pos (by decide)]
  refine wpAny_bind (keys_miss hl1 hc hdat hd (by simpa using hh) fun h2 tk2 hk2 => ?_)
  show wpAny _ _ (rule _ >>= fun _ => pyIter (Value.ref l) >>= _) _ _ _
  refine wpAny_bind (wpAny_rule ?_)
  have hL2 : h2.IsList l items := ⟨_, hk2 _ _ hl1, hc, _, hdat⟩
  refine wpAny_bind (wpAny_pyIter_list hL2 ?_)
  have hlt : l < s.heap.objs.size := Heap.lt_size hx
  have hs1 : s.heap.objs.size < h2.objs.size := by
    obtain ⟨o', es, ep, ho', _⟩ := hnew
    exact Heap.lt_size (hk2 _ _ ho')
  have hneI : l ≠ h2.objs.size := Nat.ne_of_lt (Nat.lt_trans hlt hs1)
  have hk3 : ∀ b ob, s.heap.get? b = some ob → (h2.push { cls := .type "list_iterator", data := .fields #[.ref l, .int 0 0] }).get? b = some ob := fun b ob e => Heap.get?_push_of_some _ (hk2 _ _ (Heap.get?_push_of_some _ e))
  refine wpAny_pure ⟨plainId_quiet F.plain_dict_loop _, dict_loop (knd := knd) ((Walks.list (by simpa using hh) h2.objs.size l hneI items).toS) s.heap.objs.size ?_ key val (items.size - 0) 0 _ 0 [] rfl (Nat.zero_le _) ⟨⟨_, Heap.get?_push_size _ rfl, rfl, rfl⟩, hL2.push _⟩ (fun j v hj => ?_) ?_ (by simpa using hz) fun s' hm hD => ?_⟩
  · simp only [List.mem_cons, List.not_mem_nil, or_false, not_or]; exact ⟨Nat.ne_of_lt hs1, Nat.ne_of_gt hlt⟩
  · obtain ⟨t, rfl, kv, ⟨ot, hot, rest⟩, hkv⟩ := hp j v hj
    have htl : t < s.heap.objs.size := Heap.lt_size hot
    exact ⟨t, rfl, by simp only [List.mem_cons, List.not_mem_nil, or_false, not_or]; exact ⟨Nat.ne_of_lt htl, Nat.ne_of_lt (Nat.lt_trans htl hs1)⟩, kv, ⟨ot, hk3 _ _ hot, rest⟩, hkv⟩
  · obtain ⟨o', es, ep, ho', rest⟩ := hnew
    exact ⟨o', es, ep, Heap.get?_push_of_some _ (hk2 _ _ ho'), rest⟩
  · obtain ⟨h', g', d', tk', os'⟩ := s'
    have eg : g' = s.gens := hm.gens
    have ed : d' = s.drawn := hm.drawn
    have eo : os' = s.os := hm.os
    subst eg; subst ed; subst eo
    refine ⟨rfl, h h' tk' (by rw [List.range_eq_range']; exact hD) fun b ob e => ?_⟩
    have hb : b < s.heap.objs.size := Heap.lt_size e
    exact hm.heap b ob (by simp only [List.mem_cons, List.not_mem_nil, or_false, not_or]; exact ⟨Nat.ne_of_lt hb, Nat.ne_of_lt (Nat.lt_trans hb hs1)⟩) (hk3 _ _ e)
end
end DK
namespace L2
open PySem PySem.Spec PyProof.Rows
variable {X : Cx}
/-- the dict of these pairs -/
def dOf (kvl : List (Key × V)) : List (Key × V) := kvl.foldl (fun a p => putK a p.1 p.2) []
theorem kv_fold {kvl : List (Key × V)} {n : Nat} {key : Nat → Key} {val : Nat → Value} (hk : ∀ i, i < n → ∃ v, kvl[i]? = some (key i, v) ∧ RelV v (val i)) : KV ((kvl.take n).foldl (fun a p => putK a p.1 p.2) []) ((List.range n).foldl (fun a j => stored a (key j) (val j)) []) := by
  induction n with
  | zero => exact .nil
  | succ n ih =>
    obtain ⟨v, e, r⟩ := hk n (Nat.lt_succ_self _)
    rw [List.take_succ, e, List.foldl_append, List.range_succ, List.foldl_append]
    exact (ih fun i hi => hk i (Nat.lt_succ_of_lt hi)).put (key n) r
theorem dOf_len (kvl : List (Key × V)) : (dOf kvl).length ≤ kvl.length := by
  unfold dOf
  have : ∀ (a b : List (Key × V)), (a.foldl (fun a p => putK a p.1 p.2) b).length ≤ b.length + a.length := fun a => by
    induction a with
    | nil => intro b; simp
    | cons p r ih => intro b; rw [List.foldl_cons]; have := ih (putK b p.1 p.2); have := length_putK b p.1 p.2; rw [List.length_cons]; lia
  simpa using this kvl []
/-- dict(a list of pairs) -/
theorem call_dpairs (hc : X.calm = true) : CallR X (.type "dict") (fun xs H Q => ∃ (p : Addr) (vs : List V) (kvl : List (Key × V)), xs = [.ref p] ∧ H p = some (.lst vs) ∧ vs.length = kvl.length ∧ (∀ (i : Nat) kv, kvl[i]? = some kv → ∃ t, vs[i]? = some (.ref t) ∧ H t = some (.tup [kV kv.1, kv.2])) ∧ ∀ l, H l = none → Q (.ref l) (upd H l (.dK (dOf kvl)))) := by
  intro pins s σ H xs us Q I r h
  obtain ⟨p, vs, kvl, rfl, hp, hlen, hpr, q⟩ := h
  obtain ⟨u, rfl, rx⟩ := vals1 r
  cases rx
  obtain ⟨hz, its, nn, rv, hget⟩ := I.hok p _ hp
  have hl2 : its.length = kvl.length := by rw [← rv.length, hlen]
  have hpair : ∀ (j : Nat), ∃ u : Value, ∀ v, its.toArray[j]? = some v → ∃ t, v = .ref t ∧ DK.PairAt (mixKind X.prog X.w) s.heap t ((kvl[j]?.map (·.1)).getD (.inl none)) u ∧ ∃ y, kvl[j]? = some ((kvl[j]?.map (·.1)).getD (.inl none), y) ∧ RelV y u := fun j => by
    cases e : its.toArray[j]? with
    | none => exact ⟨.none, fun v e' => by cases e'⟩
    | some v =>
      have e' : its[j]? = some v := by simpa using e
      have hj : j < kvl.length := by rw [← hl2]; exact (List.getElem?_eq_some_iff.mp e').1
      obtain ⟨t, et, ht⟩ := hpr j _ (List.getElem?_eq_getElem hj)
      obtain ⟨ht1, its2, rt, hT⟩ := I.hok t _ ht
      obtain ⟨u1, u2, rfl, r1, r2⟩ := vals2 rt
      have ev : v = .ref t := by
        obtain ⟨v', e1, r'⟩ := Vals.get rv et
        rw [e'] at e1
        cases e1
        exact r'
      refine ⟨u2, fun v' ev' => ?_⟩
      cases ev'
      rw [List.getElem?_eq_getElem hj]
      exact ⟨t, ev, ⟨u1, hT.tup, kV_is r1⟩, kvl[j].2, rfl, r2⟩
  obtain ⟨val, hval⟩ := Classical.axiomOfChoice hpair
  refine DK.call_pairs (knd := mixKind X.prog X.w) (o := { cls := .type "list", data := .seq its.toArray nn }) (I.ok.hd hc) hget rfl rfl rfl (fun j => (kvl[j]?.map (·.1)).getD (.inl none)) val (fun j v e => ?_) (by rw [List.size_toArray, ← rv.length]; exact hz) fun h' tk hD hk => ?_
  · obtain ⟨t, e1, e2, _⟩ := hval j v e
    exact ⟨t, e1, e2⟩
  · rw [show its.toArray.size = kvl.length from hl2] at hD
    have hkv := kv_fold (kvl := kvl) (n := kvl.length) (key := fun j => (kvl[j]?.map (·.1)).getD (.inl none)) (val := val) (fun i hi => by
      have hi2 : i < its.toArray.size := by rw [List.size_toArray, hl2]; exact hi
      obtain ⟨t, _, _, y, e1, e2⟩ := hval i _ (Array.getElem?_eq_getElem hi2)
      exact ⟨y, e1, e2⟩)
    rw [List.take_length] at hkv
    have hl3 := dOf_len kvl
    refine ⟨.ref s.heap.objs.size, _, I.laid (t' := tk) hk (Nat.le_refl _) (dk_new (by rw [hlen] at hz; exact Nat.le_trans hl3 hz) ?_ hkv hD), rfl, q _ (I.hok.fresh (Nat.le_refl _))⟩
    have := I.big
    exact beq_false_of_ne (Nat.ne_of_gt this)
end L2

set_option Elab.async false
set_option linter.all false
set_option maxRecDepth 100000
set_option maxHeartbeats 4000000
/-! zip(a tuple, a list): the step of zip over any two streams. Own work. -/
namespace ZT
open PySem PyProof.Rows
/-- an iterator at i over what lies at l -/
structure Stm (prog : Program) (w : World) (A : Around) (i l : Addr) (at_ : Nat → Heap → Prop) (its : Array Value) : Prop where
  keep : ∀ k h h', at_ k h → (∀ o, h.get? i = some o → h'.get? i = some o) → (∀ o, h.get? l = some o → h'.get? l = some o) → at_ k h'
  lt : ∀ k h, at_ k h → i < h.objs.size
  item : ∀ (k : Nat) (s : Shared) (E : Value → Shared → Prop) (Q : Value → Shared → Prop) (x : Value), at_ k s.heap → its[k]? = some x → (∀ h', at_ (k + 1) h' → Heap.SameBut i s.heap h' → Q x { s with heap := h' }) → wpAny (model prog w) A (Builtin.SmallTypes.nextOf (.ref i)) Q E s
  done : ∀ (k : Nat) (s : Shared) (E : Value → Shared → Prop) (Q : Value → Shared → Prop), at_ k s.heap → its[k]? = none → (∀ h' e, Heap.ExtBut i s.heap h' → (∃ o, h'.get? e = some o ∧ o.cls = .type "StopIteration") → E (.ref e) { s with heap := h' }) → wpAny (model prog w) A (Builtin.SmallTypes.nextOf (.ref i)) Q E s
section
variable {prog : Program} {w : World} {A : Around} {E : Value → Shared → Prop} {s : Shared}
theorem stm_list (hh : A.handled = none) {i l : Addr} (ne : l ≠ i) (its : Array Value) : Stm prog w A i l (fun k h => h.IsListIter i l k ∧ h.IsList l its) its where
  keep := fun k h h' st k1 k2 => ⟨st.1.at k1, st.2.at k2⟩
  lt := fun k h st => let ⟨_, e, _⟩ := st.1; Heap.lt_size e
  item := fun k s E Q x st hx q => wpAny_nextOf_list_item st.1 st.2 hx fun h' a b => q h' ⟨a, st.2.extBut b.extBut ne⟩ b
  done := fun k s E Q st hx q => wpAny_nextOf_list_end hh st.1 st.2 hx q
theorem tup_item {j tp : Addr} {n : Nat} {xs : Array Value} {x : Value} {Q : Value → Shared → Prop} (hj : s.heap.IsTupleIter j tp n) (hp : s.heap.IsTuple tp xs) (hx : xs[n]? = some x)
    (q : ∀ h', h'.IsTupleIter j tp (n + 1) → Heap.SameBut j s.heap h' → Q x { s with heap := h' }) : wpAny (model prog w) A (Builtin.SmallTypes.nextOf (.ref j)) Q E s := by
  obtain ⟨oj, ej, cj, dj⟩ := id hj
  obtain ⟨op, ep, _, np, dp⟩ := hp
  unfold Builtin.SmallTypes.nextOf
  refine wpAny_bind (wpAny_callSpecial?_slot (name := Str.ofString "__next__") hj.typeIs F.slot_tuple_iterator_next (wpAny_call_entry F.slot_tuple_iterator_next hj.typeIs F.entry_tuple_iterator_next ?_ (F.args_tuple_iterator_next_1 _)))
  show wpAny _ _ (field (.ref j) 0 >>= _) _ _ s
  refine wpAny_bind (wpAny_field ej dj (x := .ref tp) rfl ?_)
  show wpAny _ _ (if (Value.ref tp == Value.none) = true then _ else _) _ _ s
  rw [if_neg (show ¬ (Value.ref tp == Value.none) = true from Bool.false_ne_true)]
  show wpAny _ _ (field (.ref j) 1 >>= _) _ _ s
  refine wpAny_bind (wpAny_field ej dj (x := .int n 0) rfl ?_)
  show wpAny _ _ (seqItems? (.ref tp) >>= _) _ _ s
  refine wpAny_bind (wpAny_seqItems ep dp ?_)
  simp only [Int.toNat_natCast, hx]
  refine wpAny_bind (wpAny_setField ej dj (by simp) (wpAny_pure ⟨x, rfl, wpAny_pure (q _ ⟨_, Heap.get?_update_self _ ej (Obj.isFreed_of_fields (Obj.data_mapFields dj _)), (Obj.cls_mapFields ..).trans cj, ?_⟩ (Heap.SameBut.update ..))⟩))
  rw [Obj.data_mapFields dj]; simp [rawInt]
theorem tup_done {j tp : Addr} {n : Nat} {xs : Array Value} {Q : Value → Shared → Prop} (hh : A.handled = none) (hj : s.heap.IsTupleIter j tp n) (hp : s.heap.IsTuple tp xs) (hx : xs[n]? = none)
    (q : ∀ h' e, Heap.ExtBut j s.heap h' → (∃ o, h'.get? e = some o ∧ o.cls = .type "StopIteration") → E (.ref e) { s with heap := h' }) : wpAny (model prog w) A (Builtin.SmallTypes.nextOf (.ref j)) Q E s := by
  obtain ⟨oj, ej, cj, dj⟩ := id hj
  obtain ⟨op, ep, _, np, dp⟩ := hp
  unfold Builtin.SmallTypes.nextOf
  refine wpAny_bind (wpAny_callSpecial?_slot (name := Str.ofString "__next__") hj.typeIs F.slot_tuple_iterator_next (wpAny_call_entry F.slot_tuple_iterator_next hj.typeIs F.entry_tuple_iterator_next ?_ (F.args_tuple_iterator_next_1 _)))
  show wpAny _ _ (field (.ref j) 0 >>= _) _ _ s
  refine wpAny_bind (wpAny_field ej dj (x := .ref tp) rfl ?_)
  show wpAny _ _ (if (Value.ref tp == Value.none) = true then _ else _) _ _ s
  rw [if_neg (show ¬ (Value.ref tp == Value.none) = true from Bool.false_ne_true)]
  show wpAny _ _ (field (.ref j) 1 >>= _) _ _ s
  refine wpAny_bind (wpAny_field ej dj (x := .int n 0) rfl ?_)
  show wpAny _ _ (seqItems? (.ref tp) >>= _) _ _ s
  refine wpAny_bind (wpAny_seqItems ep dp ?_)
  simp only [Int.toNat_natCast, hx]
  refine wpAny_bind (wpAny_rule (wpAny_bind (wpAny_setField ej dj (by simp) ?_)))
  show wpAny _ _ (newExc (.type "StopIteration") [] >>= _) _ _ _
  refine wpAny_bind ?_
  simp only [newExc, newTuple]
  refine wpAny_bind (wpAny_newObj_type ?_ (by size_fits))
  refine wpAny_bind (m := firstArgMember _ _) (wpAny_of_eq (a := Value.none) (by simp only [firstArgMember]; rfl) ?_)
  refine wpAny_newObj_type ?_ (by size_fits)
  simp only [raiseNew]
  refine wpAny_bind (wpAny_handled ?_)
  rw [show A.in1.handled = none from hh]
  refine wpAny_bind (wpAny_pure (wpAny_throw (q _ _ (((Heap.SameBut.update ..).extBut.push _).push _) ⟨_, Heap.get?_push_size _ rfl, rfl⟩)))
theorem stm_tuple (hh : A.handled = none) {i l : Addr} (ne : l ≠ i) (its : Array Value) : Stm prog w A i l (fun k h => h.IsTupleIter i l k ∧ h.IsTuple l its) its where
  keep := fun k h h' st k1 k2 => ⟨let ⟨o, e, r⟩ := st.1; ⟨o, k1 o e, r⟩, let ⟨o, e, r⟩ := st.2; ⟨o, k2 o e, r⟩⟩
  lt := fun k h st => let ⟨_, e, _⟩ := st.1; Heap.lt_size e
  item := fun k s E Q x st hx q => tup_item st.1 st.2 hx fun h' a b => q h' ⟨a, st.2.extBut b.extBut ne⟩ b
  done := fun k s E Q st hx q => tup_done hh st.1 st.2 hx q
/-- all apart -/
structure Ap (z TI TO i1 i2 l1 l2 : Addr) : Prop extends L2.ZipA z TI TO i1 i2 where
  l1z : l1 ≠ z
  l1O : l1 ≠ TO
  l12 : l1 ≠ i2
  l2z : l2 ≠ z
  l2O : l2 ≠ TO
  l21 : l2 ≠ i1
theorem step_item {z TI TO i1 i2 l1 l2 : Addr} {a1 a2 : Nat → Heap → Prop} {k1 k2 : Nat} {xs ys : Array Value} {x y p q : Value} {Q : Value → Shared → Prop} (D : Ap z TI TO i1 i2 l1 l2) (S1 : Stm prog w A i1 l1 a1 xs) (S2 : Stm prog w A i2 l2 a2 ys)
    (hz : IsZip s.heap z TI TO .none) (hTI : IsPair s.heap TI (.ref i1) (.ref i2)) (hTO : IsPair s.heap TO p q) (h1 : a1 k1 s.heap) (h2 : a2 k2 s.heap) (hx : xs[k1]? = some x) (hy : ys[k2]? = some y)
    (hQ : ∀ h', IsZip h' z TI TO (rawInt s.heap.objs.size) → IsPair h' TO x y → a1 (k1 + 1) h' → a2 (k2 + 1) h' → IsPair h' s.heap.objs.size x y →
      (∀ c o, c ≠ z → c ≠ TO → c ≠ i1 → c ≠ i2 → s.heap.get? c = some o → h'.get? c = some o) → Q (.ref s.heap.objs.size) { s with heap := h' }) :
    wpAny (model prog w) A (Builtin.«zip.__next__» ⟨[.ref z], []⟩) (fun fin s' => ∃ v, fin = .done (.ret v) ∧ Q v s') E s := by
  refine wpAny_bind (m := field (.ref z) 2) (wpAny_field hz rfl (x := .bool false) rfl ?_)
  refine wpAny_bind (m := field (.ref z) 3) (wpAny_field hz rfl (x := .ref TI) rfl ?_)
  refine wpAny_bind (wpAny_seqItems hTI rfl ?_)
  refine wpAny_bind (m := Builtin.SmallTypes.ownedTupleIsFree (.ref z)) ?_
  unfold Builtin.SmallTypes.ownedTupleIsFree
  refine wpAny_bind (wpAny_field hz rfl (x := .none) rfl (wpAny_pure ?_))
  simp only [if_true]
  refine wpAny_bind (wpAny_rule (wpAny_bind (wpAny_field hz rfl (x := .ref TO) rfl (wpAny_bind (wpAny_setField_rec hz (by simp) fun g1 z1 b1 => wpAny_bind ?_)))))
  simp only [List.zipIdx_cons, List.zipIdx_nil, List.forIn_cons, List.forIn_nil]
  have u1 : ∀ c o, c ≠ z → s.heap.get? c = some o → g1.get? c = some o := fun c o n e => b1.extBut _ _ n e
  -- the first stream
  refine wpAny_bind (wpAny_bind (wpAny_onRaise (wpAny_bind (m := Builtin.SmallTypes.nextOf (.ref i1)) (S1.item k1 _ _ _ x (S1.keep _ _ _ h1 (fun o e => u1 _ o D.i1z e) fun o e => u1 _ o D.l1z e) hx fun g2 c1 b2 => wpAny_pure ?_))))
  have u2 : ∀ c o, c ≠ z → c ≠ i1 → s.heap.get? c = some o → g2.get? c = some o := fun c o n n1 e => b2.extBut _ _ n1 (u1 c o n e)
  have t2 : IsPair g2 TO p q := u2 _ _ D.TOz D.TOi1 hTO
  refine wpAny_bind (wpAny_seqItems t2 rfl (wpAny_bind (wpAny_updateSeq_pair t2 fun g3 t3 b3 => wpAny_bind (wpAny_letGo (wpAny_pure ?_)))))
  have u3 : ∀ c o, c ≠ z → c ≠ i1 → c ≠ TO → s.heap.get? c = some o → g3.get? c = some o := fun c o n n1 n2 e => b3.extBut _ _ n2 (u2 c o n n1 e)
  have c3 : a1 (k1 + 1) g3 := S1.keep _ _ _ c1 (fun o e => b3.extBut _ _ (Ne.symm D.TOi1) e) fun o e => b3.extBut _ _ D.l1O e
  -- the second
  refine wpAny_bind (wpAny_bind (wpAny_onRaise (wpAny_bind (m := Builtin.SmallTypes.nextOf (.ref i2)) (S2.item k2 _ _ _ y (S2.keep _ _ _ h2 (fun o e => u3 _ o D.i2z (Ne.symm D.i12) (Ne.symm D.TOi2) e) fun o e => u3 _ o D.l2z D.l21 D.l2O e) hy fun g4 c4 b4 => wpAny_pure ?_))))
  have t4 : IsPair g4 TO x q := b4.extBut _ _ D.TOi2 t3
  refine wpAny_bind (wpAny_seqItems t4 rfl (wpAny_bind (wpAny_updateSeq_pair t4 fun g5 t5 b5 => wpAny_bind (wpAny_letGo (wpAny_pure (wpAny_pure ?_))))))
  have t5' : IsPair g5 TO x y := t5
  have d1 : a1 (k1 + 1) g5 := S1.keep _ _ _ c3 (fun o e => b5.extBut _ _ (Ne.symm D.TOi1) (b4.extBut _ _ D.i12 e)) fun o e => b5.extBut _ _ D.l1O (b4.extBut _ _ D.l12 e)
  have d2 : a2 (k2 + 1) g5 := S2.keep _ _ _ c4 (fun o e => b5.extBut _ _ (Ne.symm D.TOi2) e) fun o e => b5.extBut _ _ D.l2O e
  have u5 : ∀ c o, c ≠ z → c ≠ TO → c ≠ i1 → c ≠ i2 → s.heap.get? c = some o → g5.get? c = some o := fun c o n n1 n2 n3 e => b5.extBut _ _ n1 (b4.extBut _ _ n3 (u3 c o n n2 n1 e))
  have z5 : IsZip g5 z TI TO .ellipsis := b5.extBut _ _ (Ne.symm D.TOz) (b4.extBut _ _ (Ne.symm D.i2z) (b3.extBut _ _ (Ne.symm D.TOz) (b2.extBut _ _ (Ne.symm D.i1z) z1)))
  have es : g5.objs.size = s.heap.objs.size := by rw [b5.1, b4.1, b3.1, b2.1, b1.1]
  refine wpAny_bind (wpAny_seqItems t5' rfl (wpAny_bind (wpAny_newTuple (wpAny_bind (m := Builtin.SmallTypes.ownedTupleHandOut (.ref z) (.ref g5.objs.size)) ?_))))
  unfold Builtin.SmallTypes.ownedTupleHandOut
  have z6 : IsZip (g5.push { cls := .type "tuple", data := .seq #[x, y] }) z TI TO .ellipsis := Heap.get?_push_of_some _ z5
  refine wpAny_bind (wpAny_setField_rec z6 (by simp) fun g7 z7 b7 => wpAny_setField_rec z7 (by simp) fun g8 z8 b8 => wpAny_pure ⟨_, rfl, ?_⟩)
  have u8 : ∀ c o, c ≠ z → g5.get? c = some o → g8.get? c = some o := fun c o n e => b8.extBut _ _ n (b7.extBut _ _ n (Heap.get?_push_of_some _ e))
  have zl : z < g5.objs.size := Heap.lt_size z5
  have z8' : IsZip g8 z TI TO (rawInt g5.objs.size) := z8
  have t8 : IsPair g8 g5.objs.size x y := b8.extBut _ _ (Nat.ne_of_gt zl) (b7.extBut _ _ (Nat.ne_of_gt zl) (Heap.get?_push_size _ rfl))
  show Q (.ref g5.objs.size) _
  rw [es] at z8' t8 ⊢
  exact hQ g8 z8' (u8 _ _ D.TOz t5') (S1.keep _ _ _ d1 (fun o e => u8 _ o D.i1z e) fun o e => u8 _ o D.l1z e) (S2.keep _ _ _ d2 (fun o e => u8 _ o D.i2z e) fun o e => u8 _ o D.l2z e) t8 fun c o n n1 n2 n3 e => u8 c o n (u5 c o n n1 n2 n3 e)
theorem step_end {z TI TO i1 i2 l1 l2 : Addr} {a1 a2 : Nat → Heap → Prop} {k1 k2 : Nat} {xs ys : Array Value} {p q : Value} {Q : PySem.Fin → Shared → Prop} (D : Ap z TI TO i1 i2 l1 l2) (S1 : Stm prog w A i1 l1 a1 xs) (S2 : Stm prog w A i2 l2 a2 ys)
    (hz : IsZip s.heap z TI TO .none) (hTI : IsPair s.heap TI (.ref i1) (.ref i2)) (hTO : IsPair s.heap TO p q) (h1 : a1 k1 s.heap) (h2 : a2 k2 s.heap) (hend : xs[k1]? = none ∨ ys[k2]? = none)
    (hE : ∀ h' e, (∀ c o, c ≠ z → c ≠ TO → c ≠ i1 → c ≠ i2 → s.heap.get? c = some o → h'.get? c = some o) → (∃ o, h'.get? e = some o ∧ o.cls = .type "StopIteration") → E (.ref e) { s with heap := h' }) :
    wpAny (model prog w) A (Builtin.«zip.__next__» ⟨[.ref z], []⟩) Q E s := by
  refine wpAny_bind (m := field (.ref z) 2) (wpAny_field hz rfl (x := .bool false) rfl ?_)
  refine wpAny_bind (m := field (.ref z) 3) (wpAny_field hz rfl (x := .ref TI) rfl ?_)
  refine wpAny_bind (wpAny_seqItems hTI rfl ?_)
  refine wpAny_bind (m := Builtin.SmallTypes.ownedTupleIsFree (.ref z)) ?_
  unfold Builtin.SmallTypes.ownedTupleIsFree
  refine wpAny_bind (wpAny_field hz rfl (x := .none) rfl (wpAny_pure ?_))
  simp only [if_true]
  refine wpAny_bind (wpAny_rule (wpAny_bind (wpAny_field hz rfl (x := .ref TO) rfl (wpAny_bind (wpAny_setField_rec hz (by simp) fun g1 z1 b1 => wpAny_bind ?_)))))
  simp only [List.zipIdx_cons, List.zipIdx_nil, List.forIn_cons, List.forIn_nil]
  have u1 : ∀ c o, c ≠ z → s.heap.get? c = some o → g1.get? c = some o := fun c o n e => b1.extBut _ _ n e
  have z1' : IsZip g1 z TI TO .ellipsis := z1
  have f1 := S1.keep _ _ _ h1 (fun o e => u1 _ o D.i1z e) fun o e => u1 _ o D.l1z e
  cases hx : xs[k1]? with
  | none =>
    refine wpAny_bind (wpAny_bind (wpAny_onRaise (wpAny_bind (m := Builtin.SmallTypes.nextOf (.ref i1)) (S1.done k1 _ _ _ f1 hx ?_))))
    rintro g2 e b2 ⟨oe, he, ce⟩
    have z2 : IsZip g2 z TI TO .ellipsis := b2 _ _ (Ne.symm D.i1z) z1'
    have ne : e ≠ z := fun x => by subst x; rw [z2] at he; cases he; simp at ce
    exact wpAny_setField_rec z2 (by simp) fun g3 _ b3 => hE g3 e (fun c o n _ n2 _ q => b3.extBut _ _ n (b2 _ _ n2 (u1 c o n q))) ⟨oe, b3.extBut _ _ ne he, ce⟩
  | some x =>
    have hy : ys[k2]? = none := by
      rcases hend with h | h
      · rw [hx] at h; cases h
      · exact h
    refine wpAny_bind (wpAny_bind (wpAny_onRaise (wpAny_bind (m := Builtin.SmallTypes.nextOf (.ref i1)) (S1.item k1 _ _ _ x f1 hx fun g2 c1 b2 => wpAny_pure ?_))))
    have u2 : ∀ c o, c ≠ z → c ≠ i1 → s.heap.get? c = some o → g2.get? c = some o := fun c o n n1 e => b2.extBut _ _ n1 (u1 c o n e)
    have t2 : IsPair g2 TO p q := u2 _ _ D.TOz D.TOi1 hTO
    refine wpAny_bind (wpAny_seqItems t2 rfl (wpAny_bind (wpAny_updateSeq_pair t2 fun g3 t3 b3 => wpAny_bind (wpAny_letGo (wpAny_pure ?_)))))
    have u3 : ∀ c o, c ≠ z → c ≠ i1 → c ≠ TO → s.heap.get? c = some o → g3.get? c = some o := fun c o n n1 n2 e => b3.extBut _ _ n2 (u2 c o n n1 e)
    refine wpAny_bind (wpAny_bind (wpAny_onRaise (wpAny_bind (m := Builtin.SmallTypes.nextOf (.ref i2)) (S2.done k2 _ _ _ (S2.keep _ _ _ h2 (fun o e => u3 _ o D.i2z (Ne.symm D.i12) (Ne.symm D.TOi2) e) fun o e => u3 _ o D.l2z D.l21 D.l2O e) hy ?_))))
    rintro g4 e b4 ⟨oe, he, ce⟩
    have z4 : IsZip g4 z TI TO .ellipsis := b4 _ _ (Ne.symm D.i2z) (b3.extBut _ _ (Ne.symm D.TOz) (b2.extBut _ _ (Ne.symm D.i1z) z1'))
    have ne : e ≠ z := fun x => by subst x; rw [z4] at he; cases he; simp at ce
    exact wpAny_setField_rec z4 (by simp) fun g5 _ b5 => hE g5 e (fun c o n n1 n2 n3 q => b5.extBut _ _ n (b4 _ _ n3 (u3 c o n n2 n1 q))) ⟨oe, b5.extBut _ _ ne he, ce⟩
theorem next_item {z TI TO i1 i2 l1 l2 : Addr} {a1 a2 : Nat → Heap → Prop} {k1 k2 : Nat} {xs ys : Array Value} {x y p q : Value} {Q : Option Value → Shared → Prop} (D : Ap z TI TO i1 i2 l1 l2) (S1 : Stm prog w A.in1 i1 l1 a1 xs) (S2 : Stm prog w A.in1 i2 l2 a2 ys)
    (hz : IsZip s.heap z TI TO .none) (hTI : IsPair s.heap TI (.ref i1) (.ref i2)) (hTO : IsPair s.heap TO p q) (h1 : a1 k1 s.heap) (h2 : a2 k2 s.heap) (hx : xs[k1]? = some x) (hy : ys[k2]? = some y)
    (hQ : ∀ h', IsZip h' z TI TO (rawInt s.heap.objs.size) → IsPair h' TO x y → a1 (k1 + 1) h' → a2 (k2 + 1) h' → IsPair h' s.heap.objs.size x y →
      (∀ c o, c ≠ z → c ≠ TO → c ≠ i1 → c ≠ i2 → s.heap.get? c = some o → h'.get? c = some o) → Q (some (.ref s.heap.objs.size)) { s with heap := h' }) :
    wpAny (model prog w) A (pyNext (.ref z)) Q E s := by
  have hT : s.TypeIs (.ref z) "zip" := ⟨_, hz, rfl⟩
  unfold pyNext
  exact wpAny_bind (wpAny_attempt (wpAny_callSpecial?_slot (name := Str.ofString "__next__") hT F.slot_zip_next (wpAny_call_entry F.slot_zip_next hT F.entry_zip_next
    (step_item D S1 S2 hz hTI hTO h1 h2 hx hy fun h' b1 b2 b3 b4 b5 b6 => wpAny_pure (hQ h' b1 b2 b3 b4 b5 b6)) (F.args_zip_next_1 _))))
theorem next_end {z TI TO i1 i2 l1 l2 : Addr} {a1 a2 : Nat → Heap → Prop} {k1 k2 : Nat} {xs ys : Array Value} {p q : Value} {Q : Option Value → Shared → Prop} (D : Ap z TI TO i1 i2 l1 l2) (S1 : Stm prog w A.in1 i1 l1 a1 xs) (S2 : Stm prog w A.in1 i2 l2 a2 ys)
    (hz : IsZip s.heap z TI TO .none) (hTI : IsPair s.heap TI (.ref i1) (.ref i2)) (hTO : IsPair s.heap TO p q) (h1 : a1 k1 s.heap) (h2 : a2 k2 s.heap) (hend : xs[k1]? = none ∨ ys[k2]? = none)
    (hQ : ∀ h', (∀ c o, c ≠ z → c ≠ TO → c ≠ i1 → c ≠ i2 → s.heap.get? c = some o → h'.get? c = some o) → Q none { s with heap := h' }) : wpAny (model prog w) A (pyNext (.ref z)) Q E s := by
  have hT : s.TypeIs (.ref z) "zip" := ⟨_, hz, rfl⟩
  unfold pyNext
  refine wpAny_bind (wpAny_attempt (wpAny_callSpecial?_slot (name := Str.ofString "__next__") hT F.slot_zip_next (wpAny_call_entry F.slot_zip_next hT F.entry_zip_next (step_end D S1 S2 hz hTI hTO h1 h2 hend fun h' e hk ⟨o, ho, hc⟩ => ?_) (F.args_zip_next_1 _))))
  exact wpAny_bind (wpAny_isInstance (T := "StopIteration") (b := true) ⟨o, ho, hc⟩ isSubtype_stop (wpAny_pure (hQ _ hk)))
end
abbrev hA (h : Heap) (t : Addr) : Heap := h.push { cls := .type "tuple_iterator", data := .fields #[.ref t, .int 0 0] }
abbrev hB (h : Heap) (t l : Addr) : Heap := (hA h t).push { cls := .type "list_iterator", data := .fields #[.ref l, .int 0 0] }
abbrev hC (h : Heap) (t l : Addr) : Heap := (hB h t l).push { cls := .type "tuple", data := .seq #[.ref h.objs.size, .ref (hA h t).objs.size] }
abbrev hD (h : Heap) (t l : Addr) : Heap := (hC h t l).push { cls := .type "tuple", data := .seq #[.none, .none] }
abbrev hE (h : Heap) (t l : Addr) : Heap := (hD h t l).push { cls := .type "zip", data := .fields #[.none, .bool false, .bool false, .ref (hB h t l).objs.size, .ref (hC h t l).objs.size] }
theorem meets_new (t l : Addr) (xs ys : Array Value) :
    Meets (Builtin.«zip.__new__» ⟨[.type "zip", .ref t, .ref l], []⟩) (fun _ R s => s.heap.IsTuple t xs ∧ s.heap.IsList l ys ∧ R (.ok (.ret (.ref (hD s.heap t l).objs.size))) { s with heap := hE s.heap t l }) :=
  .of_wp fun prog w A R s h => by
    obtain ⟨hp, g, d, tk, os⟩ := s
    obtain ⟨h1, h2, q⟩ := h
    have hsub := sub_zip
    have f1 : Heap.IsTuple (Shared.heap ⟨hp, g, d, tk, os⟩) t xs := h1
    have f2 : Heap.IsList (Shared.heap ⟨hA hp t, g, d, tk, os⟩) l ys := Heap.IsList.push h2 _
    wp_walk using wpAny_pyIter_tuple f1, wpAny_pyIter_list f2
    exact ⟨_, rfl, q⟩
section
variable {prog : Program} {w : World} {A : Around} {E : Value → Shared → Prop} {s : Shared}
theorem call_zip {t l : Addr} {xs ys : Array Value} {Q : Value → Shared → Prop} (h1 : s.heap.IsTuple t xs) (h2 : s.heap.IsList l ys)
    (h : ∀ h', IsZip h' (s.heap.objs.size + 4) (s.heap.objs.size + 2) (s.heap.objs.size + 3) .none → IsPair h' (s.heap.objs.size + 2) (.ref s.heap.objs.size) (.ref (s.heap.objs.size + 1)) → IsPair h' (s.heap.objs.size + 3) .none .none →
      h'.IsTupleIter s.heap.objs.size t 0 → h'.IsListIter (s.heap.objs.size + 1) l 0 → (∀ c o, s.heap.get? c = some o → h'.get? c = some o) → Q (.ref (s.heap.objs.size + 4)) { s with heap := h' }) :
    wpAny (model prog w) A (call (.type "zip") [.ref t, .ref l]) Q E s := by
  refine callType_new F.called_zip (by decide) (F.typeCall_zip_2 _ _) (F.newCall_zip_2 _ _) (fun obj => F.args_object_init_3 obj _ _) F.entry_zip_new (meets_new t l xs ys) ⟨h1, h2, ?_⟩
  have n1 : (hA s.heap t).objs.size = s.heap.objs.size + 1 := Heap.size_push ..
  have n2 : (hB s.heap t l).objs.size = s.heap.objs.size + 2 := by rw [Heap.size_push, n1]
  have n3 : (hC s.heap t l).objs.size = s.heap.objs.size + 3 := by rw [Heap.size_push, n2]
  have n4 : (hD s.heap t l).objs.size = s.heap.objs.size + 4 := by rw [Heap.size_push, n3]
  have up : ∀ {a : Addr} {o : Obj}, (hC s.heap t l).get? a = some o → (hE s.heap t l).get? a = some o := fun e => Heap.get?_push_of_some _ (Heap.get?_push_of_some _ e)
  have g5 : (hE s.heap t l).get? (hD s.heap t l).objs.size = some _ := Heap.get?_push_size _ rfl
  have g4 : (hE s.heap t l).get? (hC s.heap t l).objs.size = some _ := Heap.get?_push_of_some _ (Heap.get?_push_size _ rfl)
  have g3 : (hE s.heap t l).get? (hB s.heap t l).objs.size = some _ := up (Heap.get?_push_size _ rfl)
  have g2 : (hE s.heap t l).get? (hA s.heap t).objs.size = some _ := up (Heap.get?_push_of_some _ (Heap.get?_push_size _ rfl))
  have g1 : (hE s.heap t l).get? s.heap.objs.size = some _ := up (Heap.get?_push_of_some _ (Heap.get?_push_of_some _ (Heap.get?_push_size _ rfl)))
  show _ ∧ _
  rw [n2, n3, n4] at g5
  rw [n1, n2] at g3
  rw [n3] at g4
  rw [n1] at g2
  rw [n4]
  exact ⟨⟨_, g5, rfl⟩, h _ g5 g3 g4 ⟨_, g1, rfl, rfl⟩ ⟨_, g2, rfl, rfl⟩ fun c o x => up (Heap.get?_push_of_some _ (Heap.get?_push_of_some _ (Heap.get?_push_of_some _ x)))⟩
end
end ZT
namespace L2
open PySem PySem.Spec PyProof.Rows
/-- zip(a tuple, a list) -/
def Itzt (K : PySem.W.Frag) (a b : Addr) : It :=
  ⟨fun i H => ∃ xs ys x y, SqT K H a xs ∧ SqL K H b ys ∧ xs[i]? = some x ∧ ys[i]? = some y,
   fun i H x H' => ∃ p y z, x = .ref p ∧ H p = none ∧ H' = upd H p (.tup [y, z]) ∧ (∀ xs, SqT K H a xs → xs[i]? = some y) ∧ ∀ ys, SqL K H b ys → ys[i]? = some z,
   fun i H => ∃ xs ys, SqT K H a xs ∧ SqL K H b ys ∧ (xs.length ≤ i ∨ ys.length ≤ i)⟩
theorem zipT_apart {h : Heap} {z TI TO i1 i2 l1 l2 : Addr} {f0 a b : Value} {k1 k2 : Nat} {m1 m2 : Addr} {xs ys : Array Value} (Z : ZipA z TI TO i1 i2) (n1 : l1 ≠ TO) (hz : IsZip h z TI TO f0) (hTO : IsPair h TO a b) (h1 : h.IsTupleIter i1 m1 k1) (h2 : h.IsListIter i2 m2 k2)
    (hl1 : h.IsTuple l1 xs) (hl2 : h.IsList l2 ys) : ZT.Ap z TI TO i1 i2 l1 l2 ∧ l1 ≠ i1 ∧ l2 ≠ i2 := by
  obtain ⟨o1, e1, c1, _⟩ := h1
  obtain ⟨o2, e2, c2, _⟩ := h2
  obtain ⟨p1, f1, d1, _⟩ := hl1
  obtain ⟨p2, f2, d2, _⟩ := hl2
  have key : ∀ {l q : Addr} {o o' : Obj}, h.get? l = some o → h.get? q = some o' → o.cls ≠ o'.cls → l ≠ q := fun {l q o o'} e e' c z => by
    subst z; rw [e] at e'; cases e'; exact c rfl
  exact ⟨⟨Z, key f1 hz (by rw [d1]; simp), n1, key f1 e2 (by rw [d1, c2]; simp), key f2 hz (by rw [d2]; simp), key f2 hTO (by rw [d2]; simp), key f2 e1 (by rw [d2, c1]; simp)⟩, key f1 e1 (by rw [d1, c1]; simp), key f2 e2 (by rw [d2, c2]; simp)⟩
theorem turn_zipT {P : Program} {w : World} {K : PySem.W.Frag} {elts : List Expr} {x1 : Nat} {pos : Pos} (a b z TI TO i1 i2 : Addr) (Z : ZipA z TI TO i1 i2) (na : a ≠ TO) :
    Turn P w K (.Tuple elts x1 pos) (Itzt K a b) [z, TI, TO, i1, i2] z (fun i h => IsZip h z TI TO .none ∧ IsPair h TI (.ref i1) (.ref i2) ∧ (∃ u v, IsPair h TO u v) ∧ h.IsTupleIter i1 a i ∧ h.IsListIter i2 b i) where
  mem := by simp
  obj := fun i h st c hc => by
    obtain ⟨hz, hTI, ⟨u, v, hTO⟩, ⟨o1, e1, _, d1⟩, o2, e2, _, d2⟩ := st
    simp only [List.mem_cons, List.not_mem_nil, or_false] at hc
    rcases hc with rfl | rfl | rfl | rfl | rfl
    · exact ⟨_, hz, fun v z => by cases z⟩
    · exact ⟨_, hTI, fun v z => by cases z⟩
    · exact ⟨_, hTO, fun v z => by cases z⟩
    · exact ⟨o1, e1, fun v z => by rw [d1] at z; cases z⟩
    · exact ⟨o2, e2, fun v z => by rw [d2] at z; cases z⟩
  keep := fun i h h' st k => ⟨k z (by simp) _ st.1, k TI (by simp) _ st.2.1, let ⟨u, v, e⟩ := st.2.2.1; ⟨u, v, k TO (by simp) _ e⟩, let ⟨o, e, r⟩ := st.2.2.2.1; ⟨o, k i1 (by simp) _ e, r⟩, st.2.2.2.2.at fun o e => k i2 (by simp) o e⟩
  item := by
    intro X hP hw hK hc i pins s σ H E I hf st hg
    subst hP hw hK
    obtain ⟨xs, ys, x, y, hq1, hq2, hx, hy⟩ := hg
    obtain ⟨its1, rv1, p1, hz1⟩ := I.tuple hq1
    obtain ⟨its2, rv2, p2, hz2⟩ := I.list hq2
    obtain ⟨u1, hu1, ru1⟩ := rv1.get hx
    obtain ⟨u2, hu2, ru2⟩ := rv2.get hy
    obtain ⟨hz, hTI, ⟨a', b', hTO⟩, hi1, hi2⟩ := st
    obtain ⟨hap, hn1, hn2⟩ := zipT_apart Z na hz hTO hi1 hi2 (show s.heap.IsTuple a its1.toArray from p1) p2.isList
    have hh : X.A.in1.handled = none := by simpa using I.ok.hd hc
    refine ZT.next_item hap (ZT.stm_tuple hh hn1 its1.toArray) (ZT.stm_list hh hn2 its2.toArray) hz hTI hTO ⟨hi1, p1⟩ ⟨hi2, p2.isList⟩ (x := u1) (y := u2) (by simpa using hu1) (by simpa using hu2) fun h1 az aTO ai1 ai2 aT ak => ?_
    refine ⟨_, rfl, wpAny_letOwnedTupleGo_zip az fun h2 bz bs => ?_⟩
    have bs' : Heap.SameBut z h1 h2 := bs
    have hE : z < s.heap.objs.size := Heap.lt_size hz
    have up : ∀ c o, c ≠ z → h1.get? c = some o → h2.get? c = some o := fun c o hc e => (bs'.2 c hc).trans e
    have hT2 : h2.get? s.heap.objs.size = some { cls := .type "tuple", data := .seq #[u1, u2] } := up _ _ (Nat.ne_of_gt hE) aT
    refine ⟨.ref s.heap.objs.size, upd H s.heap.objs.size (.tup [x, y]), ?_, rfl, ⟨_, x, y, rfl, I.hok.fresh (Nat.le_refl _), rfl, fun zs hs => by rw [I.tuple_inj hs hq1]; exact hx, fun zs hs => by rw [I.list_inj hs hq2]; exact hy⟩, ⟨bz, ?_, ⟨u1, u2, up _ _ Z.TOz aTO⟩, ?_, ?_⟩, fun c hc => ?_⟩
    · refine I.turnedLaid (ch := [z, TI, TO, i1, i2]) (t' := s.toks) hf (fun c o hb q => ?_) (Nat.le_refl _) ⟨by show 2 ≤ sizeLine; rw [sizeLine_eq]; decide, [u1, u2], .cons ru1 (.cons ru2 .nil), ⟨_, hT2, rfl, ⟨_, rfl⟩, rfl⟩⟩
      have n1 : c ≠ z := fun z => hb (by simp [z])
      have n2 : c ≠ TO := fun z => hb (by simp [z])
      have n3 : c ≠ i1 := fun z => hb (by simp [z])
      have n4 : c ≠ i2 := fun z => hb (by simp [z])
      exact up c o n1 (ak c o n1 n2 n3 n4 q)
    · exact up _ _ Z.TIz (ak TI _ Z.TIz Z.TITO Z.TIi1 Z.TIi2 hTI)
    · obtain ⟨o, e, r⟩ := ai1.1
      exact ⟨o, up _ _ Z.i1z e, r⟩
    · obtain ⟨o, e, r⟩ := ai2.1
      exact ⟨o, up _ _ Z.i2z e, r⟩
    · obtain ⟨oc, ec⟩ : ∃ o, s.heap.get? c = some o := by
        obtain ⟨o1, e1, _, d1⟩ := hi1
        obtain ⟨o2, e2, _, d2⟩ := hi2
        have hc' := hc
        simp only [List.mem_cons, List.not_mem_nil, or_false] at hc'
        rcases hc' with rfl | rfl | rfl | rfl | rfl
        · exact ⟨_, hz⟩
        · exact ⟨_, hTI⟩
        · exact ⟨_, hTO⟩
        · exact ⟨o1, e1⟩
        · exact ⟨o2, e2⟩
      rw [upd_ne (Nat.ne_of_lt (Heap.lt_size ec))]
      exact (hf c hc).1
  done := by
    intro X hP hw hK hc i pins s σ H E I hf st hg
    subst hP hw hK
    obtain ⟨xs, ys, hq1, hq2, hx⟩ := hg
    obtain ⟨its1, rv1, p1, hz1⟩ := I.tuple hq1
    obtain ⟨its2, rv2, p2, hz2⟩ := I.list hq2
    have l1 := rv1.length
    have l2 := rv2.length
    obtain ⟨hz, hTI, ⟨a', b', hTO⟩, hi1, hi2⟩ := st
    obtain ⟨hap, hn1, hn2⟩ := zipT_apart Z na hz hTO hi1 hi2 (show s.heap.IsTuple a its1.toArray from p1) p2.isList
    have hh : X.A.in1.handled = none := by simpa using I.ok.hd hc
    refine ZT.next_end hap (ZT.stm_tuple hh hn1 its1.toArray) (ZT.stm_list hh hn2 its2.toArray) hz hTI hTO ⟨hi1, p1⟩ ⟨hi2, p2.isList⟩ (hx.imp (fun q => by simp; lia) fun q => by simp; lia) fun h' eb => ⟨rfl, I.turnedL (ch := [z, TI, TO, i1, i2]) (t' := s.toks) hf fun c o hb q => ?_⟩
    exact eb c o (fun z => hb (by simp [z])) (fun z => hb (by simp [z])) (fun z => hb (by simp [z])) (fun z => hb (by simp [z])) q
  self := fun _ _ _ _ _ st h => wpAny_pyIter_zip st.1 h
def iZipT (K : PySem.W.Frag) (ta : TA) : TI := fun σ H R => ta σ H fun vs H1 => ∃ a b, vs = [.ref a, .ref b] ∧ (∃ xs, SqT K H1 a xs) ∧ (∃ ys, SqL K H1 b ys) ∧ R (Itzt K a b) H1
section
variable {X : Cx}
theorem pi_zipT {a b : Expr} {ta : TA} {p pos pt : Pos} {elts : List Expr} {x1 : Nat} (hg : Gl X "zip") (hm : X.mg "zip" = none) (ha : PA X [a, b] ta) (hs : starEach [a, b] X.env = [(false, eval a X.env), (false, eval b X.env)] := by rfl) (hs2 : starEach [b] X.env = [(false, eval b X.env)] := by rfl) :
    PI X (.Tuple elts x1 pt) (.Call (.Name "zip" p) [a, b] [] pos) (iZipT X.K ta) := by
  intro pins s σ H R I h
  refine Call_ (ld_blt I hg hm bt_zip (PyProof.Rows.callWith_type1 (thn (ha pos pins s σ H _ I h) ?_) (by rw [hs, hs2]) (by rw [hs2]; rfl)))
  rintro us s1 ⟨vs, H1, I1, r1, q1⟩
  obtain ⟨a, b, e, ⟨xs, hq1⟩, ⟨ys, hq2⟩, q⟩ := q1
  subst e
  obtain ⟨u, w', rfl, rx, ry⟩ := vals2 r1
  cases rx
  cases ry
  obtain ⟨its1, rv1, p1, hz1⟩ := I1.tuple hq1
  obtain ⟨its2, rv2, p2, hz2⟩ := I1.list hq2
  refine ZT.call_zip p1 p2.isList fun h' hZ hTI hTO hi1 hi2 hk => ?_
  refine wpAny_pyIter_zip hZ ?_
  have I2 : Inv X pins σ H1 { s1 with heap := h' } := I1.kept (t' := s1.toks) hk
  have hal : a < s1.heap.objs.size := let ⟨_, e, _⟩ := p1; Heap.lt_size e
  refine ⟨s1.heap.objs.size + 4, [s1.heap.objs.size + 4, s1.heap.objs.size + 2, s1.heap.objs.size + 3, s1.heap.objs.size, s1.heap.objs.size + 1], _, _, H1, rfl, I2,
    turn_zipT a b _ _ _ _ _ ⟨?_, ?_, ?_, ?_, ?_, ?_, ?_, ?_, ?_, ?_⟩ (Nat.ne_of_lt (Nat.lt_of_lt_of_le hal (Nat.le_add_right _ 3))), ⟨hZ, hTI, ⟨_, _, hTO⟩, hi1, hi2⟩, fun c hc => ?_, q⟩
  all_goals first
    | (show (_ : Nat) ≠ _; lia)
    | skip
  have hb' : s1.heap.objs.size ≤ c := by
    simp only [List.mem_cons, List.not_mem_nil, or_false] at hc
    rcases hc with rfl | rfl | rfl | rfl | rfl
    all_goals (show (_ : Nat) ≤ _; lia)
  exact I1.fpOk hb' (I1.hok.fresh hb')
end
theorem lc_zipT {K : PySem.W.Frag} {a b : Addr} {xs zs : List V} {g : TG} {tt : TT} {te : TE} {σ : St} {H : Hp} {D : Addr} {Q : Hp → Prop} (hlen : xs.length = zs.length) (P : Nat → List V → St → Hp → Prop) (h0 : P 0 [] σ (upd H D (.lst []))) (hl : ∀ k ys σ' H', k ≤ xs.length → P k ys σ' H' → SqT K H' a xs ∧ SqL K H' b zs)
    (hs : ∀ k x z p ys σ' H', xs[k]? = some x → zs[k]? = some z → P k ys σ' H' → H' p = none → g (.ref p) σ' (upd H' p (.tup [x, z])) (fun σ2 H2 => tt σ2 H2 fun b H3 =>
      if b = true then te σ2 H3 fun y H4 => H4 D = some (.lst ys) ∧ ys.length < sizeLine ∧ Beh xs.length k P (ys ++ [y]) σ2 (upd H4 D (.lst (ys ++ [y]))) else Beh xs.length k P ys σ2 H3))
    (hd : ∀ ys σ' H', P xs.length ys σ' H' → Q H') :
    ∃ W : Nat → Nat → List V → St → Hp → Prop, (∃ m, W 0 m [] σ (upd H D (.lst []))) ∧ lcTurn (Itzt K a b) D g tt te Q W := by
  refine lc_gen (n := xs.length) P h0 (fun k ys σ' H' hk hP => ?_) (fun ys σ' H' hP => ?_)
  · obtain ⟨q1, q2⟩ := hl k ys σ' H' (Nat.le_of_lt hk) hP
    have hk2 : k < zs.length := by lia
    refine ⟨⟨xs, zs, xs[k], zs[k], q1, q2, by simp [hk], by simp [hk2]⟩, fun x H1 y => ?_⟩
    obtain ⟨pp, u, v, rfl, hn, rfl, y1, y2⟩ := y
    exact hs k u v pp ys σ' H' (y1 xs q1) (y2 zs q2) hP hn
  · obtain ⟨q1, q2⟩ := hl _ ys σ' H' (Nat.le_refl _) hP
    exact ⟨⟨xs, zs, q1, q2, .inl (Nat.le_refl _)⟩, hd ys σ' H' hP⟩
end L2

set_option Elab.async false
set_option linter.all false
set_option maxRecDepth 100000
set_option maxHeartbeats 4000000
/-! d.setdefault(y, x); sorted(a list of ints). Own work. -/
namespace SDf
open PySem PyProof.Rows
section
variable {prog : Program} {w : World} {κ : Type} [DecidableEq κ] {knd : PySem.KeyKind prog w κ} {A : Around} {E : Value → Shared → Prop} {s : Shared}
end
end SDf
namespace L2
open PySem PySem.Spec PyProof.Rows
section
variable {X : Cx} {o e f : Expr} {apos cpos : Pos} {td ty tx : TE}
end
end L2

set_option Elab.async false
set_option linter.all false
set_option maxRecDepth 100000
set_option maxHeartbeats 4000000
/-! sorted(a list of ints); lists and tuples that are alike, within one another. Own work. -/
namespace L2
open PySem PySem.Spec PyProof.Rows SI
section
variable {X : Cx}
end
/-! ### alike, within one another -/
def Alk (K : PySem.W.Frag) (H : Hp) : Nat → V → V → Prop
  | 0, x, y => x = y ∧ (flatV x = true ∨ ∃ a, x = .ref a)
  | d + 1, x, y => (x = y ∧ (flatV x = true ∨ ∃ a, x = .ref a)) ∨ ∃ a c xs ys, x = .ref a ∧ y = .ref c ∧ ((SqT K H a xs ∧ SqT K H c ys) ∨ (SqL K H a xs ∧ SqL K H c ys)) ∧ Paired (Alk K H d) xs ys
theorem eqV_self {x : V} (h : flatV x = true) : eqV x x = true := by
  cases x with
  | non => rfl
  | bl b => cases b <;> rfl
  | int i => show (i == i) = true; simp
  | str z => show (z == z) = true; simp
  | byt b => exact absurd (show false = true from h) Bool.false_ne_true
  | flt b => exact absurd (show false = true from h) Bool.false_ne_true
  | ref a => exact absurd (show false = true from h) Bool.false_ne_true
  | ty n => exact absurd (show false = true from h) Bool.false_ne_true
theorem all_true (n : Nat) : (List.range n).all (fun _ => true) = true := by simp
theorem paired_get {α β : Type} {R : α → β → Prop} {xs : List α} {ys : List β} (h : Paired R xs ys) : ∀ {j : Nat} {x : α} {y : β}, xs[j]? = some x → ys[j]? = some y → R x y := by
  induction h with
  | nil => exact fun e => nomatch e
  | cons h t ih =>
    intro j x y e1 e2
    cases j with
    | zero => cases e1; cases e2; exact h
    | succ j => exact ih e1 e2
section
variable {X : Cx} {pins : List (Addr × Obj)} {σ : St} {H : Hp} {s : Shared}
theorem same_eqAt {A : Around} {x y : V} {u v : Value} (h : x = y ∧ (flatV x = true ∨ ∃ a, x = .ref a)) (ru : RelV x u) (rv : RelV y v) : SeqAt.EqAt A s u v true := by
  obtain ⟨rfl, h | ⟨a, rfl⟩⟩ := h
  · have := eqAt_V (A := A) (s := s) ru rv h h
    rw [eqV_self h] at this
    exact this
  · cases ru
    cases rv
    exact SeqAt.EqAt.same _
theorem alk_eqAt (I : Inv X pins σ H s) : ∀ (d : Nat) {A : Around} {x y : V} {u v : Value}, Alk X.K H d x y → RelV x u → RelV y v → A.units + d < cLine → SeqAt.EqAt A s u v true
  | 0, A, x, y, u, v, h, ru, rv, _ => same_eqAt h ru rv
  | d + 1, A, x, y, u, v, h, ru, rv, hu => by
    rcases h with h | ⟨a, c, xs, ys, rfl, rfl, hs, hp⟩
    · exact same_eqAt h ru rv
    · cases ru
      cases rv
      by_cases hac : a = c
      · subst hac; exact SeqAt.EqAt.same _
      · refine SeqAt.EqAt.of_refs hac ?_
        have hl := Paired.length hp
        rcases hs with ⟨h1, h2⟩ | ⟨h1, h2⟩
        · obtain ⟨i1, r1, p1, z1⟩ := I.tuple h1
          obtain ⟨i2, r2, p2, z2⟩ := I.tuple h2
          have l1 := r1.length
          have l2 := r2.length
          have := SeqAt.RcAt.tuples (A := A) (e := fun _ => true) (show s.heap.IsTuple a i1.toArray from p1) (show s.heap.IsTuple c i2.toArray from p2) (by lia) (fun j j1 j2 => by
            simp only [List.size_toArray] at j1 j2
            have k1 : j < xs.length := by lia
            have k2 : j < ys.length := by lia
            obtain ⟨u1, e1, s1⟩ := r1.get (List.getElem?_eq_getElem k1)
            obtain ⟨u2, e2, s2⟩ := r2.get (List.getElem?_eq_getElem k2)
            rw [List.getElem?_eq_getElem j1] at e1
            rw [List.getElem?_eq_getElem j2] at e2
            cases e1
            cases e2
            exact alk_eqAt I d (paired_get hp (List.getElem?_eq_getElem k1) (List.getElem?_eq_getElem k2)) s1 s2 (by show A.units + 1 + d < _; lia))
          rw [all_true, List.size_toArray, List.size_toArray, ← l1, ← l2, hl] at this
          simpa using this
        · obtain ⟨i1, r1, p1, z1⟩ := I.list h1
          obtain ⟨i2, r2, p2, z2⟩ := I.list h2
          have l1 := r1.length
          have l2 := r2.length
          have := SeqAt.RcAt.lists (A := A) (e := fun _ => true) p1.isList p2.isList (by simp; lia) (by lia) (fun j j1 j2 => by
            simp only [List.size_toArray] at j1 j2
            have k1 : j < xs.length := by lia
            have k2 : j < ys.length := by lia
            obtain ⟨u1, e1, s1⟩ := r1.get (List.getElem?_eq_getElem k1)
            obtain ⟨u2, e2, s2⟩ := r2.get (List.getElem?_eq_getElem k2)
            rw [List.getElem?_eq_getElem j1] at e1
            rw [List.getElem?_eq_getElem j2] at e2
            cases e1
            cases e2
            exact alk_eqAt I d (paired_get hp (List.getElem?_eq_getElem k1) (List.getElem?_eq_getElem k2)) s1 s2 (by show A.units + 1 + d < _; lia))
          rw [all_true] at this
          exact this
end
section
variable {X : Cx}
/-- two lists or two tuples that are alike, compared -/
def rAlk (K : PySem.W.Frag) (d : Nat) (b : Bool) : R2 := fun x y H Q => ∃ a c xs ys, x = .ref a ∧ y = .ref c ∧ ((SqT K H a xs ∧ SqT K H c ys) ∨ (SqL K H a xs ∧ SqL K H c ys)) ∧ Paired (Alk K H d) xs ys ∧ Q (.bl b) H
theorem alk_items {pins : List (Addr × Obj)} {σ : St} {H : Hp} {s : Shared} (I : Inv X pins σ H s) {d : Nat} {xs ys : List V} {i1 i2 : List Value} (hu : X.A.units + 1 + d < cLine) (hp : Paired (Alk X.K H d) xs ys) (r1 : Vals xs i1) (r2 : Vals ys i2) :
    ∀ j (j1 : j < i1.toArray.size) (j2 : j < i2.toArray.size), SeqAt.EqAt X.A.in1 s i1.toArray[j] i2.toArray[j] true := fun j j1 j2 => by
  have l1 := r1.length
  have l2 := r2.length
  simp only [List.size_toArray] at j1 j2
  have k1 : j < xs.length := by lia
  have k2 : j < ys.length := by lia
  obtain ⟨u1, e1, s1⟩ := r1.get (List.getElem?_eq_getElem k1)
  obtain ⟨u2, e2, s2⟩ := r2.get (List.getElem?_eq_getElem k2)
  rw [List.getElem?_eq_getElem j1] at e1
  rw [List.getElem?_eq_getElem j2] at e2
  cases e1
  cases e2
  exact alk_eqAt I d (paired_get hp (List.getElem?_eq_getElem k1) (List.getElem?_eq_getElem k2)) s1 s2 (by show X.A.units + 1 + d < _; lia)
theorem op_eqA {d : Nat} (hu : X.A.units + 1 + d < cLine) : OpR X (compareOp .Eq) (rAlk X.K d true) := by
  intro pins s σ H x y v u Q I rx ry h
  obtain ⟨a, c, xs, ys, rfl, rfl, hs, hp, q⟩ := h
  cases rx
  cases ry
  have hl := Paired.length hp
  rcases hs with ⟨h1, h2⟩ | ⟨h1, h2⟩
  · obtain ⟨i1, r1, p1, z1⟩ := I.tuple h1
    obtain ⟨i2, r2, p2, z2⟩ := I.tuple h2
    have l1 := r1.length
    have l2 := r2.length
    refine SeqAt.RcAt.tuples (e := fun _ => true) (show s.heap.IsTuple a i1.toArray from p1) (show s.heap.IsTuple c i2.toArray from p2) (by lia) (alk_items I hu hp r1 r2) X.prog X.w X.xe _ ⟨.bl true, H, I, ?_, q⟩
    show Value.bool _ = Value.bool _
    rw [all_true, List.size_toArray, List.size_toArray, ← l1, ← l2, hl]; simp
  · obtain ⟨i1, r1, p1, z1⟩ := I.list h1
    obtain ⟨i2, r2, p2, z2⟩ := I.list h2
    have l1 := r1.length
    have l2 := r2.length
    refine SeqAt.RcAt.lists (e := fun _ => true) p1.isList p2.isList (by simp; lia) (by lia) (alk_items I hu hp r1 r2) X.prog X.w X.xe _ ⟨.bl true, H, I, ?_, q⟩
    show Value.bool _ = Value.bool _
    rw [all_true]
theorem op_neA {d : Nat} (hu : X.A.units + 1 + d < cLine) : OpR X (compareOp .NotEq) (rAlk X.K d false) := by
  intro pins s σ H x y v u Q I rx ry h
  obtain ⟨a, c, xs, ys, rfl, rfl, hs, hp, q⟩ := h
  cases rx
  cases ry
  have hl := Paired.length hp
  rcases hs with ⟨h1, h2⟩ | ⟨h1, h2⟩
  · obtain ⟨i1, r1, p1, z1⟩ := I.tuple h1
    obtain ⟨i2, r2, p2, z2⟩ := I.tuple h2
    have l1 := r1.length
    have l2 := r2.length
    refine SeqAt.RcNeAt.tuples (e := fun _ => true) (show s.heap.IsTuple a i1.toArray from p1) (show s.heap.IsTuple c i2.toArray from p2) (by lia) (alk_items I hu hp r1 r2) X.prog X.w X.xe _ ⟨.bl false, H, I, ?_, q⟩
    show Value.bool _ = Value.bool _
    rw [all_true, List.size_toArray, List.size_toArray, ← l1, ← l2, hl]; simp
  · obtain ⟨i1, r1, p1, z1⟩ := I.list h1
    obtain ⟨i2, r2, p2, z2⟩ := I.list h2
    have l1 := r1.length
    have l2 := r2.length
    refine SeqAt.RcNeAt.lists (e := fun _ => true) p1.isList p2.isList (by simp; lia) (by lia) (alk_items I hu hp r1 r2) X.prog X.w X.xe _ ⟨.bl false, H, I, ?_, q⟩
    show Value.bool _ = Value.bool _
    rw [all_true]; rfl
end
end L2

set_option Elab.async false
set_option linter.all false
set_option maxRecDepth 100000
set_option maxHeartbeats 4000000
/-! reversed(a list): walked, and as a list; cuts of a list by steps. Own work. -/
namespace RV
open PySem PyProof.Rows
theorem nolen : typeLookup (.type "list_reverseiterator") "__len__" = pure none := by rw [typeLookup_type, builtinLookup_eq_fast]; kernel_rfl
theorem hint : typeLookup (.type "list_reverseiterator") "__length_hint__" = pure (some (.builtin "list_reverseiterator.__length_hint__")) := by
  rw [typeLookup_type, builtinLookup_eq_fast]; kernel_rfl
section
variable {prog : Program} {w : World} {A : Around} {E : Value → Shared → Prop} {s : Shared} {J : Addr} {fp wr : List Addr} {G : Array GenState → Array GenState → Prop} {n : Nat} {P : Nat → Value → Prop} {St : Nat → Shared → Prop}
theorem grow {R : Result → Shared → Prop} (W : WalksS prog w A.in1 J fp wr G n P St) (hT : ∀ i t, St i t → t.TypeIs (.ref J) "list_reverseiterator") (D : Addr) (res : Value) (c : Nat) (st0 : St 0 s) (hDf : D ∉ fp) (hJ : J ∈ fp)
    (hD : s.heap.get? D = some { cls := .type "list", data := .seq #[] c }) (hn : n ≤ sizeLine)
    (hR : ∀ t xs k, Moved (D :: wr) G s t → t.heap.get? D = some { cls := .type "list", dict := none, data := .seq xs k, slots := #[] } → ItemsOf P xs n → R (.ok (.ret res)) t) :
    wpAny (model prog w) A.in1 (Builtin.List.listExtendWith (.ref D) (.ref J) res) (fun fin t => match fin with | .done f => R (.ok f) t | .again k => k.quiet = true ∧ codeAny (model prog w) A k R t) (fun e t => R (.error e) t) s := by
  have hne : D ≠ J := fun e => hDf (e ▸ hJ)
  have e1 : Builtin.List.listSameRef (.ref D) (.ref J) = false := by simp [Builtin.List.listSameRef, hne]
  unfold Builtin.List.listExtendWith
  refine wpAny_bind (wpAny_typeOf (hT 0 _ st0) ?_)
  rw [if_neg (by rw [e1]; decide)]
  refine wpAny_bind (W.self 0 _ _ _ st0 ?_)
  refine wpAny_bind (wpAny_holding ?_)
  unfold Builtin.List.listLengthHint
  refine wpAny_bind (wpAny_specialOf (hT 0 _ st0) nolen ?_)
  show wpAny _ A.in1 (specialOf (Value.ref J) (Str.ofString "__length_hint__") >>= _) _ _ _
  refine wpAny_bind (wpAny_specialOf (hT 0 _ st0) hint ?_)
  generalize hid : ("list_reverseiterator.__length_hint__" : String) = id0
  wp_delta
  rw [show splitId id0 = some ("list_reverseiterator", "__length_hint__") from by subst hid; decide +kernel]
  subst hid
  refine wpAny_bind (wpAny_isInstance (b := true) (hT 0 _ st0) (by rw [isSubtype_type]; kernel_rfl) ?_)
  refine wpAny_pure ?_
  rw [if_neg (by decide)]
  exact wpAny_pure ⟨plainId_quiet F.plain_extend_loop _, codeAny_extend_loopS W hn _ hDf _ n 0 _ _ _ rfl (Nat.zero_le _) st0 hD (ItemsOf.nil P) fun t xs k hm hD' hx => hR t xs k hm hD' hx⟩
theorem init {R : Result → Shared → Prop} (W : WalksS prog w A.in1 J fp wr G n P St) (hT : ∀ i t, St i t → t.TypeIs (.ref J) "list_reverseiterator") (D : Addr) (st0 : St 0 s) (hDf : D ∉ fp) (hJ : J ∈ fp)
    (hD : s.heap.get? D = some { cls := .type "list", data := .seq #[] }) (hn : n ≤ sizeLine)
    (hR : ∀ t xs k, Moved (D :: wr) G s t → t.heap.get? D = some { cls := .type "list", dict := none, data := .seq xs k, slots := #[] } → ItemsOf P xs n → R (.ok (.ret .none)) t) :
    wpAny (model prog w) A.in1 (Builtin.«list.__init__» ⟨[.ref D, .ref J], []⟩) (fun fin t => match fin with | .done f => R (.ok f) t | .again k => k.quiet = true ∧ codeAny (model prog w) A k R t) (fun e t => R (.error e) t) s := by
  show wpAny _ A.in1 (do let was ← Builtin.List.listItems (.ref D); Builtin.List.listUpdate (.ref D) (fun _ => #[]); letGo was.toList.reverse; Builtin.List.listExtendWith (.ref D) (.ref J) .none) _ _ s
  refine wpAny_bind ?_
  unfold Builtin.List.listItems
  refine wpAny_bind (wpAny_seqItems hD rfl (wpAny_pure ?_))
  show wpAny _ A.in1 (updateSeq D (fun _ => #[]) >>= fun _ => letGo (#[] : Array Value).toList.reverse >>= fun _ => Builtin.List.listExtendWith (.ref D) (.ref J) .none) _ _ s
  refine wpAny_bind (wpAny_updateSeq hD rfl ?_)
  have hD2 := Heap.get?_update_self (Obj.mapSeq (fun _ => (#[] : Array Value))) hD rfl
  have oth : ∀ b o, b ≠ D → s.heap.get? b = some o → (s.heap.update D (Obj.mapSeq (fun _ => (#[] : Array Value)))).get? b = some o :=
    fun b o hb q => (Heap.get?_update_other _ _ (Ne.symm hb)).trans q
  refine wpAny_bind (wpAny_letGo ?_)
  refine grow W hT D .none _ (W.frame 0 s _ s.toks st0 (Nat.le_refl _) fun b hb o q => oth b o (fun z => hDf (z ▸ hb)) q) hDf hJ hD2 hn fun t xs k hm hD' hx => ?_
  exact hR t xs k (Moved.trans W.gtrans ((Moved.refl W.grefl).then_heap (Nat.le_refl _) fun b o hb q => oth b o (fun z => hb (z ▸ List.mem_cons_self)) q) hm) hD' hx
/-- list(a walk back over a list) -/
theorem call_list_rev {l : Addr} {items : Array Value} {Q : Value → Shared → Prop} (hh : A.handled = none) (hne : l ≠ J) (hJ : s.heap.IsRevIter J l ((items.size : Int) - 1)) (hl : s.heap.IsList l items) (hn : items.size ≤ sizeLine)
    (hQ : ∀ h' tk c, (∀ b o, b ≠ J → s.heap.get? b = some o → h'.get? b = some o) → h'.get? s.heap.objs.size = some { cls := .type "list", dict := none, data := .seq items.toList.reverse.toArray c, slots := #[] } → Q (.ref s.heap.objs.size) { s with heap := h', toks := tk }) :
    wpAny (model prog w) A (call (.type "list") [.ref J]) Q E s := by
  have W := (Walks.listRev (prog := prog) (w := w) (A := A.in1.in1) (by simp [hh]) J l hne items).toS
  have hJlt : J < s.heap.objs.size := by obtain ⟨o, ho, _⟩ := hJ; exact Heap.lt_size ho
  have hllt : l < s.heap.objs.size := by obtain ⟨o, ho, _⟩ := hl; exact Heap.lt_size ho
  have hDf : s.heap.objs.size ∉ [J, l] := fun z => by
    simp only [List.mem_cons, List.not_mem_nil, or_false] at z
    rcases z with z | z
    · rw [← z] at hJlt; exact Nat.lt_irrefl _ hJlt
    · rw [← z] at hllt; exact Nat.lt_irrefl _ hllt
  refine callType_codes (Q₁ := fun obj t => obj = .ref s.heap.objs.size ∧ t = { s with heap := s.heap.push { cls := .type "list", data := .seq #[] } }) F.called_list (F.typeCall_list_1 _) F.entry_list_init (code_list_new _ ⟨rfl, rfl⟩) fun obj t ht => ?_
  obtain ⟨rfl, rfl⟩ := ht
  have hD : (s.heap.push { cls := .type "list", data := .seq #[] }).get? s.heap.objs.size = some { cls := .type "list", data := .seq #[] } := Heap.get?_push_size _ rfl
  refine ⟨⟨_, hD, rfl⟩, F.args_list_init_2 _ _, init (A := A.in1) W (fun _ _ x => x.2.1.typeIs) _ ⟨Nat.zero_le _, ?_, hl.push _⟩ hDf (by simp) hD hn fun t xs k hm hD' hx => ?_⟩
  · have e : (items.size : Int) - 1 - ((0 : Nat) : Int) = (items.size : Int) - 1 := by lia
    rw [e]
    exact hJ.at fun o q => Heap.get?_push_of_some _ q
  · have et := Moved.eq_with hm
    have ex : xs = items.toList.reverse.toArray := by
      obtain ⟨h1, h2⟩ := hx
      apply Array.ext'
      apply List.ext_getElem?
      intro i
      by_cases hi : i < items.size
      · have q1 : xs[i]? = some (xs[i]'(by lia)) := Array.getElem?_eq_getElem (by lia)
        have q2 := h2 i _ q1
        rw [Array.getElem?_toList, q1, ← q2]
        have : items.toList.reverse[i]? = items.toList[items.toList.length - 1 - i]? := List.getElem?_reverse (by simpa using hi)
        rw [List.toList_toArray, this, Array.getElem?_toList, Array.length_toList]
      · rw [List.getElem?_eq_none (by rw [Array.length_toList]; lia), List.getElem?_eq_none (by simp; lia)]
    subst ex
    refine ⟨rfl, ?_⟩
    rw [et]
    refine hQ t.heap t.toks k (fun b o hb q => hm.heap b o (fun z => ?_) (Heap.get?_push_of_some _ q)) hD'
    simp only [List.mem_cons, List.not_mem_nil, or_false] at z
    rcases z with z | z
    · exact absurd (Heap.lt_size q) (by rw [z]; exact Nat.lt_irrefl _)
    · exact hb z
end
end RV
namespace L2
open PySem PySem.Spec PyProof.Rows
theorem bt_reversed : bootBuiltins "reversed" = some (.type "reversed") := by decide +kernel
def tLRev (K : PySem.W.Frag) (te : TE) : TE := fun σ H Q => te σ H fun x H1 => ∃ a xs, x = .ref a ∧ SqL K H1 a xs ∧ ∀ p, H1 p = none → Q (.ref p) (upd H1 p (.lst xs.reverse))
section
variable {X : Cx} {e : Expr} {te : TE} {p1 p2 p3 p4 : Pos}
/-- list(reversed(e)), e a list -/
theorem pe_lrev (hc : X.calm = true) (gl : Gl X "list") (ml : X.mg "list" = none) (gr : Gl X "reversed") (mr : X.mg "reversed" = none) (he : PE X e te)
    (hs : starEach [e] X.env = [(false, eval e X.env)] := by rfl) (hs2 : starEach [Expr.Call (.Name "reversed" p2) [e] [] p3] X.env = [(false, eval (.Call (.Name "reversed" p2) [e] [] p3) X.env)] := by rfl) :
    PE X (.Call (.Name "list" p1) [.Call (.Name "reversed" p2) [e] [] p3] [] p4) (tLRev X.K te) := by
  intro pins s σ H Q I h
  refine wpAny_Call_Name_kw (ld_blt I gl ml bt_list ?_)
  refine PyProof.Rows.callWith_type1 ?_ hs2 rfl
  rw [hs2]
  show wpAny _ _ (spliced ((false, eval (.Call (.Name "reversed" p2) [e] [] p3) X.env) :: [])) _ _ s
  refine Calls.spliced_cons ?_
  refine wpAny_Call_Name_kw (ld_blt I gr mr bt_reversed ?_)
  refine PyProof.Rows.callWith_type1 ?_ hs rfl
  rw [hs]
  show wpAny _ _ (spliced ((false, eval e X.env) :: [])) _ _ s
  refine Calls.spliced_cons (thn (he pins s σ H _ I h) ?_)
  rintro u s1 ⟨x, H1, I1, r1, q1⟩
  refine Calls.spliced_nil ?_
  obtain ⟨a, xs, rfl, hq, q⟩ := q1
  cases r1
  obtain ⟨its, rv, pl, hz⟩ := I1.list hq
  have hlen := rv.length
  have ha : a < s1.heap.objs.size := by obtain ⟨o, ho, _⟩ := pl.isList; exact Heap.lt_size ho
  refine call_reversed_list pl.isList (Calls.spliced_nil ?_)
  refine RV.call_list_rev (J := s1.heap.objs.size) (l := a) (items := its.toArray) (I.ok.hd hc) (Nat.ne_of_lt ha) ⟨_, Heap.get?_push_size _ rfl, rfl, rfl⟩ (pl.isList.push _) (by rw [List.size_toArray]; lia) fun h' tk c hk hD => ?_
  have hle : s1.heap.objs.size ≤ s1.heap.objs.size + 1 := Nat.le_succ _
  have hD' : h'.get? (s1.heap.objs.size + 1) = some { cls := .type "list", dict := none, data := .seq its.reverse.toArray c, slots := #[] } := by
    rw [← hD]; congr 1; exact (Heap.size_push ..).symm
  refine ⟨.ref (s1.heap.objs.size + 1), upd H1 (s1.heap.objs.size + 1) (.lst xs.reverse), ?_, ?_, q _ (I1.hok.fresh hle)⟩
  · exact I1.laid (t' := tk) (fun b o hb => hk b o (Nat.ne_of_lt (Heap.lt_size hb)) (Heap.get?_push_of_some _ hb)) hle (show ObjOk X.prog X.w _ h' _ (.lst xs.reverse) from ⟨by rw [List.length_reverse]; exact hz, its.reverse, c, rv.reverse, hD'⟩)
  · show Value.ref _ = Value.ref _
    rw [Heap.size_push]
end
/-! ### a walk back over a list -/
def Itv (K : PySem.W.Frag) (a : Addr) (n : Nat) : It :=
  ⟨fun i H => i < n ∧ ∃ xs, SqL K H a xs ∧ xs.length = n, fun i H x H' => H' = H ∧ ∀ xs, SqL K H a xs → xs[n - 1 - i]? = some x, fun i H => i = n ∧ ∃ xs, SqL K H a xs ∧ xs.length = n⟩
theorem turn_rev {P : Program} {w : World} {K : PySem.W.Frag} {tg : Expr} (a it : Addr) (n : Nat) (hne : a ≠ it) :
    Turn P w K tg (Itv K a n) [it] it (fun i h => i ≤ n ∧ h.IsRevIter it a ((n : Int) - 1 - (i : Int))) where
  mem := by simp
  obj := fun i h st b hb => by
    obtain ⟨_, o, ho, c, d⟩ := st
    rw [List.mem_singleton.mp hb]
    exact ⟨o, ho, fun v z => by rw [d] at z; cases z⟩
  keep := fun i h h' st k => ⟨st.1, st.2.at fun o ho => k it (by simp) o ho⟩
  item := by
    intro X hP hw hK hc i pins s σ H E I hf st hg
    subst hP hw hK
    obtain ⟨hi, xs, hq, hx⟩ := hg
    obtain ⟨its, rv, p, hz⟩ := I.list hq
    have hlen := rv.length
    obtain ⟨u, hu, ru⟩ := rv.get (i := n - 1 - i) (x := xs[n - 1 - i]'(by lia)) (List.getElem?_eq_getElem (by lia))
    have hit := st.2
    have e : (n : Int) - 1 - (i : Int) = ((n - 1 - i : Nat) : Int) := by lia
    rw [e] at hit
    refine wpAny_pyNext_rev_item hit p.isList (x := u) (by simpa using hu) fun h1 hit1 hs1 => ?_
    obtain ⟨o1, ho1, hc1, hd1⟩ := id hit1
    refine ⟨_, rfl, go_of ho1 hc1 hd1 (by decide) ⟨xs[n - 1 - i]'(by lia), H, ?_, ru, ⟨rfl, fun ys hy => by rw [I.list_inj hy hq]; exact List.getElem?_eq_getElem (by lia)⟩, ⟨hi, ?_⟩, fun b hb => (hf b hb).1⟩⟩
    · exact I.turnedL (ch := [it]) (t' := s.toks) hf fun b o hb q => hs1.extBut b o (fun z => hb (by simp [z])) q
    · have e2 : ((n - 1 - i : Nat) : Int) - 1 = (n : Int) - 1 - ((i + 1 : Nat) : Int) := by lia
      rw [e2] at hit1
      exact hit1
  done := by
    intro X hP hw hK hc i pins s σ H E I hf st hg
    subst hP hw hK
    obtain ⟨hi, xs, hq, hx⟩ := hg
    have hit := st.2
    have e : (n : Int) - 1 - (i : Int) = -1 := by lia
    rw [e] at hit
    exact wpAny_pyNext_rev_end (I.ok.hd hc) hit fun h' eb => ⟨rfl, I.turnedL (ch := [it]) (t' := s.toks) hf fun b o hb q => eb b o (fun z => hb (by simp [z])) q⟩
  self := fun _ _ _ _ _ st h => wpAny_pyIter_revIter st.2 h
def iRev (K : PySem.W.Frag) (te : TE) : TI := fun σ H R => te σ H fun x H1 => ∃ a xs, x = .ref a ∧ SqL K H1 a xs ∧ R (Itv K a xs.length) H1
section
variable {X : Cx}
theorem pi_rev {e : Expr} {te : TE} {p pos : Pos} {tg : Expr} (hg : Gl X "reversed") (hm : X.mg "reversed" = none) (he : PE X e te) (hs : starEach [e] X.env = [(false, eval e X.env)] := by rfl) :
    PI X tg (.Call (.Name "reversed" p) [e] [] pos) (iRev X.K te) := by
  intro pins s σ H R I h
  refine wpAny_Call_Name_kw (ld_blt I hg hm bt_reversed ?_)
  refine PyProof.Rows.callWith_type1 ?_ hs rfl
  rw [hs]
  show wpAny _ _ (spliced ((false, eval e X.env) :: [])) _ _ s
  refine Calls.spliced_cons (thn (he pins s σ H _ I h) ?_)
  rintro u s1 ⟨x, H1, I1, r1, q1⟩
  refine Calls.spliced_nil ?_
  obtain ⟨a, xs, rfl, hq, q⟩ := q1
  cases r1
  obtain ⟨its, rv, pl, hz⟩ := I1.list hq
  have hlen := rv.length
  have ha : a < s1.heap.objs.size := by obtain ⟨o, ho, _⟩ := pl.isList; exact Heap.lt_size ho
  refine call_reversed_list pl.isList ?_
  have hJ : (s1.heap.push (revObj a ((its.toArray.size : Int) - 1))).IsRevIter s1.heap.objs.size a ((xs.length : Int) - 1 - ((0 : Nat) : Int)) := by
    rw [hlen]
    refine ⟨_, Heap.get?_push_size _ rfl, rfl, ?_⟩
    show Data.fields #[.ref a, rawInt ((its.toArray.size : Int) - 1)] = _
    rw [List.size_toArray, show ((its.length : Int) - 1 - ((0 : Nat) : Int)) = (its.length : Int) - 1 by lia]
  refine wpAny_pyIter_revIter hJ ?_
  have I2 : Inv X pins σ H1 { s1 with heap := s1.heap.push (revObj a ((its.toArray.size : Int) - 1)) } := I1.kept (t' := s1.toks) fun b o q => Heap.get?_push_of_some _ q
  refine ⟨s1.heap.objs.size, [s1.heap.objs.size], _, _, H1, rfl, I2, turn_rev a _ xs.length (Nat.ne_of_lt ha), ⟨Nat.zero_le _, hJ⟩, fun b hb => ?_, q⟩
  rw [List.mem_singleton.mp hb]
  exact I1.fpOk (Nat.le_refl _) (I1.hok.fresh (Nat.le_refl _))
end
theorem for_rev {K : PySem.W.Frag} {a : Addr} {xs : List V} {g : TG} {tb : TS} {D : Ends} {σ : St} {H : Hp} (Pv : Nat → St → Hp → Prop) (h0 : Pv 0 σ H) (hl : ∀ i σ H, i ≤ xs.length → Pv i σ H → SqL K H a xs)
    (hs : ∀ i x σ H, xs[xs.length - 1 - i]? = some x → i < xs.length → Pv i σ H → g x σ H fun σ2 H2 => tb { D with nx := Pv (i + 1), ct := Pv (i + 1), bk := D.nx } σ2 H2) (hd : ∀ σ H, Pv xs.length σ H → D.nx σ H) :
    ∃ W : Nat → Nat → St → Hp → Prop, (∃ m, W 0 m σ H) ∧ ∀ i m σ H, W i m σ H →
      ((Itv K a xs.length).stop i H ∧ D.nx σ H) ∨ ((Itv K a xs.length).go i H ∧ ∃ N : St → Hp → Prop, (∀ σ' H', N σ' H' → ∃ m', m' < m ∧ W (i + 1) m' σ' H') ∧ ∀ x H', (Itv K a xs.length).yld i H x H' → g x σ H' fun σ2 H2 => tb { D with nx := N, ct := N, bk := D.nx } σ2 H2) := by
  refine ⟨fun i m σ H => m = xs.length - i ∧ i ≤ xs.length ∧ Pv i σ H, ⟨xs.length, by simp, Nat.zero_le _, h0⟩, ?_⟩
  rintro i m σ H ⟨rfl, hi, p⟩
  have q := hl i σ H hi p
  by_cases hlt : i < xs.length
  · refine .inr ⟨⟨hlt, xs, q, rfl⟩, Pv (i + 1), fun σ' H' p' => ⟨xs.length - (i + 1), by lia, rfl, hlt, p'⟩, fun x H' y => ?_⟩
    obtain ⟨rfl, y⟩ := y
    exact hs i x σ _ (y xs q) hlt p
  · have e : i = xs.length := by lia
    exact .inl ⟨⟨e, xs, q, rfl⟩, hd σ H (by rw [← e]; exact p)⟩
/-! ### cuts by steps -/
def pickA {α : Type} (xs : List α) (lo hi st : Option Int) : List α :=
  (sliceRange (sliceBounds lo hi st xs.length).1 (sliceBounds lo hi st xs.length).2.1 (sliceBounds lo hi st xs.length).2.2).filterMap (xs[·]?)
theorem pick_map {α β : Type} (f : α → β) (xs : List α) (lo hi st : Option Int) : pickA (xs.map f) lo hi st = (pickA xs lo hi st).map f := by
  unfold pickA
  rw [List.length_map, List.map_filterMap]
  congr 1
  funext i
  rw [List.getElem?_map]
theorem vals_pick {xs : List V} {us : List Value} (r : Vals xs us) : ∀ ix : List Nat, Vals (ix.filterMap (xs[·]?)) (ix.filterMap (us[·]?))
  | [] => .nil
  | i :: ix => by
    have ih := vals_pick r ix
    cases e : xs[i]? with
    | none => rw [List.filterMap_cons_none (by exact e), List.filterMap_cons_none (by exact r.none_of e)]; exact ih
    | some x =>
      obtain ⟨u, hu, ru⟩ := r.get e
      rw [List.filterMap_cons_some (by exact e), List.filterMap_cons_some (by exact hu)]
      exact .cons ru ih
theorem len_pick (its : List Value) (lo hi st : Option Int) : ((sliceRange (sliceBounds lo hi st its.length).1 (sliceBounds lo hi st its.length).2.1 (sliceBounds lo hi st its.length).2.2).filterMap (its[·]?)).length ≤ its.length := by
  have := slicePick_size_le its.toArray lo hi st
  unfold slicePick at this
  simpa using this
def tSlS (K : PySem.W.Frag) (te : TE) (tl th ts : TO) : TE := fun σ H Q => te σ H fun x H1 => tl σ H1 fun l H2 => th σ H2 fun u H3 => ts σ H3 fun k H4 =>
  ∃ a xs, x = .ref a ∧ SqL K H4 a xs ∧ k ≠ some 0 ∧ ∀ p, H4 p = none → Q (.ref p) (upd H4 p (.lst (pickA xs l u k)))
section
variable {X : Cx} {e : Expr} {te : TE} {lo hi : Option Expr} {ke : Expr} {tl th ts : TO} {pos p2 : Pos}
/-- a[lo:hi:step], a list -/
theorem pe_sliceS (he : PE X e te) (hl : PO X lo tl) (hu : PO X hi th) (hk : PO X (some ke) ts) : PE X (.Subscript e (.Slice lo hi (some ke) p2) pos) (tSlS X.K te tl th ts) := by
  intro pins s σ H Q I h
  refine Subscript_ (thn (he pins s σ H _ I h) ?_)
  rintro v s1 ⟨x, H1, I1, r1, q1⟩
  refine wpAny_Slice (thn (hl pins s1 σ H1 _ I1 q1) ?_)
  rintro vl s2 ⟨l, H2, I2, pl, q2⟩
  refine thn (hu pins s2 σ H2 _ I2 q2) ?_
  rintro vu s3 ⟨u, H3, I3, pu, q3⟩
  refine thn (hk pins s3 σ H3 _ I3 q3) ?_
  rintro vk s4 ⟨k, H4, I4, pk, q4⟩
  obtain ⟨a, xs, rfl, hq, hk0, q⟩ := q4
  cases r1
  have I5 : Inv X pins σ H4 { s4 with heap := s4.heap.push { cls := .type "slice", data := .fields #[vl, vu, vk] } } := I4.kept (t' := s4.toks) fun b ob z => Heap.get?_push_of_some _ z
  obtain ⟨its, r, ht, hz⟩ := I5.list hq
  have hlen := r.length
  show wpAny (model X.prog X.w) X.A (subscriptTail e (.Slice lo hi (some ke) p2) (.ref a) (.ref s4.heap.objs.size)) (EP X pins σ Q) X.xe { s4 with heap := s4.heap.push { cls := .type "slice", data := .fields #[vl, vu, vk] } }
  refine tail_any (ops := [.ref a, .ref s4.heap.objs.size]) ht.isList.typeIs slot_list_getitem.lookup ?_ (by with_unfolding_all rfl)
  refine wpAny_getItem_list_slice ht.isList (Heap.IsSliceOf.new ..) pl pu pk hk0 ?_ (by rw [List.size_toArray]; lia)
  have hle := len_pick its l u k
  refine ⟨.ref _, _, I5.laid (t' := s4.toks) (o := .lst (pickA xs l u k)) (fun b ob z => Heap.get?_push_of_some _ z) (Nat.le_refl _) ?_, rfl, q _ (I5.hok.fresh (Nat.le_refl _))⟩
  have rp : Vals (pickA xs l u k) ((sliceRange (sliceBounds l u k its.length).1 (sliceBounds l u k its.length).2.1 (sliceBounds l u k its.length).2.2).filterMap (its[·]?)) := by
    unfold pickA
    rw [hlen]
    exact vals_pick r _
  refine ⟨by rw [rp.length]; lia, _, 0, rp, ?_⟩
  have e0 : slicePick its.toArray l u k = ((sliceRange (sliceBounds l u k its.length).1 (sliceBounds l u k its.length).2.1 (sliceBounds l u k its.length).2.2).filterMap (its[·]?)).toArray := by
    unfold slicePick
    simp only [List.size_toArray, List.getElem?_toArray]
  rw [← e0]
  exact Heap.get?_push_size _ rfl
end
theorem len_pickA {α : Type} (xs : List α) (lo hi st : Option Int) : (pickA xs lo hi st).length ≤ xs.length := by
  have := len_pick (xs.map fun _ => Value.none) lo hi st
  rw [List.length_map] at this
  refine Nat.le_trans (Nat.le_of_eq ?_) this
  unfold pickA
  have e : ∀ ix : List Nat, (ix.filterMap (xs[·]?)).length = (ix.filterMap ((xs.map fun _ => Value.none)[·]?)).length := by
    intro ix
    induction ix with
    | nil => rfl
    | cons i r ih =>
      cases q : xs[i]? with
      | none => rw [List.filterMap_cons_none (by exact q), List.filterMap_cons_none (by rw [List.getElem?_map, q]; rfl)]; exact ih
      | some z => rw [List.filterMap_cons_some (by exact q), List.filterMap_cons_some (b := Value.none) (by rw [List.getElem?_map, q]; rfl), List.length_cons, List.length_cons, ih]
  exact e _
end L2

set_option Elab.async false
set_option linter.all false
set_option maxRecDepth 100000
set_option maxHeartbeats 4000000
/-! reversed(a tuple), walked. Own work. -/
namespace RVT
open PySem PyProof.Rows
theorem noRev : typeLookup (.type "tuple") "__reversed__" = pure none := by rw [typeLookup_type, builtinLookup_eq_fast]; kernel_rfl
theorem subTD : isSubtype (.type "tuple") (.type "dict") = pure false := by rw [isSubtype_type]; kernel_rfl
theorem slot_init : Slot "reversed" "__init__" "object.__init__" :=
  .of (owner := "object") (n := "__init__") (by rw [typeLookup_type, builtinLookup_eq_fast]; kernel_rfl) (by decide +kernel) (by decide +kernel) (by decide +kernel)
    (by first | exact .inl (by decide +kernel) | exact .inr (by decide +kernel)) (by rw [isSubtype_type]; kernel_rfl)
theorem called : TypeCalled "reversed" "reversed.__new__" "object.__init__" := ⟨by decide +kernel, F.create_reversed, ⟨_, _, F.mro_reversed⟩, F.made_reversed, F.plain_reversed_new, F.sub_reversed_self, slot_init⟩
theorem slot_next : Slot "reversed" "__next__" "reversed.__next__" :=
  .of (owner := "reversed") (n := "__next__") (by rw [typeLookup_type, builtinLookup_eq_fast]; kernel_rfl) (by decide +kernel) (by decide +kernel) (by decide +kernel)
    (by first | exact .inl (by decide +kernel) | exact .inr (by decide +kernel)) (by rw [isSubtype_type]; kernel_rfl)
theorem entry_next : entryFor table "reversed.__next__" = some Builtin.«reversed.__next__» := entryFor_of_tree (by kernel_rfl)
theorem args_next (a : Value) : argsOk "reversed.__next__" ⟨[a], []⟩ := by unfold argsOk; kernel_rfl
theorem slot_iter : Slot "reversed" "__iter__" "reversed.__iter__" :=
  .of (owner := "reversed") (n := "__iter__") (by rw [typeLookup_type, builtinLookup_eq_fast]; kernel_rfl) (by decide +kernel) (by decide +kernel) (by decide +kernel)
    (by first | exact .inl (by decide +kernel) | exact .inr (by decide +kernel)) (by rw [isSubtype_type]; kernel_rfl)
theorem args_iter (a : Value) : argsOk "reversed.__iter__" ⟨[a], []⟩ := by unfold argsOk; kernel_rfl
theorem entry_iter : entryFor table "reversed.__iter__" = some Builtin.«dict_keyiterator.__iter__» :=
  entryFor_alias (id' := "dict_keyiterator.__iter__") (by kernel_rfl) (by first | rfl | decide +kernel | (unfold String.splitOn; simp +decide [String.splitOnAux])) (by decide +kernel) (by kernel_rfl)
def rvsObj (t : Addr) (i : Int) : Obj := { cls := .type "reversed", data := .fields #[.ref t, rawInt i] }
def IsRvs (h : Heap) (a t : Addr) (i : Int) : Prop := ∃ o, h.get? a = some o ∧ o.cls = .type "reversed" ∧ o.data = .fields #[.ref t, rawInt i]
section
variable {prog : Program} {w : World} {A : Around} {E : Value → Shared → Prop} {s : Shared}
theorem IsRvs.typeIs {a t : Addr} {i : Int} (x : IsRvs s.heap a t i) : s.TypeIs (.ref a) "reversed" := let ⟨o, ho, hc, _⟩ := x; ⟨o, ho, hc⟩
theorem IsRvs.at {h h' : Heap} {a t : Addr} {i : Int} (x : IsRvs h a t i) (e : ∀ o, h.get? a = some o → h'.get? a = some o) : IsRvs h' a t i := let ⟨o, ho, r⟩ := x; ⟨o, e _ ho, r⟩
theorem meets_new (t : Addr) (items : Array Value) : Meets (Builtin.«reversed.__new__» ⟨[.type "reversed", .ref t], []⟩) (fun _ R s => IsTup s.heap t items ∧ (items.size : Int) < 2 ^ 63 ∧
    ∀ tk, R (.ok (.ret (.ref s.heap.objs.size))) { s with heap := s.heap.push (rvsObj t ((items.size : Int) - 1)), toks := tk }) :=
  .of_wp fun prog w A R s h => by
    obtain ⟨ht, hz, h⟩ := h
    unfold Builtin.«reversed.__new__»
    refine wpAny_bind (wpAny_of_eq (newClass_reversed _) ?_)
    try dsimp only
    refine wpAny_bind (wpAny_of_eq (a := ()) (by first | rfl | kernel_rfl) ?_)
    refine wpAny_bind (wpAny_of_eq (a := ()) (by first | rfl | kernel_rfl) ?_)
    try dsimp only
    refine wpAny_bind (wpAny_specialOf ht.typeIs noRev ?_)
    try dsimp only
    refine wpAny_bind (wpAny_mono (Q := fun b s' => b = true ∧ s' = s) ?_ ?_ fun _ _ z => z)
    · show wpAny _ _ (isInstance (.ref t) (.type "dict") >>= _) _ _ s
      refine wpAny_bind (wpAny_isInstance (T := "tuple") (b := false) ht.typeIs subTD ?_)
      show wpAny _ _ (specialOf (.ref t) (Str.ofString "__getitem__") >>= _) _ _ s
      refine wpAny_bind (wpAny_specialOf ht.typeIs slot_tuple_getitem.lookup ?_)
      exact wpAny_pure ⟨rfl, rfl⟩
    rintro b s' ⟨rfl, rfl⟩
    rw [if_neg (by decide)]
    refine wpAny_bind (len_tuple ht hz ?_)
    refine wpAny_bind (wpAny_of_eq (a := some (items.size : Int)) rfl ?_)
    try dsimp only
    refine wpAny_bind ?_
    show wpAny _ _ (newObj (.type "reversed") (.fields #[.ref t, rawInt ((items.size : Int) - 1)])) _ _ _
    exact wpAny_newObj_type (wpAny_pure ⟨_, rfl, h _⟩)
theorem call_rvs {t : Addr} {items : Array Value} {Q : Value → Shared → Prop} (ht : IsTup s.heap t items) (hz : (items.size : Int) < 2 ^ 63)
    (h : ∀ tk, Q (.ref s.heap.objs.size) { s with heap := s.heap.push (rvsObj t ((items.size : Int) - 1)), toks := tk }) : wpAny (model prog w) A (call (.type "reversed") [.ref t]) Q E s :=
  callType_new called (by decide) (F.typeCall_reversed_1 _) (F.newCall_reversed_1 _) (fun obj => F.args_object_init_2 obj _) F.entry_reversed_new (meets_new t items) ⟨ht, hz, fun tk => ⟨⟨_, Heap.get?_push_size _ rfl, rfl⟩, h tk⟩⟩
theorem next_item {it t : Addr} {i : Nat} {items : Array Value} {x : Value} {Q : Option Value → Shared → Prop} (hit : IsRvs s.heap it t (i : Int)) (ht : IsTup s.heap t items) (hi : (i : Int) < 2 ^ 63) (hx : items[i]? = some x)
    (hQ : ∀ h' tk, IsRvs h' it t ((i : Int) - 1) → Heap.SameBut it s.heap h' → Q (some x) { s with heap := h', toks := tk }) : wpAny (model prog w) A (pyNext (.ref it)) Q E s := by
  obtain ⟨o, ho, hc, hd⟩ := id hit
  unfold pyNext
  refine wpAny_bind (wpAny_attempt (wpAny_callSpecial?_slot (name := Str.ofString "__next__") hit.typeIs slot_next
    (wpAny_call_entry slot_next hit.typeIs entry_next ?_ (args_next _))))
  unfold Builtin.«reversed.__next__»
  refine wpAny_bind (wpAny_of_eq (a := (Value.ref it, [])) rfl ?_)
  try dsimp only
  refine wpAny_bind (wpAny_field ho hd (x := .ref t) rfl ?_)
  refine wpAny_bind (wpAny_field ho hd (x := rawInt (i : Int)) rfl ?_)
  show wpAny _ _ (if (i : Int) < 0 then _ else _) _ _ s
  rw [if_neg (by lia)]
  show wpAny _ _ (specialOf (.ref t) (Str.ofString "__getitem__") >>= _) _ _ s
  refine wpAny_bind (wpAny_specialOf ht.typeIs slot_tuple_getitem.lookup ?_)
  rw [if_neg (by simp)]
  refine wpAny_bind (wpAny_mkInt ?_)
  have hj : seqIndex? (i : Int) items.size = some i := by
    have hlt : i < items.size := (Array.getElem?_eq_some_iff.mp hx).1
    unfold seqIndex?
    simp
    lia
  refine wpAny_bind (wpAny_attempt (getItem_tuple ht (by lia) hi hj hx ?_))
  try dsimp only
  refine wpAny_bind (wpAny_field ho hd (x := rawInt (i : Int)) rfl ?_)
  show wpAny _ _ (setField (.ref it) 1 (rawInt ((i : Int) - 1)) >>= _) _ _ _
  refine wpAny_bind (wpAny_setField ho hd (by simp) ?_)
  refine wpAny_pure ⟨x, rfl, wpAny_pure (hQ _ _ ?_ (Heap.SameBut.update ..))⟩
  exact ⟨_, Heap.get?_update_self _ ho (Obj.isFreed_of_fields (Obj.data_mapFields hd _)), (Obj.cls_mapFields ..).trans hc, by
    rw [Obj.data_mapFields hd]; simp⟩
theorem next_end {it t : Addr} {Q : Option Value → Shared → Prop} (hh : A.handled = none) (hit : IsRvs s.heap it t (-1))
    (hQ : ∀ h', Heap.ExtBut it s.heap h' → Q none { s with heap := h' }) : wpAny (model prog w) A (pyNext (.ref it)) Q E s := by
  obtain ⟨o, ho, hc, hd⟩ := id hit
  unfold pyNext
  refine wpAny_bind (wpAny_attempt (wpAny_callSpecial?_slot (name := Str.ofString "__next__") hit.typeIs slot_next
    (wpAny_call_entry slot_next hit.typeIs entry_next ?_ (args_next _))))
  unfold Builtin.«reversed.__next__»
  refine wpAny_bind (wpAny_of_eq (a := (Value.ref it, [])) rfl ?_)
  try dsimp only
  refine wpAny_bind (wpAny_field ho hd (x := .ref t) rfl ?_)
  refine wpAny_bind (wpAny_field ho hd (x := rawInt (-1)) rfl ?_)
  show wpAny _ _ (if (-1 : Int) < 0 then _ else _) _ _ s
  rw [if_pos (by decide)]
  refine wpAny_bind (wpAny_rule ?_)
  refine wpAny_bind ?_
  show wpAny _ _ (setField (.ref it) 1 (rawInt (-1)) >>= fun _ => setField (.ref it) 0 .none) _ _ s
  refine wpAny_bind (wpAny_setField ho hd (by simp) ?_)
  have h1 := Heap.get?_update_self (Obj.mapFields fun vs => vs.setIfInBounds 1 (rawInt (-1))) ho (Obj.isFreed_of_fields (Obj.data_mapFields hd _))
  refine wpAny_setField h1 (Obj.data_mapFields hd _) (by simp) ?_
  have eb : Heap.ExtBut it s.heap ((s.heap.update it (Obj.mapFields fun x => x.setIfInBounds 1 (rawInt (-1)))).update it (Obj.mapFields fun x => x.setIfInBounds 0 Value.none)) := fun b o' hb q => by
    rw [Heap.get?_update_other _ _ (Ne.symm hb), Heap.get?_update_other _ _ (Ne.symm hb)]; exact q
  show wpAny _ _ _ _ _ { s with heap := (s.heap.update it (Obj.mapFields fun x => x.setIfInBounds 1 (rawInt (-1)))).update it (Obj.mapFields fun x => x.setIfInBounds 0 Value.none) }
  generalize (s.heap.update it (Obj.mapFields fun x => x.setIfInBounds 1 (rawInt (-1)))).update it (Obj.mapFields fun x => x.setIfInBounds 0 Value.none) = h2 at eb ⊢
  refine wpAny_bind ?_
  show wpAny _ _ (newExc (.type "StopIteration") [] >>= _) _ _ _
  refine wpAny_bind ?_
  simp only [newExc, newTuple]
  refine wpAny_bind (wpAny_newObj_type ?_ (by size_fits))
  refine wpAny_bind (m := firstArgMember _ _) (wpAny_of_eq (a := Value.none) (by first | rfl | (simp only [firstArgMember]; rfl)) ?_)
  refine wpAny_newObj_type ?_ (by size_fits)
  simp only [raiseNew]
  refine wpAny_bind (wpAny_handled ?_)
  first | rw [show A.in1.handled = none from hh] | rw [hh]
  refine wpAny_bind (wpAny_pure (wpAny_throw ?_))
  refine wpAny_bind (wpAny_isInstance (T := "StopIteration") (b := true) ⟨_, Heap.get?_push_size _ rfl, rfl⟩ isSubtype_stop ?_)
  exact wpAny_pure (hQ _ ((eb.push _).push _))
theorem iter_self {it t : Addr} {i : Int} {Q : Value → Shared → Prop} (hit : IsRvs s.heap it t i) (h : Q (.ref it) s) : wpAny (model prog w) A (pyIter (.ref it)) Q E s := by
  refine wpAny_pyIter_slot hit.typeIs slot_iter (wpAny_call_entry slot_iter hit.typeIs entry_iter ?_ (args_iter _))
  show wpAny _ _ (ret (.ref it)) _ _ s
  exact wpAny_pure ⟨_, rfl, "reversed", _, hit.typeIs, slot_next.lookup, h⟩
end
end RVT
namespace L2
open PySem PySem.Spec PyProof.Rows RVT
/-! ### a walk back over a tuple -/
def Itw (K : PySem.W.Frag) (a : Addr) (n : Nat) : It :=
  ⟨fun i H => i < n ∧ ∃ xs, SqT K H a xs ∧ xs.length = n, fun i H x H' => H' = H ∧ ∀ xs, SqT K H a xs → xs[n - 1 - i]? = some x, fun i H => i = n ∧ ∃ xs, SqT K H a xs ∧ xs.length = n⟩
theorem turn_rvs {P : Program} {w : World} {K : PySem.W.Frag} {tg : Expr} (a it : Addr) (n : Nat) (hne : a ≠ it) :
    Turn P w K tg (Itw K a n) [it] it (fun i h => i ≤ n ∧ IsRvs h it a ((n : Int) - 1 - (i : Int))) where
  mem := by simp
  obj := fun i h st b hb => by
    obtain ⟨_, o, ho, c, d⟩ := st
    rw [List.mem_singleton.mp hb]
    exact ⟨o, ho, fun v z => by rw [d] at z; cases z⟩
  keep := fun i h h' st k => ⟨st.1, st.2.at fun o ho => k it (by simp) o ho⟩
  item := by
    intro X hP hw hK hc i pins s σ H E I hf st hg
    subst hP hw hK
    obtain ⟨hi, xs, hq, hx⟩ := hg
    obtain ⟨its, rv, p, hz⟩ := I.tuple hq
    have hlen := rv.length
    obtain ⟨u, hu, ru⟩ := rv.get (i := n - 1 - i) (x := xs[n - 1 - i]'(by omega)) (List.getElem?_eq_getElem (by omega))
    have hit := st.2
    have e : (n : Int) - 1 - (i : Int) = ((n - 1 - i : Nat) : Int) := by omega
    rw [e] at hit
    refine next_item hit p (by rw [sizeLine_eq] at hz; omega) (x := u) (by simpa using hu) fun h1 tk hit1 hs1 => ?_
    obtain ⟨o1, ho1, hc1, hd1⟩ := id hit1
    refine ⟨_, rfl, go_of ho1 hc1 hd1 (by decide) ⟨xs[n - 1 - i]'(by omega), H, ?_, ru, ⟨rfl, fun ys hy => by rw [I.tuple_inj hy hq]; exact List.getElem?_eq_getElem (by omega)⟩, ⟨hi, ?_⟩, fun b hb => (hf b hb).1⟩⟩
    · exact I.turnedL (ch := [it]) (t' := tk) hf fun b o hb q => hs1.extBut b o (fun z => hb (by simp [z])) q
    · have e2 : ((n - 1 - i : Nat) : Int) - 1 = (n : Int) - 1 - ((i + 1 : Nat) : Int) := by omega
      rw [e2] at hit1
      exact hit1
  done := by
    intro X hP hw hK hc i pins s σ H E I hf st hg
    subst hP hw hK
    obtain ⟨hi, xs, hq, hx⟩ := hg
    have hit := st.2
    have e : (n : Int) - 1 - (i : Int) = -1 := by omega
    rw [e] at hit
    exact next_end (I.ok.hd hc) hit fun h' eb => ⟨rfl, I.turnedL (ch := [it]) (t' := s.toks) hf fun b o hb q => eb b o (fun z => hb (by simp [z])) q⟩
  self := fun _ _ _ _ _ st h => iter_self st.2 h
def iRvs (K : PySem.W.Frag) (te : TE) : TI := fun σ H R => te σ H fun x H1 => ∃ a xs, x = .ref a ∧ SqT K H1 a xs ∧ R (Itw K a xs.length) H1
section
variable {X : Cx}
/-- reversed(e), e a tuple -/
theorem pi_rvs {e : Expr} {te : TE} {p pos : Pos} {tg : Expr} (hg : Gl X "reversed") (hm : X.mg "reversed" = none) (he : PE X e te) (hs : starEach [e] X.env = [(false, eval e X.env)] := by rfl) :
    PI X tg (.Call (.Name "reversed" p) [e] [] pos) (iRvs X.K te) := by
  intro pins s σ H R I h
  refine wpAny_Call_Name_kw (ld_blt I hg hm bt_reversed ?_)
  refine PyProof.Rows.callWith_type1 ?_ hs rfl
  rw [hs]
  show wpAny _ _ (spliced ((false, eval e X.env) :: [])) _ _ s
  refine Calls.spliced_cons (thn (he pins s σ H _ I h) ?_)
  rintro u s1 ⟨x, H1, I1, r1, q1⟩
  refine Calls.spliced_nil ?_
  obtain ⟨a, xs, rfl, hq, q⟩ := q1
  cases r1
  obtain ⟨its, rv, pl, hz⟩ := I1.tuple hq
  have hlen := rv.length
  have ha : a < s1.heap.objs.size := by obtain ⟨o, ho, _⟩ := id pl; exact Heap.lt_size ho
  refine call_rvs pl (by rw [List.size_toArray, ← hlen]; rw [sizeLine_eq] at hz; lia) fun tk => ?_
  have hJ : IsRvs (s1.heap.push (rvsObj a ((its.toArray.size : Int) - 1))) s1.heap.objs.size a ((xs.length : Int) - 1 - ((0 : Nat) : Int)) := by
    rw [hlen]
    refine ⟨_, Heap.get?_push_size _ rfl, rfl, ?_⟩
    show Data.fields #[.ref a, rawInt ((its.toArray.size : Int) - 1)] = _
    rw [List.size_toArray, show ((its.length : Int) - 1 - ((0 : Nat) : Int)) = (its.length : Int) - 1 by lia]
  refine iter_self (s := { s1 with heap := s1.heap.push (rvsObj a ((its.toArray.size : Int) - 1)), toks := tk }) hJ ?_
  have I2 : Inv X pins σ H1 { s1 with heap := s1.heap.push (rvsObj a ((its.toArray.size : Int) - 1)), toks := tk } := I1.kept (t' := tk) fun b o q => Heap.get?_push_of_some _ q
  refine ⟨s1.heap.objs.size, [s1.heap.objs.size], _, _, H1, rfl, I2, turn_rvs a _ xs.length (Nat.ne_of_lt ha), ⟨Nat.zero_le _, hJ⟩, fun b hb => ?_, q⟩
  rw [List.mem_singleton.mp hb]
  exact I1.fpOk (Nat.le_refl _) (I1.hok.fresh (Nat.le_refl _))
end
theorem for_rvs {K : PySem.W.Frag} {a : Addr} {xs : List V} {g : TG} {tb : TS} {D : Ends} {σ : St} {H : Hp} (Pv : Nat → St → Hp → Prop) (h0 : Pv 0 σ H) (hl : ∀ i σ H, i ≤ xs.length → Pv i σ H → SqT K H a xs)
    (hs : ∀ i x σ H, xs[xs.length - 1 - i]? = some x → i < xs.length → Pv i σ H → g x σ H fun σ2 H2 => tb { D with nx := Pv (i + 1), ct := Pv (i + 1), bk := D.nx } σ2 H2) (hd : ∀ σ H, Pv xs.length σ H → D.nx σ H) :
    ∃ W : Nat → Nat → St → Hp → Prop, (∃ m, W 0 m σ H) ∧ ∀ i m σ H, W i m σ H →
      ((Itw K a xs.length).stop i H ∧ D.nx σ H) ∨ ((Itw K a xs.length).go i H ∧ ∃ N : St → Hp → Prop, (∀ σ' H', N σ' H' → ∃ m', m' < m ∧ W (i + 1) m' σ' H') ∧ ∀ x H', (Itw K a xs.length).yld i H x H' → g x σ H' fun σ2 H2 => tb { D with nx := N, ct := N, bk := D.nx } σ2 H2) := by
  refine ⟨fun i m σ H => m = xs.length - i ∧ i ≤ xs.length ∧ Pv i σ H, ⟨xs.length, by simp, Nat.zero_le _, h0⟩, ?_⟩
  rintro i m σ H ⟨rfl, hi, p⟩
  have q := hl i σ H hi p
  by_cases hlt : i < xs.length
  · refine .inr ⟨⟨hlt, xs, q, rfl⟩, Pv (i + 1), fun σ' H' p' => ⟨xs.length - (i + 1), by lia, rfl, hlt, p'⟩, fun x H' y => ?_⟩
    obtain ⟨rfl, y⟩ := y
    exact hs i x σ _ (y xs q) hlt p
  · have e : i = xs.length := by lia
    exact .inl ⟨⟨e, xs, q, rfl⟩, hd σ H (by rw [← e]; exact p)⟩
end L2

set_option linter.all false
/-! Signs of texts as lists of numbers: parts at one sign, words between blanks, padding. Own work. -/
namespace TX
/-- each sign c exchanged for z -/
def rep (c : Nat) (z : List Nat) (l : List Nat) : List Nat := l.flatMap fun k => if k = c then z else [k]
/-- the text as the reader pads it -/
def pad (l : List Nat) : List Nat := rep 10 [32] (rep 41 [32, 41, 32] (rep 40 [32, 40, 32] l))
/-- it ends with a blank (padded), or it is empty -/
def Shut (a : List Nat) : Prop := pad a = [] ∨ ∃ a', pad a = a' ++ [32]
end TX

set_option Elab.async false
set_option linter.all false
set_option maxRecDepth 100000
set_option maxHeartbeats 4000000
/-! Texts over the hand layer: their mathematics as lists of numbers; split, replace, startswith, walks over the signs, cuts, repeats. Own work. -/
namespace L2
open PySem PySem.Spec PyProof.Rows Builtin Builtin.Str
/-! ### texts as lists of numbers -/
def cpl (x : Str) : List Nat := x.cps.toList
/-! ### rules -/
section
variable {X : Cx}
end
end L2

set_option Elab.async false
set_option linter.all false
set_option maxRecDepth 100000
set_option maxHeartbeats 4000000
/-! Texts over the hand layer: walks over the signs, repeats, replace behind a def's entry. Own work. -/
namespace L2
open PySem PySem.Spec PyProof.Rows Builtin Builtin.Str
section
variable {X : Cx} {tg : Expr}
end
end L2

set_option Elab.async false
set_option linter.all false
set_option maxRecDepth 100000
set_option maxHeartbeats 4000000
/-! Behind a def's entry at least one token has been counted: str.replace with written texts. Own work. -/
namespace L2
open PySem PySem.Spec PyProof.Rows Builtin Builtin.Str
section
variable {X : Cx}
end
/-! ### the entry -/
section
variable {M : Model} {A : Around} {E : Value → Shared → Prop} {s₀ : Shared} {env : Env}
end
end L2

set_option Elab.async false
set_option linter.all false
set_option maxRecDepth 100000
set_option maxHeartbeats 4000000
/-! Texts over the hand layer: join. Own work. -/
namespace L2
open PySem PySem.Spec PyProof.Rows Builtin Builtin.Str
section
variable {X : Cx}
end
end L2
namespace TX
end TX
namespace L2
open PySem
end L2

set_option Elab.async false
set_option linter.all false
set_option maxRecDepth 100000
set_option maxHeartbeats 4000000
/-! The machine on its own: cores, values, frames; its steps; on the heap. Own work. -/
namespace MC
open PySem L2 Builtin.Str
set_option genInjectivity true in
mutual
inductive Core where
  | num (z : Int)
  | free (n : Str)
  | seen (p : Int)
  | fn (ps : List Int) (b : Core)
  | now (c : Core)
  | pick (a b c : Core)
  | call (f : Core) (as : Cores)
inductive Cores where
  | nil
  | cons (c : Core) (r : Cores)
end
mutual
inductive Val where
  | num (z : Int)
  | op (n : Str)
  | fn (ps : List Int) (b : Core) (e : Fr)
inductive Fr where
  | nil
  | cons (d : Kvs) (e : Fr)
inductive Kvs where
  | nil
  | cons (p : Int) (v : Val) (r : Kvs)
end
def Cores.list : Cores → List Core
  | .nil => []
  | .cons c r => c :: r.list
def Cores.of : List Core → Cores
  | [] => .nil
  | c :: r => .cons c (Cores.of r)
theorem Cores.list_of : ∀ l : List Core, (Cores.of l).list = l
  | [] => rfl
  | c :: r => by show c :: (Cores.of r).list = _; rw [Cores.list_of r]
def Val.kind : Val → Str
  | .num _ => "num"
  | .op _ => "op"
  | .fn _ _ _ => "fn"
def Kvs.get : Kvs → Int → Option Val
  | .nil, _ => none
  | .cons p v r, k => match r.get k with
    | some x => some x
    | none => if p = k then some v else none
abbrev Kn : Type := Int → Option Val
def look (kn : Kn) : Fr → Int → Option Val
  | .nil, p => kn p
  | .cons d e, p => match d.get p with
    | some v => some v
    | none => look kn e p
def kz : List Int → List Val → Kvs
  | p :: ps, v :: vs => .cons p v (kz ps vs)
  | _, _ => .nil
abbrev OPS : List Str := ["add", "sub", "less"]
def cal (n : Str) (x y : Int) : Int := if n = "add" then x + y else if n = "sub" then x - y else if x < y then 1 else 0
def reckO (f : Val) (as : List Val) : Option Int :=
  match f, as with
  | .op n, [.num x, .num y] => some (cal n x y)
  | _, _ => none
inductive Tsk where
  | core (c : Core)
  | cho (a b : Core)
  | ent (n : Nat)
inductive Res where
  | go (fu : Nat) (ts : List (Tsk × Fr)) (rs : List Val)
  | stop (s : Str)
/-- a body is entered -/
def burn (fu : Nat) (b : Core) (e : Fr) (ts : List (Tsk × Fr)) (r : List Val) : Res := match fu with
  | 0 => .stop "on"
  | fu + 1 => .go fu ((.core b, e) :: ts) r
/-- a call of these values -/
def enter (fu : Nat) (f : Val) (as : List Val) (ts : List (Tsk × Fr)) (r : List Val) : Res := match f with
  | .fn ps b e => if ps.length = as.length then burn fu b (.cons (kz ps as) e) ts r else .stop "stuck"
  | .num z => .stop "stuck"
  | .op n => match reckO (.op n) as with
    | some z => .go fu ts (.num z :: r)
    | none => .stop "stuck"
def stepC (kn : Kn) (fu : Nat) (e : Fr) (ts : List (Tsk × Fr)) (rs : List Val) : Core → Res
  | .num z => .go fu ts (.num z :: rs)
  | .free n => if n ∈ OPS then .go fu ts (.op n :: rs) else .stop "stuck"
  | .seen p => match look kn e p with
    | some v => .go fu ts (v :: rs)
    | none => .stop "stuck"
  | .fn ps b => .go fu ts (.fn ps b e :: rs)
  | .now c => .go fu ((.core c, e) :: ts) rs
  | .pick a b c => .go fu ((.core a, e) :: (.cho b c, e) :: ts) rs
  | .call f as => .go fu ((.core f, e) :: (as.list.map fun c => (Tsk.core c, e)) ++ (.ent as.list.length, e) :: ts) rs
def step (kn : Kn) (fu : Nat) (t : Tsk) (e : Fr) (ts : List (Tsk × Fr)) (rs : List Val) : Res := match t with
  | .core c => stepC kn fu e ts rs c
  | .cho b c => match rs with
    | .num z :: r => .go fu ((.core (if z = 0 then c else b), e) :: ts) r
    | _ => .stop "stuck"
  | .ent n => match rs.drop n with
    | f :: r => enter fu f (rs.take n).reverse ts r
    | [] => .stop "stuck"
/-- enough results for this task -/
def Safe (t : Tsk) (n : Nat) : Prop := match t with
  | .core _ => True
  | .cho _ _ => 1 ≤ n
  | .ent k => k + 1 ≤ n
mutual
def Core.sz : Core → Nat
  | .num _ => 1
  | .free _ => 1
  | .seen _ => 1
  | .fn _ b => b.sz + 1
  | .now c => c.sz + 1
  | .pick a b c => a.sz + b.sz + c.sz + 2
  | .call f as => f.sz + as.sz + 2
def Cores.sz : Cores → Nat
  | .nil => 0
  | .cons c r => c.sz + r.sz
end
def Tsk.sz : Tsk → Nat
  | .core c => c.sz
  | .cho a b => a.sz + b.sz + 1
  | .ent _ => 1

inductive Out where
  | val (v : Val) (fu : Nat)
  | stop (s : Str)
/-- it comes to this in so many steps -/
inductive Rn (kn : Kn) : Nat → Nat → List (Tsk × Fr) → List Val → Out → Prop where
  | done {fu : Nat} {v : Val} : Rn kn 0 fu [] [v] (.val v fu)
  | stop {k fu : Nat} {t : Tsk} {e : Fr} {ts : List (Tsk × Fr)} {rs : List Val} {s : Str} (hb : ts.length + rs.length + t.sz ≤ 10000000) (hs : Safe t rs.length) (h : step kn fu t e ts rs = .stop s) : Rn kn (k + 1) fu ((t, e) :: ts) rs (.stop s)
  | more {k fu fu' : Nat} {t : Tsk} {e : Fr} {ts ts' : List (Tsk × Fr)} {rs rs' : List Val} {o : Out} (hb : ts.length + rs.length + t.sz ≤ 10000000) (hs : Safe t rs.length) (h : step kn fu t e ts rs = .go fu' ts' rs') (r : Rn kn k fu' ts' rs' o) : Rn kn (k + 1) fu ((t, e) :: ts) rs o
theorem Rn.cut {kn : Kn} {k fu : Nat} {ts : List (Tsk × Fr)} {rs : List Val} {o : Out} (h : Rn kn k fu ts rs o) : (k = 0 ∧ ts = [] ∧ ∃ v, rs = [v] ∧ o = .val v fu) ∨
    ∃ k0 t0 e0 ts0, k = k0 + 1 ∧ ts = (t0, e0) :: ts0 ∧ ts0.length + rs.length + t0.sz ≤ 10000000 ∧ Safe t0 rs.length ∧ (∀ fu2 ts2 rs2, step kn fu t0 e0 ts0 rs = .go fu2 ts2 rs2 → Rn kn k0 fu2 ts2 rs2 o) ∧ (∀ z, step kn fu t0 e0 ts0 rs = .stop z → o = .stop z) := by
  cases h with
  | done => exact .inl ⟨rfl, rfl, _, rfl, rfl⟩
  | stop hb hs h =>
    refine .inr ⟨_, _, _, _, rfl, rfl, hb, hs, ?_, ?_⟩
    · intro _ _ _ e; rw [h] at e; cases e
    · intro z e; rw [h] at e; cases e; rfl
  | more hb hs h r =>
    refine .inr ⟨_, _, _, _, rfl, rfl, hb, hs, ?_, ?_⟩
    · intro _ _ _ e; rw [h] at e; cases e; exact r
    · intro z e; rw [h] at e; cases e
/-! ### on the heap -/
section
variable (H : Hp)
/-- one for one -/
def Al {α : Type} (R : α → V → Prop) (xs : List α) (vs : List V) : Prop := vs.length = xs.length ∧ ∀ (i : Nat) a, xs[i]? = some a → ∃ v, vs[i]? = some v ∧ R a v
def PIn (p : Int) (v : V) : Prop := ∃ q w, v = .ref q ∧ H q = some (.tup [.int p, w])
mutual
def CoreIn : Core → V → Prop
  | .num z, v => ∃ t, v = .ref t ∧ H t = some (.tup [.str "num", .int z])
  | .free n, v => ∃ t, v = .ref t ∧ H t = some (.tup [.str "free", .str n])
  | .seen p, v => ∃ t, v = .ref t ∧ H t = some (.tup [.str "seen", .int p])
  | .fn ps b, v => ∃ t u xs w, v = .ref t ∧ H t = some (.tup [.str "fn", .ref u, w]) ∧ H u = some (.tup xs) ∧ Al (PIn H) ps xs ∧ CoreIn b w
  | .now c, v => ∃ t w, v = .ref t ∧ H t = some (.tup [.str "now", w]) ∧ CoreIn c w
  | .pick a b c, v => ∃ t x y z, v = .ref t ∧ H t = some (.tup [.str "pick", x, y, z]) ∧ CoreIn a x ∧ CoreIn b y ∧ CoreIn c z
  | .call f as, v => ∃ t x u xs, v = .ref t ∧ H t = some (.tup [.str "call", x, .ref u]) ∧ H u = some (.tup xs) ∧ CoreIn f x ∧ CoresIn as xs
def CoresIn : Cores → List V → Prop
  | .nil, xs => xs = []
  | .cons c r, xs => ∃ v ys, xs = v :: ys ∧ CoreIn c v ∧ CoresIn r ys
end
variable (dk : Addr)
mutual
def ValIn : Val → V → Prop
  | .num z, v => ∃ t, v = .ref t ∧ H t = some (.tup [.str "num", .int z])
  | .op n, v => n ∈ OPS ∧ ∃ t, v = .ref t ∧ H t = some (.tup [.str "op", .str n])
  | .fn ps b e, v => ∃ t u xs w x, v = .ref t ∧ H t = some (.tup [.str "fn", .ref u, w, x]) ∧ H u = some (.tup xs) ∧ Al (PIn H) ps xs ∧ CoreIn H b w ∧ EnvIn e x
def EnvIn : Fr → V → Prop
  | .nil, v => v = .non
  | .cons d e, v => ∃ t a w kvl, v = .ref t ∧ H t = some (.tup [.ref a, w]) ∧ H a = some (.dK (dOf kvl)) ∧ a ≠ dk ∧ KvsIn d kvl ∧ EnvIn e w
def KvsIn : Kvs → List (Key × V) → Prop
  | .nil, l => l = []
  | .cons p v r, l => ∃ u l', l = (.inl (some p), u) :: l' ∧ ValIn v u ∧ KvsIn r l'
end
def TskIn : Tsk → V → Prop
  | .core c, v => CoreIn H c v
  | .cho a b, v => ∃ t x y, v = .ref t ∧ H t = some (.tup [.str "choose", x, y]) ∧ CoreIn H a x ∧ CoreIn H b y
  | .ent n, v => ∃ t, v = .ref t ∧ H t = some (.tup [.str "enter", .int (n : Int)])
def TaskIn (te : Tsk × Fr) (v : V) : Prop := ∃ p x f, v = .ref p ∧ H p = some (.tup [x, f]) ∧ TskIn H te.1 x ∧ EnvIn H dk te.2 f
end
section
variable {α : Type} {R R' : α → V → Prop} {xs : List α} {vs : List V}
theorem Al.nil : Al R [] [] := ⟨rfl, fun i a e => by simp at e⟩
theorem Al.mono (f : ∀ a v, R a v → R' a v) (h : Al R xs vs) : Al R' xs vs := ⟨h.1, fun i a e => by obtain ⟨v, e1, r⟩ := h.2 i a e; exact ⟨v, e1, f _ _ r⟩⟩
theorem Al.append {ys : List α} {us : List V} (h : Al R xs vs) (g : Al R ys us) : Al R (xs ++ ys) (vs ++ us) := by
  refine ⟨by rw [List.length_append, List.length_append, h.1, g.1], fun i b e => ?_⟩
  by_cases hi : i < xs.length
  · rw [List.getElem?_append_left hi] at e
    obtain ⟨u, e1, r1⟩ := h.2 i b e
    exact ⟨u, by rw [List.getElem?_append_left (by rw [h.1]; exact hi)]; exact e1, r1⟩
  · rw [List.getElem?_append_right (by lia)] at e
    obtain ⟨u, e1, r1⟩ := g.2 _ b e
    exact ⟨u, by rw [List.getElem?_append_right (by rw [h.1]; lia), h.1]; exact e1, r1⟩
theorem Al.one {a : α} {v : V} (r : R a v) : Al R [a] [v] := ⟨rfl, fun i b e => by
  cases i with
  | zero => simp at e; subst e; exact ⟨v, rfl, r⟩
  | succ i => simp at e⟩
theorem Al.snoc (h : Al R xs vs) {a : α} {v : V} (r : R a v) : Al R (xs ++ [a]) (vs ++ [v]) := h.append (Al.one r)
theorem Al.at (h : Al R xs vs) {i : Nat} {v : V} (hv : vs[i]? = some v) : ∃ a, xs[i]? = some a ∧ R a v := by
  have hi := (List.getElem?_eq_some_iff.mp hv).1
  have hx : i < xs.length := by rw [← h.1]; exact hi
  obtain ⟨u, eu, r⟩ := h.2 i xs[i] (List.getElem?_eq_getElem hx)
  rw [hv] at eu
  have : v = u := by injection eu
  exact ⟨xs[i], List.getElem?_eq_getElem hx, by rw [this]; exact r⟩
theorem Al.cons {a : α} {v : V} (r : R a v) (h : Al R xs vs) : Al R (a :: xs) (v :: vs) := (Al.one r).append h
theorem Al.uncons {a : α} (h : Al R (a :: xs) vs) : ∃ v vs', vs = v :: vs' ∧ R a v ∧ Al R xs vs' := by
  cases vs with
  | nil => exact absurd h.1 (by simp)
  | cons v vs' =>
    refine ⟨v, vs', rfl, ?_, by simpa using h.1, fun i b e => ?_⟩
    · obtain ⟨u, e1, r⟩ := h.2 0 a rfl
      simp at e1; subst e1; exact r
    · simpa using h.2 (i + 1) b (by simpa using e)
theorem Al.nil_of (h : Al R [] vs) : vs = [] := List.length_eq_zero_iff.mp h.1
theorem Al.cut {a : α} (h : Al R (xs ++ [a]) vs) : ∃ vs' v, vs = vs' ++ [v] ∧ Al R xs vs' ∧ R a v := by
  have hl := h.1
  rw [List.length_append, List.length_singleton] at hl
  have hne : vs ≠ [] := fun e => by rw [e] at hl; simp at hl
  refine ⟨vs.dropLast, vs.getLast hne, (List.dropLast_concat_getLast hne).symm, ⟨by rw [List.length_dropLast, hl]; lia, fun i b e => ?_⟩, ?_⟩
  · have hi := (List.getElem?_eq_some_iff.mp e).1
    obtain ⟨u, e1, r⟩ := h.2 i b (by rw [List.getElem?_append_left hi]; exact e)
    refine ⟨u, ?_, r⟩
    rw [List.getElem?_dropLast, if_pos (by lia)]; exact e1
  · obtain ⟨u, e1, r⟩ := h.2 xs.length a (by rw [List.getElem?_append_right (Nat.le_refl _), Nat.sub_self]; rfl)
    have e2 : vs.getLast hne = u := by
      rw [List.getLast_eq_getElem]
      have e3 : vs.length - 1 = xs.length := by lia
      have := List.getElem?_eq_some_iff.mp e1
      obtain ⟨h4, h5⟩ := this
      simp only [e3]; exact h5
    rw [e2]; exact r
theorem Al.cutN {ys : List α} (h : Al R (xs ++ ys) vs) : ∃ v1 v2, vs = v1 ++ v2 ∧ Al R xs v1 ∧ Al R ys v2 := by
  have hl := h.1
  rw [List.length_append] at hl
  refine ⟨vs.take xs.length, vs.drop xs.length, (List.take_append_drop _ _).symm, ⟨by rw [List.length_take]; lia, fun i b e => ?_⟩, ⟨by rw [List.length_drop]; lia, fun i b e => ?_⟩⟩
  · have hi := (List.getElem?_eq_some_iff.mp e).1
    obtain ⟨u, e1, r⟩ := h.2 i b (by rw [List.getElem?_append_left hi]; exact e)
    exact ⟨u, by rw [List.getElem?_take, if_pos hi]; exact e1, r⟩
  · obtain ⟨u, e1, r⟩ := h.2 (xs.length + i) b (by rw [List.getElem?_append_right (by lia)]; rw [show xs.length + i - xs.length = i by lia]; exact e)
    exact ⟨u, by rw [List.getElem?_drop]; exact e1, r⟩
end
theorem CoresIn.al {H : Hp} : ∀ {as : Cores} {xs : List V}, CoresIn H as xs → Al (CoreIn H) as.list xs
  | .nil, xs, h => by subst h; exact Al.nil
  | .cons c r, xs, h => by
    obtain ⟨v, ys, rfl, h1, h2⟩ := h
    exact Al.cons h1 h2.al
theorem CoresIn.of {H : Hp} : ∀ {cs : List Core} {xs : List V}, Al (CoreIn H) cs xs → CoresIn H (Cores.of cs) xs
  | [], xs, h => h.nil_of
  | c :: r, xs, h => by
    obtain ⟨v, vs', rfl, h1, h2⟩ := h.uncons
    exact ⟨v, vs', rfl, h1, CoresIn.of h2⟩
/-! ### what stays -/
def Tup (H H' : Hp) : Prop := ∀ e xs, H e = some (.tup xs) → H' e = some (.tup xs)
theorem Tup.refl (H : Hp) : Tup H H := fun _ _ q => q
theorem Tup.trans {H H' H'' : Hp} (a : Tup H H') (b : Tup H' H'') : Tup H H'' := fun e xs q => b e xs (a e xs q)
theorem Tup.of {H H' : Hp} (s : Same H H') : Tup H H' := fun e xs q => s _ _ q
/-- tuples and the frames' dicts -/
def Sty (dk : Addr) (H H' : Hp) : Prop := Tup H H' ∧ ∀ e kvs, e ≠ dk → H e = some (.dK kvs) → H' e = some (.dK kvs)
theorem Sty.trans {dk : Addr} {H H' H'' : Hp} (a : Sty dk H H') (b : Sty dk H' H'') : Sty dk H H'' := ⟨a.1.trans b.1, fun e k n q => b.2 e k n (a.2 e k n q)⟩
theorem Sty.of {dk : Addr} {H H' : Hp} (s : Same H H') : Sty dk H H' := ⟨Tup.of s, fun _ _ _ q => s _ _ q⟩
theorem PIn.tup {H H' : Hp} (s : Tup H H') {p : Int} {v : V} (h : PIn H p v) : PIn H' p v := by obtain ⟨q, w, e, r⟩ := h; exact ⟨q, w, e, s _ _ r⟩
mutual
theorem CoreIn.tup {H H' : Hp} (s : Tup H H') : ∀ {c : Core} {v : V}, CoreIn H c v → CoreIn H' c v
  | .num z, v, h => by obtain ⟨t, e, q⟩ := h; exact ⟨t, e, s _ _ q⟩
  | .free z, v, h => by obtain ⟨t, e, q⟩ := h; exact ⟨t, e, s _ _ q⟩
  | .seen z, v, h => by obtain ⟨t, e, q⟩ := h; exact ⟨t, e, s _ _ q⟩
  | .fn ps b, v, h => by obtain ⟨t, u, xs, w, e, q, q2, a, r⟩ := h; exact ⟨t, u, xs, w, e, s _ _ q, s _ _ q2, a.mono fun _ _ r => r.tup s, CoreIn.tup s r⟩
  | .now c, v, h => by obtain ⟨t, w, e, q, r⟩ := h; exact ⟨t, w, e, s _ _ q, CoreIn.tup s r⟩
  | .pick a b c, v, h => by obtain ⟨t, x, y, z, e, q, r1, r2, r3⟩ := h; exact ⟨t, x, y, z, e, s _ _ q, CoreIn.tup s r1, CoreIn.tup s r2, CoreIn.tup s r3⟩
  | .call f as, v, h => by obtain ⟨t, x, u, xs, e, q, q2, r1, r2⟩ := h; exact ⟨t, x, u, xs, e, s _ _ q, s _ _ q2, CoreIn.tup s r1, CoresIn.tup s r2⟩
theorem CoresIn.tup {H H' : Hp} (s : Tup H H') : ∀ {as : Cores} {xs : List V}, CoresIn H as xs → CoresIn H' as xs
  | .nil, xs, h => by exact h
  | .cons c r, xs, h => by obtain ⟨v, ys, e, r1, r2⟩ := h; exact ⟨v, ys, e, CoreIn.tup s r1, CoresIn.tup s r2⟩
end
mutual
theorem ValIn.sty {H H' : Hp} {dk : Addr} (s : Sty dk H H') : ∀ {a : Val} {v : V}, ValIn H dk a v → ValIn H' dk a v
  | .num z, v, h => by obtain ⟨t, e, q⟩ := h; exact ⟨t, e, s.1 _ _ q⟩
  | .op z, v, h => by obtain ⟨hn, t, e, q⟩ := h; exact ⟨hn, t, e, s.1 _ _ q⟩
  | .fn ps b e, v, h => by obtain ⟨t, u, xs, w, x, e1, q, q2, a, r, r2⟩ := h; exact ⟨t, u, xs, w, x, e1, s.1 _ _ q, s.1 _ _ q2, a.mono fun _ _ r => r.tup s.1, r.tup s.1, EnvIn.sty s r2⟩
theorem EnvIn.sty {H H' : Hp} {dk : Addr} (s : Sty dk H H') : ∀ {e : Fr} {v : V}, EnvIn H dk e v → EnvIn H' dk e v
  | .nil, v, h => by exact h
  | .cons d e, v, h => by obtain ⟨t, a, w, kvl, e1, q, q2, n, r, r2⟩ := h; exact ⟨t, a, w, kvl, e1, s.1 _ _ q, s.2 _ _ n q2, n, KvsIn.sty s r, EnvIn.sty s r2⟩
theorem KvsIn.sty {H H' : Hp} {dk : Addr} (s : Sty dk H H') : ∀ {d : Kvs} {l : List (Key × V)}, KvsIn H dk d l → KvsIn H' dk d l
  | .nil, l, h => by exact h
  | .cons p v r, l, h => by obtain ⟨u, l', e, r1, r2⟩ := h; exact ⟨u, l', e, ValIn.sty s r1, KvsIn.sty s r2⟩
end
theorem TskIn.tup {H H' : Hp} (s : Tup H H') {t : Tsk} {v : V} (h : TskIn H t v) : TskIn H' t v := by
  cases t with
  | core c => exact CoreIn.tup s h
  | cho a b => obtain ⟨t, x, y, e, q, r1, r2⟩ := h; exact ⟨t, x, y, e, s _ _ q, r1.tup s, r2.tup s⟩
  | ent n => obtain ⟨t, e, q⟩ := h; exact ⟨t, e, s _ _ q⟩
theorem TaskIn.sty {H H' : Hp} {dk : Addr} (s : Sty dk H H') {te : Tsk × Fr} {v : V} (h : TaskIn H dk te v) : TaskIn H' dk te v := by
  obtain ⟨p, x, f, e, q, r1, r2⟩ := h
  exact ⟨p, x, f, e, s.1 _ _ q, r1.tup s.1, r2.sty s⟩
theorem ValIn.ref {H : Hp} {dk : Addr} : ∀ {a : Val} {v : V}, ValIn H dk a v → ∃ t, v = .ref t
  | .num z, v, h => by obtain ⟨t, e, _⟩ := h; exact ⟨t, e⟩
  | .op z, v, h => by obtain ⟨_, t, e, _⟩ := h; exact ⟨t, e⟩
  | .fn ps b e, v, h => by obtain ⟨t, u, xs, w, x, e1, _⟩ := h; exact ⟨t, e1⟩
theorem ValIn.first {K : PySem.W.Frag} {H : Hp} {dk : Addr} : ∀ {c : Val} {v : V}, ValIn H dk c v → ∃ t xs, v = .ref t ∧ SqT K H t xs ∧ atI xs 0 = some (.str c.kind)
  | .num z, v, h => by obtain ⟨t, e, q⟩ := h; exact ⟨t, _, e, SqT.of q, rfl⟩
  | .op n, v, h => by obtain ⟨_, t, e, q⟩ := h; exact ⟨t, _, e, SqT.of q, rfl⟩
  | .fn ps b e, v, h => by obtain ⟨t, u, xs, w, x, e1, q, _⟩ := h; exact ⟨t, _, e1, SqT.of q, rfl⟩
/-! ### what is known -/
def KnR (H : Hp) (dk : Addr) (kn : Kn) (kvs : List (Key × V)) : Prop := ∀ p : Int, (kn p = none ∧ valV kvs (.inl (some p)) = none) ∨ ∃ a v, kn p = some a ∧ valV kvs (.inl (some p)) = some v ∧ ValIn H dk a v
theorem KnR.sty {H H' : Hp} {dk : Addr} {kn : Kn} {kvs : List (Key × V)} (h : KnR H dk kn kvs) (s : Sty dk H H') : KnR H' dk kn kvs := fun p => by
  rcases h p with h | ⟨a, v, e1, e2, r⟩
  · exact .inl h
  · exact .inr ⟨a, v, e1, e2, r.sty s⟩
theorem KnR.nil {H : Hp} {dk : Addr} : KnR H dk (fun _ => none) [] := fun p => .inl ⟨rfl, rfl⟩
def put (kn : Kn) (p : Int) (v : Val) : Kn := fun q => if q = p then some v else kn q
theorem KnR.put {H : Hp} {dk : Addr} {kn : Kn} {kvs : List (Key × V)} (h : KnR H dk kn kvs) (p : Int) {a : Val} {v : V} (r : ValIn H dk a v) : KnR H dk (MC.put kn p a) (putK kvs (.inl (some p)) v) := fun q => by
  rw [valV_put]
  unfold MC.put
  by_cases e : q = p
  · subst e
    rw [if_pos rfl, if_pos rfl]
    exact .inr ⟨a, v, rfl, rfl, r⟩
  · rw [if_neg e, if_neg (fun z => e (by injection z with z; injection z))]
    exact h q
theorem val_fold (k : Key) : ∀ (l b : List (Key × V)), valV (l.foldl (fun a p => putK a p.1 p.2) b) k = (match valV (l.foldl (fun a p => putK a p.1 p.2) []) k with | some x => some x | none => valV b k)
  | [], b => rfl
  | p :: r, b => by
    rw [List.foldl_cons, List.foldl_cons, val_fold k r, val_fold k r (putK [] p.1 p.2)]
    cases e : valV (r.foldl (fun a p => putK a p.1 p.2) []) k with
    | some x => rfl
    | none =>
      show valV (putK b p.1 p.2) k = _
      rw [valV_put]
      show _ = match valV (putK [] p.1 p.2) k with | some x => some x | none => valV b k
      rw [valV_put]
      by_cases hk : k = p.1
      · rw [if_pos hk, if_pos hk]
      · rw [if_neg hk, if_neg hk]; rfl
/-- what a frame's dict holds -/
theorem KvsIn.get {H : Hp} {dk : Addr} : ∀ {d : Kvs} {l : List (Key × V)}, KvsIn H dk d l → ∀ k : Int, (d.get k = none ∧ valV (dOf l) (.inl (some k)) = none) ∨ ∃ a v, d.get k = some a ∧ valV (dOf l) (.inl (some k)) = some v ∧ ValIn H dk a v
  | .nil, l, h => fun k => by subst h; exact .inl ⟨rfl, rfl⟩
  | .cons p v r, l, h => fun k => by
    obtain ⟨u, l', rfl, r1, r2⟩ := h
    have e0 : valV (dOf (((Sum.inl (some p) : Key), u) :: l')) (Sum.inl (some k)) = match valV (dOf l') (Sum.inl (some k)) with | some x => some x | none => valV (putK [] (Sum.inl (some p) : Key) u) (Sum.inl (some k)) := val_fold _ l' _
    rw [e0, valV_put]
    simp only [Kvs.get]
    rcases r2.get k with ⟨e1, e2⟩ | ⟨a, w, e1, e2, r3⟩
    · rw [e1, e2]
      by_cases hk : k = p
      · subst hk
        exact .inr ⟨v, u, if_pos rfl, if_pos rfl, r1⟩
      · exact .inl ⟨if_neg (Ne.symm hk), if_neg (fun z => hk (by injection z with z; injection z))⟩
    · rw [e1, e2]
      exact .inr ⟨a, w, rfl, rfl, r3⟩
theorem KvsIn.kz {H : Hp} {dk : Addr} : ∀ {ps : List Int} {as : List Val} {us : List V}, ps.length = as.length → Al (ValIn H dk) as us → KvsIn H dk (MC.kz ps as) ((ps.zip us).map fun pu => (.inl (some pu.1), pu.2))
  | [], as, us, hl, h => by
    have : as = [] := List.length_eq_zero_iff.mp hl.symm
    subst this
    rfl
  | p :: ps, [], us, hl, h => absurd hl (by simp)
  | p :: ps, a :: as, us, hl, h => by
    obtain ⟨v, vs', rfl, h1, h2⟩ := h.uncons
    exact ⟨v, _, rfl, h1, KvsIn.kz (by simpa using hl) h2⟩
/-! ### the machine -/
abbrev flds (fu : Nat) (dk tl rl : Addr) (en : V) : List (Str × V) := [("fuel", .int (fu : Int)), ("known", .ref dk), ("tasks", .ref tl), ("results", .ref rl), ("ending", en)]
structure MSt (C : Addr) (H : Hp) (m dx : Addr) (fu : Nat) (dk tl rl : Addr) (en : V) (kvs : List (Key × V)) (tv rv : List V) : Prop where
  mo : H m = some (.ins C dx (flds fu dk tl rl en))
  hd : H dk = some (.dK kvs)
  ht : H tl = some (.lst tv)
  hr : H rl = some (.lst rv)
  ne : tl ≠ rl
theorem kind_ne {H : Hp} {a c : Addr} {o u : HO} (h1 : H a = some o) (h2 : H c = some u) (h : o ≠ u) : a ≠ c := fun e => by
  rw [e, h2] at h1
  exact h (Option.some.inj h1).symm
section
variable {C : Addr} {H H' : Hp} {m dx : Addr} {fu : Nat} {dk tl rl : Addr} {en : V} {kvs : List (Key × V)} {tv rv : List V}
theorem MSt.push (h : MSt C H m dx fu dk tl rl en kvs tv rv) (rv' : List V) : MSt C (upd H rl (.lst rv')) m dx fu dk tl rl en kvs tv rv' :=
  ⟨by rw [upd_ne (kind_ne h.mo h.hr (fun z => nomatch z))]; exact h.mo, by rw [upd_ne (kind_ne h.hd h.hr (fun z => nomatch z))]; exact h.hd, by rw [upd_ne h.ne]; exact h.ht, upd_same, h.ne⟩
theorem MSt.task (h : MSt C H m dx fu dk tl rl en kvs tv rv) (tv' : List V) : MSt C (upd H tl (.lst tv')) m dx fu dk tl rl en kvs tv' rv :=
  ⟨by rw [upd_ne (kind_ne h.mo h.ht (fun z => nomatch z))]; exact h.mo, by rw [upd_ne (kind_ne h.hd h.ht (fun z => nomatch z))]; exact h.hd, upd_same, by rw [upd_ne (Ne.symm h.ne)]; exact h.hr, h.ne⟩
theorem MSt.stop (h : MSt C H m dx fu dk tl rl en kvs tv rv) (fu' : Nat) (en' : V) : MSt C (upd H m (.ins C dx (flds fu' dk tl rl en'))) m dx fu' dk tl rl en' kvs tv rv :=
  ⟨upd_same, by rw [upd_ne (kind_ne h.hd h.mo (fun z => nomatch z))]; exact h.hd, by rw [upd_ne (kind_ne h.ht h.mo (fun z => nomatch z))]; exact h.ht, by rw [upd_ne (kind_ne h.hr h.mo (fun z => nomatch z))]; exact h.hr, h.ne⟩
theorem MSt.same (h : MSt C H m dx fu dk tl rl en kvs tv rv) (s : Same H H') : MSt C H' m dx fu dk tl rl en kvs tv rv :=
  ⟨s _ _ h.mo, s _ _ h.hd, s _ _ h.ht, s _ _ h.hr, h.ne⟩
/-- all stays but the machine and its lists -/
def Kp (H H' : Hp) (m tl rl : Addr) : Prop := ∀ b o, b ≠ m → b ≠ tl → b ≠ rl → H b = some o → H' b = some o
theorem Kp.refl (H : Hp) (m tl rl : Addr) : Kp H H m tl rl := fun _ _ _ _ _ e => e
theorem Kp.trans {H H' H'' : Hp} {m tl rl : Addr} (a : Kp H H' m tl rl) (b : Kp H' H'' m tl rl) : Kp H H'' m tl rl := fun c o n0 n1 n2 e => b c o n0 n1 n2 (a c o n0 n1 n2 e)
theorem Kp.of {H H' : Hp} {m tl rl : Addr} (s : Same H H') : Kp H H' m tl rl := fun c o _ _ _ e => s _ _ e
theorem MSt.sty (h : MSt C H m dx fu dk tl rl en kvs tv rv) (k : Kp H H' m tl rl) : Sty dk H H' := ⟨fun e xs q =>
  k e _ (kind_ne q h.mo (fun z => nomatch z)) (kind_ne q h.ht (fun z => nomatch z)) (kind_ne q h.hr (fun z => nomatch z)) q, fun e kvs _ q =>
  k e _ (kind_ne q h.mo (fun z => nomatch z)) (kind_ne q h.ht (fun z => nomatch z)) (kind_ne q h.hr (fun z => nomatch z)) q⟩
theorem kp_push (rv' : List V) : Kp H (upd H rl (.lst rv')) m tl rl := fun b o _ _ n e => by rw [upd_ne n]; exact e
theorem kp_task (tv' : List V) : Kp H (upd H tl (.lst tv')) m tl rl := fun b o _ n _ e => by rw [upd_ne n]; exact e
theorem kp_stop (o' : HO) : Kp H (upd H m o') m tl rl := fun b o n _ _ e => by rw [upd_ne n]; exact e
/-- a task more -/
theorem MSt.more {H0 : Hp} (h : MSt C H m dx fu dk tl rl en kvs tv rv) {ts : List (Tsk × Fr)} (hT : Al (TaskIn H dk) ts.reverse tv) (hk : Kp H0 H m tl rl) {t : Addr} {x f : V} {tk : Tsk} {e : Fr} (ht : H t = none) (hx : TskIn H tk x) (hf : EnvIn H dk e f) :
    MSt C (upd (upd H t (.tup [x, f])) tl (.lst (tv ++ [.ref t]))) m dx fu dk tl rl en kvs (tv ++ [.ref t]) rv ∧ Al (TaskIn (upd (upd H t (.tup [x, f])) tl (.lst (tv ++ [.ref t]))) dk) ((tk, e) :: ts).reverse (tv ++ [.ref t]) ∧
      Sty dk H (upd (upd H t (.tup [x, f])) tl (.lst (tv ++ [.ref t]))) ∧ Kp H0 (upd (upd H t (.tup [x, f])) tl (.lst (tv ++ [.ref t]))) m tl rl := by
  have st := same_upd (o := .tup [x, f]) ht
  have hk5 : Kp H (upd (upd H t (.tup [x, f])) tl (.lst (tv ++ [.ref t]))) m tl rl := (Kp.of st).trans (kp_task _)
  have sy := h.sty hk5
  have ntl : t ≠ tl := fun z => by rw [z, h.ht] at ht; cases ht
  refine ⟨(h.same st).task _, ?_, sy, hk.trans hk5⟩
  rw [List.reverse_cons]
  exact (hT.mono fun a v r => r.sty sy).snoc ⟨t, x, f, rfl, by rw [upd_ne ntl, upd_same], hx.tup sy.1, hf.sty sy⟩
end
/-- ended by s -/
def Ended (C : Addr) (m dx : Addr) (dk tl rl : Addr) (kvs : List (Key × V)) (s : Str) (H H' : Hp) : Prop := ∃ t fu tv rv, H' t = some (.tup [.str s]) ∧ MSt C H' m dx fu dk tl rl (.ref t) kvs tv rv ∧ Kp H H' m tl rl
theorem Ended.from {C m dx : Addr} {dk tl rl : Addr} {kvs : List (Key × V)} {s : Str} {H H1 H' : Hp} (h : Ended C m dx dk tl rl kvs s H1 H') (k : Kp H H1 m tl rl) : Ended C m dx dk tl rl kvs s H H' := by
  obtain ⟨t, fu, tv, rv, e1, e2, e3⟩ := h
  exact ⟨t, fu, tv, rv, e1, e2, k.trans e3⟩
theorem ended_of {C m dx : Addr} {fu : Nat} {dk tl rl : Addr} {kvs : List (Key × V)} {tv rv : List V} {H : Hp} (h : MSt C H m dx fu dk tl rl .non kvs tv rv) {t : Addr} (ht : H t = none) (s : Str) : Ended C m dx dk tl rl kvs s H (upd (upd H t (.tup [.str s])) m (.ins C dx (flds fu dk tl rl (.ref t)))) := by
  have s2 := same_upd (o := .tup [.str s]) ht
  have nt2 : t ≠ m := fun e => by rw [e, h.mo] at ht; cases ht
  exact ⟨t, fu, tv, rv, by rw [upd_ne nt2, upd_same], (h.same s2).stop _ _, (Kp.of s2).trans (kp_stop _)⟩
theorem last_at {α : Type} (xs : List α) (x : α) : (xs ++ [x])[(xs ++ [x]).length - 1]? = some x := by
  rw [List.length_append, List.length_singleton, Nat.add_sub_cancel, List.getElem?_append_right (Nat.le_refl _), Nat.sub_self]; rfl
theorem putK_len (kvs : List (Key × V)) (k : Key) (v : V) : (putK kvs k v).length ≤ kvs.length + 1 := length_putK kvs k v
theorem in_ops (n : Str) : inV (.str n) [.str "add", .str "sub", .str "less"] = decide (n ∈ OPS) := by
  rw [Bool.eq_iff_iff, decide_eq_true_eq]
  unfold inV
  rw [List.any_eq_true]
  constructor
  · rintro ⟨y, hy, e⟩
    have : y = .str n := by
      simp only [List.mem_cons, List.not_mem_nil, or_false] at hy
      rcases hy with rfl | rfl | rfl
      · have h : (("add" : Str) == n) = true := e
        rw [eq_of_beq h]
      · have h : (("sub" : Str) == n) = true := e
        rw [eq_of_beq h]
      · have h : (("less" : Str) == n) = true := e
        rw [eq_of_beq h]
    rw [this] at hy
    simp only [List.mem_cons, List.not_mem_nil, or_false] at hy ⊢
    rcases hy with h | h | h
    · injection h with h; exact .inl h
    · injection h with h; exact .inr (.inl h)
    · injection h with h; exact .inr (.inr h)
  · intro h
    simp only [List.mem_cons, List.not_mem_nil, or_false] at h
    rcases h with rfl | rfl | rfl
    · exact ⟨.str "add", by simp, rfl⟩
    · exact ⟨.str "sub", by simp, rfl⟩
    · exact ⟨.str "less", by simp, rfl⟩
theorem dec_S {x y : Str} : decide (V.str x = V.str y) = decide (x = y) := by
  rw [decide_eq_decide]; exact ⟨fun e => by injection e, fun e => by rw [e]⟩
theorem bt_dict' : bootBuiltins "dict" = some (.type "dict") := by decide +kernel
/-- what is asked of the class and the names -/
structure MT (K : PySem.W.Frag) (mg : Str → Option Value) (C op : Addr) : Prop where
  cl : Cls K C
  nF : NoAttr K C "fuel"
  nK : NoAttr K C "known"
  nT : NoAttr K C "tasks"
  nR : NoAttr K C "results"
  nE : NoAttr K C "ending"
  mgC : mg "Machine" = some (.ref C)
  mgO : mg "OPERATIONS" = some (.ref op)
  opT : ∀ H, SqT K H op [.str "add", .str "sub", .str "less"]
  len : mg "len" = none
  list : mg "list" = none
  rev : mg "reversed" = none
  range : mg "range" = none
  isi : mg "isinstance" = none
  tuple : mg "tuple" = none
  int : mg "int" = none
  bool : mg "bool" = none
  max : mg "max" = none
  min : mg "min" = none
  sum : mg "sum" = none
  zip : mg "zip" = none
  dict : mg "dict" = none
/-! ### tests of words, told in few words -/
theorem ifv_ne {i : Nat} {k w : Str} {t u : TS} {D : Ends} {σ : St} {H : Hp} (hσ : σ[i]? = some (some (.str k))) (hn : decide (V.str k = V.str w) = false) (h : u D σ H) : tIfS (tTest (tOp rEq (tVar i) (tC (.str w)))) t u D σ H :=
  ⟨_, hσ, rfl, false, congrArg V.bl hn, iteF h⟩
theorem ifv_eq {i : Nat} {w : Str} {t u : TS} {D : Ends} {σ : St} {H : Hp} (hσ : σ[i]? = some (some (.str w))) (h : t D σ H) : tIfS (tTest (tOp rEq (tVar i) (tC (.str w)))) t u D σ H :=
  ⟨_, hσ, rfl, true, congrArg V.bl (decide_eq_true rfl), iteT h⟩
/-! ### items and rows -/
abbrev Item : Type := Option Int × Core
def rowVs : Out → List V
  | .stop s => [.str s]
  | .val (.num z) _ => [.str "num", .int z]
  | .val (.op n) _ => [.str "op", .str n]
  | .val (.fn ps _ _) _ => [.str "fn", .int (ps.length : Int)]
def RowIn (H : Hp) (o : Out) (v : V) : Prop := ∃ t, v = .ref t ∧ H t = some (.tup (rowVs o))
theorem RowIn.tup {H H' : Hp} {o : Out} {v : V} (h : RowIn H o v) (s : Tup H H') : RowIn H' o v := by
  obtain ⟨t, e, q⟩ := h
  exact ⟨t, e, s _ _ q⟩
def ItIn (H : Hp) (it : Item) (v : V) : Prop := match it.1 with
  | none => ∃ t x, v = .ref t ∧ H t = some (.tup [.str "show", x]) ∧ CoreIn H it.2 x
  | some p => ∃ t nm x, v = .ref t ∧ H t = some (.tup [.str "def", .int p, .str nm, x]) ∧ CoreIn H it.2 x
theorem ItIn.tup {H H' : Hp} (s : Tup H H') {it : Item} {v : V} (h : ItIn H it v) : ItIn H' it v := by
  obtain ⟨d, c⟩ := it
  cases d with
  | none => obtain ⟨t, x, e1, h, hx⟩ := h; exact ⟨t, x, e1, s _ _ h, hx.tup s⟩
  | some p => obtain ⟨t, nm, x, e1, h, hx⟩ := h; exact ⟨t, nm, x, e1, s _ _ h, hx.tup s⟩
theorem ItIn.last {K : PySem.W.Frag} {H : Hp} {it : Item} {v : V} (h : ItIn H it v) : ∃ t xs x, v = .ref t ∧ SqT K H t xs ∧ atI xs (-1) = some x ∧ CoreIn H it.2 x := by
  obtain ⟨d, c⟩ := it
  cases d with
  | none => obtain ⟨t, x, e1, h, hx⟩ := h; exact ⟨t, _, x, e1, SqT.of h, rfl, hx⟩
  | some p => obtain ⟨t, nm, x, e1, h, hx⟩ := h; exact ⟨t, _, x, e1, SqT.of h, rfl, hx⟩
/-- what a run tells -/
inductive RunI : Kn → Nat → List Item → List Out → Prop where
  | nil {kn : Kn} {fu : Nat} : RunI kn fu [] []
  | stop {kn : Kn} {k fu : Nat} {d : Option Int} {c : Core} {r : List Item} {s : Str} (h : Rn kn k fu [(.core c, .nil)] [] (.stop s)) : RunI kn fu ((d, c) :: r) [.stop s]
  | defs {kn : Kn} {k fu fu' : Nat} {p : Int} {c : Core} {v : Val} {r : List Item} {o : List Out} (h : Rn kn k fu [(.core c, .nil)] [] (.val v fu')) (g : RunI (MC.put kn p v) fu' r o) : RunI kn fu ((some p, c) :: r) o
  | shows {kn : Kn} {k fu fu' : Nat} {c : Core} {v : Val} {r : List Item} {o : List Out} (h : Rn kn k fu [(.core c, .nil)] [] (.val v fu')) (g : RunI kn fu' r o) : RunI kn fu ((none, c) :: r) (.val v 0 :: o)
theorem RunI.nil_of {kn : Kn} {fu : Nat} {o : List Out} (h : RunI kn fu [] o) : o = [] := by cases h; rfl
/-- behind the first item -/
def NextI (kn : Kn) (it : Item) (r : List Item) (rows : List Out) : Out → Prop
  | .stop s => rows = [.stop s]
  | .val v fu => match it.1 with
    | some p => RunI (MC.put kn p v) fu r rows
    | none => ∃ rest, rows = .val v 0 :: rest ∧ RunI kn fu r rest
theorem RunI.cut {kn : Kn} {fu : Nat} {it : Item} {r : List Item} {rows : List Out} (h : RunI kn fu (it :: r) rows) : ∃ k o, Rn kn k fu [(.core it.2, .nil)] [] o ∧ NextI kn it r rows o := by
  cases h with
  | stop h => exact ⟨_, _, h, rfl⟩
  | defs h g => exact ⟨_, _, h, g⟩
  | shows h g => exact ⟨_, _, h, _, rfl, g⟩
end MC

set_option Elab.async false
set_option linter.all false
set_option maxRecDepth 100000
set_option maxHeartbeats 4000000
/-! Readings that come to their values by themselves: names, ints in operators, tests, fields. Own work. -/
namespace L2
open PySem PySem.Spec PyProof.Rows
section
variable {X : Cx}
/-! what stands there, if it does -/
def vw : Option (Option V) → Hp → VK → Prop
  | some (some v), H, Q => Q v H
  | _, _, _ => False
def vq : Option (Option V) → (Addr → Prop) → Prop
  | some (some (.ref p)), f => f p
  | _, _ => False
def vr : V → (Addr → Prop) → Prop
  | .ref p, f => f p
  | _, _ => False
def ax : Option V → (V → Prop) → Prop
  | some v, f => f v
  | none, _ => False
def an : Option V → Prop → Prop
  | none, P => P
  | some _, _ => False
def ii : V → V → (Int → Int → Prop) → Prop
  | .int i, .int j, f => f i j
  | _, _, _ => False
def bk : V → (Bool → Prop) → Prop
  | .bl k, f => f k
  | _, _ => False
theorem ax_of {o : Option V} {v : V} {f : V → Prop} (e : o = some v) (h : f v) : ax o f := by subst e; exact h
theorem vw_ex {o : Option (Option V)} {H : Hp} {Q : VK} (h : vw o H Q) : ∃ v, o = some (some v) ∧ Q v H := by
  cases o with
  | none => exact h.elim
  | some o => cases o with
    | none => exact h.elim
    | some v => exact ⟨v, rfl, h⟩
theorem vr_ex {x : V} {f : Addr → Prop} (h : vr x f) : ∃ p, x = .ref p ∧ f p := by
  cases x with
  | ref p => exact ⟨p, rfl, h⟩
  | _ => exact False.elim h
theorem vq_ex {o : Option (Option V)} {f : Addr → Prop} (h : vq o f) : ∃ p, o = some (some (.ref p)) ∧ f p := by
  cases o with
  | none => exact h.elim
  | some o => cases o with
    | none => exact h.elim
    | some v => cases v with
      | ref p => exact ⟨p, rfl, h⟩
      | _ => exact False.elim h
theorem ax_ex {o : Option V} {f : V → Prop} (h : ax o f) : ∃ v, o = some v ∧ f v := by
  cases o with
  | none => exact h.elim
  | some v => exact ⟨v, rfl, h⟩
theorem an_ex {o : Option V} {P : Prop} (h : an o P) : o = none ∧ P := by
  cases o with
  | none => exact ⟨rfl, h⟩
  | some v => exact h.elim
theorem ii_ex {x y : V} {f : Int → Int → Prop} (h : ii x y f) : ∃ i j, x = .int i ∧ y = .int j ∧ f i j := by
  cases x with
  | int i => cases y with
    | int j => exact ⟨i, j, rfl, rfl, h⟩
    | _ => exact False.elim h
  | _ => cases y <;> exact False.elim h
/-! names -/
def tVw (i : Nat) : TE := fun σ H Q => vw σ[i]? H Q
theorem pw (i : Nat) {x : Str} {pos : Pos} (hN : X.N[i]? = some x := by rfl) (hv : Vis X.env.scope x := by first | exact Or.inl rfl | exact Or.inr (Or.inl rfl) | exact Or.inr (Or.inr rfl)) (hd : (x == ("__debug__" : Str)) = false := by decide)
    (hcd : (x == ("__classdict__" : Str)) = false := by decide) : PE X (.Name x pos) (tVw i) := (pv i hN hv hd hcd).le fun σ H Q h => vw_ex h
def tIwT (i : Nat) (n : Int) : TE := fun σ H Q => vq σ[i]? fun p => ∃ xs, H p = some (.tup xs) ∧ ax (atI xs n) fun v => Q v H
def tIwL (i : Nat) (n : Int) : TE := fun σ H Q => vq σ[i]? fun p => ∃ xs, H p = some (.lst xs) ∧ ax (atI xs n) fun v => Q v H
theorem pe_iwT (i : Nat) {x : Str} {n : Int} {j : Nat} {p1 p2 pos : Pos} (hN : X.N[i]? = some x := by rfl) (hv : Vis X.env.scope x := by first | exact Or.inl rfl | exact Or.inr (Or.inl rfl) | exact Or.inr (Or.inr rfl)) (hd : (x == ("__debug__" : Str)) = false := by decide)
    (hcd : (x == ("__classdict__" : Str)) = false := by decide) : PE X (.Subscript (.Name x p1) (.Constant (.int n) j p2) pos) (tIwT i n) := by
  refine (pe_ixT i hN hv hd hcd).le fun σ H Q h => ?_
  obtain ⟨p, e, xs, hx, h⟩ := vq_ex h
  obtain ⟨v, e2, q⟩ := ax_ex h
  exact ⟨p, xs, v, e, hx, e2, q⟩
theorem pe_iwL (i : Nat) {x : Str} {n : Int} {j : Nat} {p1 p2 pos : Pos} (hN : X.N[i]? = some x := by rfl) (hv : Vis X.env.scope x := by first | exact Or.inl rfl | exact Or.inr (Or.inl rfl) | exact Or.inr (Or.inr rfl)) (hd : (x == ("__debug__" : Str)) = false := by decide)
    (hcd : (x == ("__classdict__" : Str)) = false := by decide) : PE X (.Subscript (.Name x p1) (.Constant (.int n) j p2) pos) (tIwL i n) := by
  refine (pe_ixL i hN hv hd hcd).le fun σ H Q h => ?_
  obtain ⟨p, e, xs, hx, h⟩ := vq_ex h
  obtain ⟨v, e2, q⟩ := ax_ex h
  exact ⟨p, xs, v, e, hx, e2, q⟩
/-! operators of ints -/
theorem OpR.le {f : Value → Value → Sem Value} {r r' : R2} (h : OpR X f r) (g : ∀ x y H Q, r' x y H Q → r x y H Q) : OpR X f r' := fun pins s σ H x y v u Q I rx ry q => h pins s σ H x y v u Q I rx ry (g _ _ _ _ q)
def rW (C : Int → Int → Prop) (g : Int → Int → V) : R2 := fun x y H Q => ii x y fun i j => C i j ∧ Q (g i j) H
def rW0 (g : Int → Int → V) : R2 := fun x y H Q => ii x y fun i j => Q (g i j) H
theorem OpR.w {f : Value → Value → Sem Value} {C : Int → Int → Prop} {g : Int → Int → V} (h : OpR X f (rI C g)) : OpR X f (rW C g) := h.le fun x y H Q q => ii_ex q
theorem OpR.w0 {f : Value → Value → Sem Value} {g : Int → Int → V} (h : OpR X f (rI0 g)) : OpR X f (rW0 g) := h.le fun x y H Q q => ii_ex q
theorem op_addW : OpR X (binaryOp .Add) (rW0 fun i j => .int (i + j)) := op_add.w0
theorem op_subW : OpR X (binaryOp .Sub) (rW0 fun i j => .int (i - j)) := op_sub.w0
theorem op_mulW : OpR X (binaryOp .Mult) (rW CMul fun i j => .int (i * j)) := op_mul.w
theorem op_fdivW : OpR X (binaryOp .FloorDiv) (rW CDiv fun i j => .int (i / j)) := op_fdiv.w
theorem op_modW : OpR X (binaryOp .Mod) (rW (fun _ j => 0 < j) fun i j => .int (i % j)) := op_mod.w
theorem op_powW : OpR X (binaryOp .Pow) (rW CPow fun i j => .int (i ^ j.toNat)) := op_pow.w
theorem op_ltW : OpR X (compareOp .Lt) (rW0 fun i j => .bl (decide (i < j))) := op_lt.w0
theorem op_gtW : OpR X (compareOp .Gt) (rW0 fun i j => .bl (decide (j < i))) := op_gt.w0
theorem op_geW : OpR X (compareOp .GtE) (rW0 fun i j => .bl (decide (j ≤ i))) := op_ge.w0
/-! fields, methods of a name -/
def tFldW (i : Nat) (C : Addr) (f : Str) : TE := fun σ H Q => vq σ[i]? fun a => ∃ dx fs, H a = some (.ins C dx fs) ∧ ax (fs.lookup f) fun v => Q v H
theorem fldW {i : Nat} {C : Addr} {f : Str} {e : Expr} (cl : Cls X.K C) (na : NoAttr X.K C f) (h : PE X e (tFld X.K (tVar i) f)) : PE X e (tFldW i C f) := h.le fun σ H Q q => by
  obtain ⟨a, e1, dx, fs, hx, q⟩ := vq_ex q
  obtain ⟨v, e2, q⟩ := ax_ex q
  exact ⟨_, e1, a, C, dx, fs, v, rfl, hx, cl, na, e2, q⟩
def tMethW (i : Nat) (C : Addr) (m : Str) (sp : Sp) (dvs : List V) (E : XK) (t : TA) : TE := fun σ H Q => vq σ[i]? fun a => ∃ dx fs, H a = some (.ins C dx fs) ∧ an (fs.lookup m) (t σ H fun vs H2 => sp (.ref a :: (vs ++ dvs)) H2 Q E)
theorem methW {i : Nat} {C : Addr} {m : Str} {sp : Sp} {dvs : List V} {E : XK} {t : TA} {e : Expr} (h : PE X e (tMeth C m sp dvs E (tVar i) t)) : PE X e (tMethW i C m sp dvs E t) := h.le fun σ H Q q => by
  obtain ⟨a, e1, dx, fs, hx, q⟩ := vq_ex q
  obtain ⟨e2, q⟩ := an_ex q
  exact ⟨_, e1, a, dx, fs, rfl, hx, e2, q⟩
def one : List V → (V → Prop) → Prop
  | [y], f => f y
  | _, _ => False
theorem one_ex {ys : List V} {f : V → Prop} (h : one ys f) : ∃ y, ys = [y] ∧ f y := by
  cases ys with
  | nil => exact h.elim
  | cons y r => cases r with
    | nil => exact ⟨y, rfl, h⟩
    | cons z r => exact h.elim
def rAppW (x : V) (ys : List V) (H : Hp) (Q : VK) : Prop := vr x fun l => one ys fun y => ∃ xs, H l = some (.lst xs) ∧ xs.length < sizeLine ∧ Q .non (upd H l (.lst (xs ++ [y])))
theorem mt_appW : MtR X "list.append" rAppW := fun pins s σ H x xs v us Q I rx rv h => by
  obtain ⟨l, rfl, h⟩ := vr_ex h
  obtain ⟨y, rfl, zs, hz, hl, q⟩ := one_ex h
  exact mt_append pins s σ H (.ref l) [y] v us Q I rx rv ⟨l, zs, y, rfl, rfl, hz, hl, q⟩
/-! tests of words -/
end
end L2
namespace Z
open PySem L2
variable {X : Cx}
theorem pw (i : Nat) {x : Str} {pos : Pos} (hN : X.N[i]? = some x := by rfl) (hv : Vis X.env.scope x := by first | exact Or.inl rfl | exact Or.inr (Or.inl rfl) | exact Or.inr (Or.inr rfl)) (hd : (x == ("__debug__" : Str)) = false := by decide)
    (hcd : (x == ("__classdict__" : Str)) = false := by decide) : E X (.Name x pos) (tVw i) := ⟨L2.pw i hN hv hd hcd⟩
theorem pe_iwT (i : Nat) {x : Str} {n : Int} {j : Nat} {p1 p2 pos : Pos} (hN : X.N[i]? = some x := by rfl) (hv : Vis X.env.scope x := by first | exact Or.inl rfl | exact Or.inr (Or.inl rfl) | exact Or.inr (Or.inr rfl)) (hd : (x == ("__debug__" : Str)) = false := by decide)
    (hcd : (x == ("__classdict__" : Str)) = false := by decide) : E X (.Subscript (.Name x p1) (.Constant (.int n) j p2) pos) (tIwT i n) := ⟨L2.pe_iwT i hN hv hd hcd⟩
theorem pe_iwL (i : Nat) {x : Str} {n : Int} {j : Nat} {p1 p2 pos : Pos} (hN : X.N[i]? = some x := by rfl) (hv : Vis X.env.scope x := by first | exact Or.inl rfl | exact Or.inr (Or.inl rfl) | exact Or.inr (Or.inr rfl)) (hd : (x == ("__debug__" : Str)) = false := by decide)
    (hcd : (x == ("__classdict__" : Str)) = false := by decide) : E X (.Subscript (.Name x p1) (.Constant (.int n) j p2) pos) (tIwL i n) := ⟨L2.pe_iwL i hN hv hd hcd⟩
end Z

set_option Elab.async false
set_option linter.all false
set_option maxRecDepth 100000
set_option maxHeartbeats 4000000
/-! The machine's methods, one by one. Own work (made of a template for each statement that reaches them). -/
namespace K69
open PySem L2 Builtin.Str MC
def top (i : Nat) : Stmt := PySem.Challenge.pw_macrohouse_k69_whole_ahead.main.body.getD i (.Pass ⟨0, 0, 0, 0⟩)
abbrev sRun : Stmt := top 9
abbrev sAns : Stmt := top 10
abbrev sMInit : Stmt := inClass (top 11) 0
abbrev sValue : Stmt := inClass (top 11) 1
abbrev sWork : Stmt := inClass (top 11) 2
abbrev sFound : Stmt := inClass (top 11) 3
abbrev sChoose : Stmt := inClass (top 11) 4
abbrev sBegin : Stmt := inClass (top 11) 5
abbrev sEnd : Stmt := inClass (top 11) 6
abbrev sCallFn : Stmt := inClass (top 11) 7
abbrev sVIn : Stmt := top 12
abbrev sReck : Stmt := top 13
def spFA (C : Addr) : Sp := fun vs H Q _ => ∃ (m dx : Addr) (fu : Nat) (dk tl rl : Addr) (kvs : List (Key × V)) (tv rv : List V) (u : V), vs = [.ref m, u] ∧ MSt C H m dx fu dk tl rl .non kvs tv rv ∧ rv.length ≤ 10000000 ∧
  ((∃ t, u = .ref t ∧ Q .non (upd H rl (.lst (rv ++ [.ref t])))) ∨ (u = .non ∧ ∀ H', Ended C m dx dk tl rl kvs "stuck" H H' → Q .non H'))
def spVI : Sp := fun vs H Q _ => ∃ (p : Int) (f : V) (e : Fr) (dk : Addr) (kn : Kn) (kvs : List (Key × V)), vs = [f, .int p, .ref dk] ∧ H dk = some (.dK kvs) ∧ KnR H dk kn kvs ∧ EnvIn H dk e f ∧
  (∀ a v, look kn e p = some a → ValIn H dk a v → Q v H) ∧ (look kn e p = none → Q .non H)
def spCallFn (C : Addr) : Sp := fun vs H Q _ => ∃ (m dx : Addr) (fu : Nat) (dk tl rl : Addr) (kvs : List (Key × V)) (tv rv us : List V) (g : V) (l : Addr) (ps : List Int) (b : Core) (e : Fr) (as : List Val) (ts : List (Tsk × Fr)), vs = [.ref m, g, .ref l] ∧ MSt C H m dx fu dk tl rl .non kvs tv rv ∧
  ValIn H dk (.fn ps b e) g ∧ H l = some (.lst us) ∧ l ≠ tl ∧ l ≠ rl ∧ Al (ValIn H dk) as us ∧ ps.length = as.length ∧ ps.length ≤ 10000000 ∧ Al (TaskIn H dk) ts.reverse tv ∧ tv.length ≤ 10000000 ∧
  (fu = 0 → ∀ H', Ended C m dx dk tl rl kvs "on" H H' → Q .non H') ∧
  (∀ fu', fu = fu' + 1 → ∀ H' tv', MSt C H' m dx fu' dk tl rl .non kvs tv' rv → Al (TaskIn H' dk) ((Tsk.core b, Fr.cons (kz ps as) e) :: ts).reverse tv' → Kp H H' m tl rl → Q .non H')
def spReck : Sp := fun vs H Q _ => ∃ (g : V) (l : Addr) (dk : Addr) (f : Val) (as : List Val) (xs : List V), vs = [g, .ref l] ∧ ValIn H dk f g ∧ H l = some (.lst xs) ∧ Al (ValIn H dk) as xs ∧ xs.length ≤ 10000000 ∧
  (∀ z, reckO f as = some z → ∀ (H' : Hp) (t : Addr), Same H H' → H' t = some (.tup [.str "num", .int z]) → Q (.ref t) H') ∧ (reckO f as = none → ∀ H', Same H H' → Q .non H')
def spChoose (C : Addr) : Sp := fun vs H Q _ => ∃ (m dx : Addr) (fu : Nat) (dk tl rl : Addr) (kvs : List (Key × V)) (tv rv : List V) (c : Addr) (y z v f : V) (a : Val) (cy cz : Core) (e : Fr) (ts : List (Tsk × Fr)), vs = [.ref m, .ref c, f] ∧ MSt C H m dx fu dk tl rl .non kvs tv (rv ++ [v]) ∧ tv.length ≤ 10000000 ∧
  H c = some (.tup [.str "choose", y, z]) ∧ CoreIn H cy y ∧ CoreIn H cz z ∧ EnvIn H dk e f ∧ ValIn H dk a v ∧ Al (TaskIn H dk) ts.reverse tv ∧
  (∀ i, a = .num i → ∀ (H' : Hp) (tv' : List V), MSt C H' m dx fu dk tl rl .non kvs tv' rv → Al (TaskIn H' dk) ((Tsk.core (if i = 0 then cz else cy), e) :: ts).reverse tv' → Kp H H' m tl rl → Q .non H') ∧ (a.kind ≠ "num" → ∀ H', Ended C m dx dk tl rl kvs "stuck" H H' → Q .non H')
def spBegin (C : Addr) : Sp := fun vs H Q _ => ∃ (m dx : Addr) (fu : Nat) (dk tl rl : Addr) (kvs : List (Key × V)) (tv rv : List V) (c u : Addr) (x f : V) (xs : List V) (cf : Core) (cs : List Core) (e : Fr) (ts : List (Tsk × Fr)), vs = [.ref m, .ref c, f] ∧ MSt C H m dx fu dk tl rl .non kvs tv rv ∧ tv.length + xs.length ≤ 10000000 ∧
  H c = some (.tup [.str "call", x, .ref u]) ∧ H u = some (.tup xs) ∧ CoreIn H cf x ∧ Al (CoreIn H) cs xs ∧ EnvIn H dk e f ∧ Al (TaskIn H dk) ts.reverse tv ∧
  ∀ (H' : Hp) (tv' : List V), MSt C H' m dx fu dk tl rl .non kvs tv' rv → Al (TaskIn H' dk) ((Tsk.core cf, e) :: (cs.map fun c => (Tsk.core c, e)) ++ (Tsk.ent cs.length, e) :: ts).reverse tv' → Kp H H' m tl rl → Q .non H'
section
variable {P : Program} {w : World} {K : PySem.W.Frag} {mg : Str → Option Value} {base : Heap} {C op : Addr}
theorem scFound : FnScope ["self", "value"] ["self", "value"] (defScope sFound) := ⟨rfl, rfl, rfl, by decide +kernel, rfl, by decide +kernel, by decide +kernel⟩
theorem ok_fa {f : Addr} {fd : FuncData} (F : Fun K "found_as" "Machine.found_as" sFound f fd) (T : MT K mg C op) : FnOk P w K mg base CX0 1 f fd ["self", "value"] (spFA C) := by
  refine F.ok scFound (fun vs H Q E h => ?_) (fun cdv A outer s H vs Q E hr h => ?_)
  · obtain ⟨m, dx, fu, dk, tl, rl, kvs, tv, rv, u, rfl, _⟩ := h; rfl
  · obtain ⟨m, dx, fu, dk, tl, rl, kvs, tv, rv, u, rfl, h, hl, q⟩ := h
    have z1 : 1 ≤ sizeLine := by rw [sizeLine_eq]; decide
    refine ⟨_, pss_one (ps_if (pt_cmpR op_isN (pw 1) pe_non (nomark _)) (pss_one (ps_fld (pw 0) (pe_tup (pa_cons pe_str pa_nil)) rfl)) (pss_one (ps_expr (pe_bm PySem.F.plainAttrs_list PySem.F.slot_list_append PySem.F.type_list_append mt_appW (fldW T.cl T.nR (pe_fld (pv 0) rfl) : PE _ _ (tFldW 0 C ("results" : Str))) (pa_cons (pw 1) pa_nil))))), ?_⟩
    rcases q with ⟨t, rfl, q⟩ | ⟨rfl, q⟩
    · exact ⟨rfl, false, rfl, iteF ⟨dx, _, h.mo, .inl ⟨rfl, _, SqL.of h.hr⟩, _, h.hr, by rw [sizeLine_eq]; lia, q⟩⟩
    · refine ⟨rfl, true, rfl, iteT ⟨z1, fun t ht => ?_⟩⟩
      exact ⟨m, C, dx, _, rfl, same_upd ht _ _ h.mo, T.cl, T.nE, by show 5 < 1000; decide, q _ (ended_of h ht "stuck")⟩
abbrev NVI : List Str := ["frame", "place", "known", "around"]
theorem scVI : FnScope NVI ["frame", "place", "known"] (defScope sVIn) := ⟨rfl, rfl, rfl, by decide +kernel, rfl, by decide +kernel, by decide +kernel⟩
def dep : Fr → Nat
  | .nil => 0
  | .cons _ e => dep e + 1
/-- the walk's state -/
def ViW (f : V) (p : Int) (dk : Addr) (kn : Kn) (e : Fr) (H : Hp) (k : Nat) (σ : St) (H' : Hp) : Prop := H' = H ∧ ∃ e' f', σ = [some f, some (.int p), some (.ref dk), some f'] ∧ EnvIn H dk e' f' ∧ look kn e p = look kn e' p ∧ k = dep e'
def ViN (f : V) (p : Int) (dk : Addr) (kn : Kn) (e : Fr) (H : Hp) (n : Nat) (σ : St) (H' : Hp) : Prop := ∃ k', k' < n ∧ ViW f p dk kn e H k' σ H'
theorem ok_vi {f : Addr} {fd : FuncData} (F : Fun K "value_in" "value_in" sVIn f fd) : FnOk P w K mg base CX0 1 f fd ["frame", "place", "known"] spVI := by
  refine F.ok scVI (fun vs H Q E h => ?_) (fun cdv A outer s H vs Q E hr h => ?_)
  · obtain ⟨p, f, e, dk, kn, kvs, rfl, _⟩ := h; rfl
  · obtain ⟨p, f, e, dk, kn, kvs, rfl, hd, hkn, he, q1, q2⟩ := h
    have nd := scVI.nd
    have hu := hu_of hr
    refine ⟨_, pss_cons (ps_set (i := 3) nd rfl (Or.inl rfl) (pw 0))
      (pss_cons (ps_while PassesOwn.never (pt_cmpR op_notN (pw 3) pe_non (nomark _))
        (pss_cons (ps_if (pt_cmp (pc_din hu (pw 1) (pe_iwT 3))) (pss_one (ps_ret (pe_dget hu (pe_iwT 3) (pw 1) (fun _ _ => rfl)))) pss_nil)
        (pss_one (ps_set (i := 3) nd rfl (Or.inl rfl) (pe_iwT 3)))))
      (pss_one (ps_ret (pe_dget1 hu (pw 2) (pw 1) ⟨rfl, rfl, rfl, rfl⟩)))), ?_⟩
    refine ⟨ViW f p dk kn e H, ⟨dep e, rfl, e, f, rfl, he, rfl, rfl⟩, ?_⟩
    rintro k σ H' ⟨rfl, e', f', rfl, he', hlook, rfl⟩
    cases e' with
    | nil =>
      subst he'
      refine ⟨rfl, false, rfl, iteF ?_⟩
      refine ⟨dk, rfl, .inl ⟨_, .inl hd⟩, _, DGet.k (k := .inl (some p)) hd, ?_⟩
      have e0 : look kn .nil p = kn p := rfl
      rw [e0] at hlook
      rcases hkn p with ⟨e1, e2⟩ | ⟨a, v, e1, e2, r⟩
      · rw [e2]; exact q2 (by rw [hlook, e1])
      · rw [e2]; exact q1 a v (by rw [hlook, e1]) r
    | cons d e2 =>
      obtain ⟨t, a, wv, kvl, rfl, ht, ha, _, hkv, hew⟩ := he'
      refine ⟨rfl, true, rfl, iteT ⟨ViN f p dk kn e H' (dep (.cons d e2)), (fun σ' H'' h => h), ?_⟩⟩
      · have e0 : look kn (.cons d e2) p = (match d.get p with | some v => some v | none => look kn e2 p) := rfl
        refine ⟨_, ht, a, _, rfl, DGet.k (k := .inl (some p)) ha, ?_⟩
        rcases hkv.get p with ⟨e1, ev⟩ | ⟨x, v, e1, ev, r⟩
        · refine ⟨false, by rw [ev]; rfl, iteF ?_⟩
          exact ⟨_, ht, dep e2, Nat.lt_succ_self _, rfl, e2, wv, rfl, hew, by rw [hlook, e0, e1], rfl⟩
        · refine ⟨true, by rw [ev]; rfl, iteT ?_⟩
          have dg : DGet H' a (kV (.inl (some p))) (some v) := by rw [← ev]; exact DGet.k ha
          exact ⟨_, ht, a, v, rfl, dg, q1 x v (by rw [hlook, e0, e1]) r⟩
abbrev NCall : List Str := ["self", "value", "values", "handed"]
theorem scCallFn : FnScope NCall ["self", "value", "values"] (defScope sCallFn) := ⟨rfl, rfl, rfl, by decide +kernel, rfl, by decide +kernel, by decide +kernel⟩
theorem lcCall1 : LcS (defScope sCallFn).names [(".0", .local), ("param", .local), ("thing", .local)] NCall [false, false, false, false] := ⟨by decide +kernel, by decide +kernel, by decide +kernel, by decide +kernel, by decide +kernel, rfl⟩
theorem ndCall1 : (["self", "value", "values", "handed", "param", "thing"] : List Str).Nodup := by decide +kernel
theorem yes_if {σ : St} {H : Hp} {A B : Hp → Prop} (h : A H) : tYes σ H (fun b H3 => if b = true then A H3 else B H3) := by
  show if true = true then A H else B H
  rw [if_pos rfl]; exact h
theorem ok_callfn {f : Addr} {fd : FuncData} (F : Fun K "call_fn" "Machine.call_fn" sCallFn f fd) (T : MT K mg C op) : FnOk P w K mg base CX0 1 f fd ["self", "value", "values"] (spCallFn C) := by
  refine F.ok scCallFn (fun vs H Q E h => ?_) (fun cdv A outer s H vs Q E hr h => ?_)
  · obtain ⟨m, dx, fu, dk, tl, rl, kvs, tv, rv, us, g, l, ps, b, e, as, ts, rfl, _⟩ := h; rfl
  · obtain ⟨m, dx, fu, dk, tl, rl, kvs, tv, rv, us, g, l, ps, b, e, as, ts, rfl, h, hg, hl, nlt, nlr, hA, hpl, hpb, hT, htb, q0, q1⟩ := h
    have nd := scCallFn.nd
    have z1 : 1 ≤ sizeLine := by rw [sizeLine_eq]; decide
    have z2 : 2 ≤ sizeLine := by rw [sizeLine_eq]; decide
    refine ⟨_, pss_one (ps_if (pt_cmpR op_eq (fldW T.cl T.nF (pe_fld (pv 0) rfl) : PE _ _ (tFldW 0 C ("fuel" : Str))) pe_int (nomark _)) (pss_one (ps_fld (pw 0) (pe_tup (pa_cons pe_str pa_nil)) rfl))
      (pss_cons (ps_fld (pw 0) (pe_op op_subW (fldW T.cl T.nF (pe_fld (pv 0) rfl) : PE _ _ (tFldW 0 C ("fuel" : Str))) pe_int) rfl)
      (pss_cons (ps_set (i := 3) nd rfl (Or.inl rfl) (pe_callTy (call_dpairs rfl) (by rfl) T.dict bt_dict' (pa_cons (pe_lc (g := gTup K 2 (gCons (gName 4) (gCons (gName 5) gNil))) (ext := ["param", "thing"]) lcCall1 rfl (pi_zipT (by rfl) T.zip (pa_cons (pe_iwT 1) (pa_cons (pw 2) pa_nil)))
          ⟨fun _ _ _ _ _ => (pg_tup rfl (pgs_cons (pg_name (i := 4) ndCall1 rfl (Or.inl rfl) (.inr rfl)) (pgs_cons (pg_name (i := 5) ndCall1 rfl (Or.inl rfl) (.inr rfl)) pgs_nil))), fun _ _ _ _ _ => pts_nil, fun _ _ _ _ _ => (pe_tup (pa_cons (pe_iwT 4) (pa_cons (pw 5) pa_nil)))⟩) pa_nil)))
      (pss_one (ps_expr (pe_bm PySem.F.plainAttrs_list PySem.F.slot_list_append PySem.F.type_list_append mt_appW (fldW T.cl T.nT (pe_fld (pv 0) rfl) : PE _ _ (tFldW 0 C ("tasks" : Str))) (pa_cons (pe_tup (pa_cons (pe_iwT 1) (pa_cons (pe_tup (pa_cons (pw 3) (pa_cons (pe_iwT 1) pa_nil))) pa_nil))) pa_nil))))))), ?_⟩
    cases fu with
    | zero =>
      refine ⟨dx, _, h.mo, rfl, true, rfl, iteT ⟨z1, fun t ht => ?_⟩⟩
      exact ⟨m, C, dx, _, rfl, same_upd ht _ _ h.mo, T.cl, T.nE, by show 5 < 1000; decide, q0 rfl _ (ended_of h ht "on")⟩
    | succ fu =>
      refine ⟨dx, _, h.mo, rfl, false, congrArg V.bl (decide_eq_false fun z => by injection z with z; lia), iteF ?_⟩
      refine ⟨dx, _, h.mo, m, C, dx, _, rfl, h.mo, T.cl, T.nF, by show 5 < 1000; decide, ?_⟩
      have ef : putF "fuel" (.int (((fu + 1 : Nat) : Int) - 1)) (flds (fu + 1) dk tl rl .non) = flds fu dk tl rl .non := by
        have e1 : (((fu + 1 : Nat) : Int) - 1) = (fu : Int) := by lia
        rw [e1]; rfl
      rw [ef]
      have k1 : Kp H (upd H m (.ins C dx (flds fu dk tl rl .non))) m tl rl := kp_stop _
      have h1 := h.stop fu .non
      have sy1 := h.sty k1
      have hl1 : upd H m (.ins C dx (flds fu dk tl rl .non)) l = some (.lst us) := k1 _ _ (kind_ne hl h.mo (fun z => nomatch z)) nlt nlr hl
      generalize upd H m (.ins C dx (flds fu dk tl rl .non)) = H1 at k1 h1 sy1 hl1 ⊢
      have hg1 := hg.sty sy1
      have hA1 := hA.mono fun _ _ r => ValIn.sty sy1 r
      have hT1 := hT.mono fun _ _ r => TaskIn.sty sy1 r
      obtain ⟨t, u, xs, bw, x, rfl, ht, hu, hP, hB, hX⟩ := id hg1
      refine ⟨_, ht, u, l, rfl, ⟨_, SqT.of hu⟩, ⟨_, SqL.of hl1⟩, fun D hD => ?_⟩
      have hxu : xs.length = us.length := by rw [hP.1, hA1.1]; exact hpl
      refine lc_zipT (K := K) (a := u) (b := l) (xs := xs) (zs := us) hxu (fun k ys σ' H' => (∃ v4 v5, σ' = [none, none, none, none, v4, v5]) ∧ Same H1 H' ∧ H' D = some (.lst ys) ∧ ys.length = k ∧ ∀ (i : Nat) p v, i < k → ps[i]? = some p → us[i]? = some v → ∃ q, ys[i]? = some (.ref q) ∧ H' q = some (.tup [.int p, v]))
        ⟨⟨_, _, rfl⟩, same_upd hD, upd_same, rfl, fun i p v hi => absurd hi (Nat.not_lt_zero _)⟩ (fun k ys σ' H' _ hP' => ⟨SqT.of (hP'.2.1 _ _ hu), SqL.of (hP'.2.1 _ _ hl1)⟩) ?_ ?_
      · rintro k y z p2 ys σ' H' hy hz ⟨⟨v4, v5, rfl⟩, sH, hDy, hyl, hys⟩ hp2
        have hk : k < xs.length := (List.getElem?_eq_some_iff.mp hy).1
        obtain ⟨pp, epp, q, wv, rfl, hq⟩ := hP.at hy
        have sp := same_upd (o := .tup [.ref q, z]) hp2
        refine ⟨p2, _, rfl, SqT.of upd_same, rfl, _, _, rfl, _, _, rfl, rfl, ?_⟩
        refine yes_if ?_
        refine ⟨_, (sp _ _ (sH _ _ hq)), z2, fun t2 ht2 => ?_⟩
        have st := same_upd (o := .tup [.int pp, z]) ht2
        have s3 := sp.trans st
        have hDt : t2 ≠ D := fun e => by rw [e, sp _ _ hDy] at ht2; cases ht2
        refine ⟨s3 _ _ hDy, by rw [hyl, sizeLine_eq]; rw [hP.1] at hk; lia, Beh.of hk ⟨⟨_, _, rfl⟩, fun c o e => ?_, upd_same, by rw [List.length_append, List.length_singleton, hyl], fun i p v hi ep ev => ?_⟩⟩
        · rw [upd_ne (ne_of_none e hD)]
          exact s3 _ _ (sH _ _ e)
        · by_cases hik : i < k
          · obtain ⟨q', e1, e2⟩ := hys i p v hik ep ev
            have nq : q' ≠ D := fun e => by rw [e, hDy] at e2; cases e2
            exact ⟨q', by rw [List.getElem?_append_left (by lia)]; exact e1, by rw [upd_ne nq]; exact s3 _ _ e2⟩
          · have eik : i = k := by lia
            subst eik
            rw [epp] at ep
            cases ep
            rw [hz] at ev
            cases ev
            exact ⟨t2, by rw [List.getElem?_append_right (by lia), hyl, Nat.sub_self]; rfl, by rw [upd_ne hDt, upd_same]⟩
      · rintro ys σ' H2 ⟨_, s12, hDy, hyl, hys⟩
        have hkl : ((ps.zip us).map fun pu => ((Sum.inl (some pu.1) : Key), pu.2)).length = ys.length := by
          rw [List.length_map, List.length_zip, hyl, ← hP.1, ← hxu, Nat.min_self]
        refine ⟨D, ys, _, rfl, hDy, hkl.symm, fun i kv ekv => ?_, fun dd hdd => ?_⟩
        · rw [List.getElem?_map, Option.map_eq_some_iff] at ekv
          obtain ⟨pu, epu, rfl⟩ := ekv
          obtain ⟨e1, e2⟩ := List.getElem?_zip_eq_some.mp epu
          obtain ⟨q, e3, e4⟩ := hys i _ _ (by rw [← hyl]; have := (List.getElem?_eq_some_iff.mp e1).1; rw [hyl, hP.1]; exact this) e1 e2
          exact ⟨q, e3, e4⟩
        have sd := same_upd (o := .dK (dOf ((ps.zip us).map fun pu => ((Sum.inl (some pu.1) : Key), pu.2)))) hdd
        have hdd3 : upd H2 dd (.dK (dOf ((ps.zip us).map fun pu => ((Sum.inl (some pu.1) : Key), pu.2)))) dd = _ := upd_same
        generalize upd H2 dd (.dK (dOf ((ps.zip us).map fun pu => ((Sum.inl (some pu.1) : Key), pu.2)))) = H3 at sd hdd3 ⊢
        have s13 := s12.trans sd
        have h3 := h1.same s13
        have k3 : Kp H H3 m tl rl := k1.trans (Kp.of s13)
        have sy3 : Sty dk H1 H3 := Sty.of s13
        have ndk : dd ≠ dk := fun z => by rw [z, s12 _ _ h1.hd] at hdd; cases hdd
        refine ⟨dx, _, h3.mo, .inl ⟨rfl, _, SqL.of h3.ht⟩, _, (s13 _ _ ht), _, (s13 _ _ ht), z2, fun t4 ht4 => ?_⟩
        have s4 := same_upd (o := .tup [.ref dd, x]) ht4
        have ht44 : upd H3 t4 (.tup [.ref dd, x]) t4 = some (.tup [.ref dd, x]) := upd_same
        generalize upd H3 t4 (.tup [.ref dd, x]) = H4 at s4 ht44 ⊢
        have h4 := h3.same s4
        have k4 := k3.trans (Kp.of s4)
        have sy4 : Sty dk H1 H4 := sy3.trans (Sty.of s4)
        refine ⟨z2, fun t5 ht5 => ?_⟩
        refine ⟨_, same_upd ht5 _ _ h4.ht, by rw [sizeLine_eq]; lia, ?_⟩
        have hE : EnvIn H4 dk (.cons (kz ps as) e) (.ref t4) := by
          exact ⟨t4, dd, x, _, rfl, ht44, s4 _ _ hdd3, ndk, KvsIn.kz hpl (hA1.mono fun _ _ r => r.sty sy4), hX.sty sy4⟩
        obtain ⟨m1, m2, m3, m4⟩ := h4.more (hT1.mono fun _ _ r => r.sty sy4) k4 ht5 (tk := .core b) (hB.tup sy4.1) hE
        exact q1 fu rfl _ _ m1 m2 m4
end
end K69

set_option Elab.async false
set_option linter.all false
set_option maxRecDepth 100000
set_option maxHeartbeats 4000000
/-! The machine's methods: reckoned, choose, begin_call. Own work (made of a template). -/
namespace K69
open PySem L2 Builtin.Str MC
section
variable {P : Program} {w : World} {K : PySem.W.Frag} {mg : Str → Option Value} {base : Heap} {C op : Addr}
theorem scReck : FnScope ["operation", "values", "one", "two"] ["operation", "values"] (defScope sReck) := ⟨rfl, rfl, rfl, by decide +kernel, rfl, by decide +kernel, by decide +kernel⟩
theorem lcReck1 : LcS (defScope sReck).names [(".0", .local), ("value", .local)] ["operation", "values", "one", "two"] [false, false, false, false] := ⟨by decide +kernel, by decide +kernel, by decide +kernel, by decide +kernel, by decide +kernel, rfl⟩
theorem ndReck1 : (["operation", "values", "one", "two", "value"] : List Str).Nodup := by decide +kernel
theorem kinds_eq {as : List Val} (h : eqVs (as.map fun a => V.str a.kind) [.str "num", .str "num"] = true) : ∃ x y, as = [.num x, .num y] := by
  cases as with
  | nil => exact (Bool.false_ne_true h).elim
  | cons a r => cases r with
    | nil => cases a <;> exact (Bool.false_ne_true h).elim
    | cons b r2 => cases a with
      | num x => cases b with
        | num y => cases r2 with
          | nil => exact ⟨x, y, rfl⟩
          | cons c r3 => exact (Bool.false_ne_true h).elim
        | op _ => exact (Bool.false_ne_true h).elim
        | fn _ _ _ => exact (Bool.false_ne_true h).elim
      | op _ => exact (Bool.false_ne_true h).elim
      | fn _ _ _ => exact (Bool.false_ne_true h).elim
theorem kinds_flat : ∀ as : List Val, (as.map fun a => V.str a.kind).all flatV = true
  | [] => rfl
  | a :: r => kinds_flat r
theorem reck_no {n : Str} {as : List Val} (h : eqVs (as.map fun a => V.str a.kind) [.str "num", .str "num"] = false) : reckO (.op n) as = none := by
  cases as with
  | nil => rfl
  | cons a r => cases r with
    | nil => cases a <;> rfl
    | cons b r2 => cases r2 with
      | nil => cases a with
        | num x => cases b with
          | num y => exact absurd h (show ¬ (eqVs [V.str "num", V.str "num"] [.str "num", .str "num"] = false) from by decide)
          | op _ => rfl
          | fn _ _ _ => rfl
        | op _ => rfl
        | fn _ _ _ => rfl
      | cons c r3 => cases a with
        | num x => cases b <;> rfl
        | op _ => rfl
        | fn _ _ _ => rfl
theorem ok_reck {f : Addr} {fd : FuncData} (F : Fun K "reckoned" "reckoned" sReck f fd) : FnOk P w K mg base CX0 1 f fd ["operation", "values"] spReck := by
  refine F.ok scReck (fun vs H Q E h => ?_) (fun cdv A outer s H vs Q E hr h => ?_)
  · obtain ⟨g, l, dk, f', as, xs, rfl, _⟩ := h; rfl
  · obtain ⟨g, l, dk, f', as, xs, rfl, hg, hl, hA, hlen, q1, q2⟩ := h
    have nd := scReck.nd
    have hu := hu_of hr
    have z2 : 2 ≤ sizeLine := by rw [sizeLine_eq]; decide
    refine ⟨_, pss_cons (ps_if (PW.pt (pw_or (pt_cmpR op_ne (pe_iwT 0) pe_str (nomark _)) (pw_or1 (pt_cmpR (op_neL hu) (pe_lc (ext := ["value"]) lcReck1 rfl (pi_list (pw 1))
          ⟨fun _ _ _ _ _ => (pg_name (i := 4) ndReck1 rfl (Or.inl rfl) (.inr rfl)), fun _ _ _ _ _ => pts_nil, fun _ _ _ _ _ => (pe_ix (ix_tup : IxR _ (rIxT K)) (pw 4) pe_int (fun _ _ => rfl))⟩) (pe_lst (pa_cons pe_str (pa_cons pe_str pa_nil))) (nomark _)))))
      (pss_one (ps_ret pe_non))
      pss_nil)
      (pss_cons (ps_set (i := 2) nd rfl (Or.inl rfl) (pe_ix ix_tup (pe_iwL 1) pe_int (fun _ _ => rfl)))
      (pss_cons (ps_set (i := 3) nd rfl (Or.inl rfl) (pe_ix ix_tup (pe_iwL 1) pe_int (fun _ _ => rfl)))
      (pss_cons (ps_if (pt_cmpR op_eq (pe_iwT 0) pe_str (nomark _))
      (pss_one (ps_ret (pe_tup (pa_cons pe_str (pa_cons (pe_op op_addW (pw 2) (pw 3)) pa_nil)))))
      pss_nil)
      (pss_cons (ps_if (pt_cmpR op_eq (pe_iwT 0) pe_str (nomark _))
      (pss_one (ps_ret (pe_tup (pa_cons pe_str (pa_cons (pe_op op_subW (pw 2) (pw 3)) pa_nil)))))
      pss_nil)
      (pss_one (ps_ret (pe_tup (pa_cons pe_str (pa_cons (pe_ifExp (pt_cmpR op_ltW (pw 2) (pw 3) (nomark _)) pe_int pe_int) pa_nil))))))))), ?_⟩
    cases f' with
    | num z =>
      obtain ⟨o, rfl, ho⟩ := hg
      exact ⟨_, ho, rfl, true, rfl, iteT (iteT (q2 rfl H (Same.refl _)))⟩
    | fn ps b e =>
      obtain ⟨o, u, ys, bw, x, rfl, ho, _, _⟩ := hg
      exact ⟨_, ho, rfl, true, rfl, iteT (iteT (q2 rfl H (Same.refl _)))⟩
    | op n =>
      obtain ⟨hn, o, rfl, ho⟩ := hg
      refine ⟨_, ho, rfl, false, rfl, iteF ?_⟩
      refine ⟨l, rfl, ⟨_, SqL.of hl⟩, fun D hD => ?_⟩
      refine lc_lst (K := K) (a := l) (xs := xs) (fun k ys σ' H' => (∃ v, σ' = [none, none, none, none, v]) ∧ Same H H' ∧ H' D = some (.lst ys) ∧ ys = (as.take k).map fun a => V.str a.kind)
        ⟨⟨_, rfl⟩, same_upd hD, upd_same, rfl⟩ (fun k ys σ' H' _ hP => SqL.of (hP.2.1 _ _ hl)) ?_ ?_
      · rintro k x ys σ' H' hx ⟨⟨v, rfl⟩, sH, hDy, hys⟩
        unfold gName
        refine yes_if ?_
        have hk := (List.getElem?_eq_some_iff.mp hx).1
        obtain ⟨a, ea, hav⟩ := hA.at hx
        obtain ⟨t, zs, rfl, hsq, hat⟩ := (hav.sty (Sty.of sH)).first (K := K)
        refine ⟨t, zs, _, _, rfl, rfl, hsq, hat, hDy, by rw [hys, List.length_map, List.length_take, sizeLine_eq]; lia, Beh.of hk ⟨⟨_, rfl⟩, fun c o e => ?_, upd_same, ?_⟩⟩
        · rw [upd_ne (ne_of_none e hD)]; exact sH _ _ e
        · rw [List.take_succ, ea, List.map_append, hys]; rfl
      · rintro ys σ' H1 ⟨_, s1, hD1, hys⟩
        rw [hA.1, List.take_length] at hys
        subst hys
        refine ⟨z2, fun p hp => ?_⟩
        have s2 := same_upd (o := .lst [.str "num", .str "num"]) hp
        have s12 := s1.trans s2
        refine ⟨D, p, _, _, rfl, rfl, SqL.of (s2 _ _ hD1), SqL.of upd_same, kinds_flat as, rfl, ?_⟩
        rw [if_pos rfl]
        cases ek : eqVs (as.map fun a => V.str a.kind) [.str "num", .str "num"] with
        | false =>
          exact ⟨true, rfl, iteT (q2 (reck_no ek) _ s12)⟩
        | true =>
          obtain ⟨x, y, rfl⟩ := kinds_eq ek
          obtain ⟨v1, r1, rfl, hv1, hr1⟩ := hA.uncons
          obtain ⟨a, rfl, ha⟩ := hv1
          obtain ⟨v2, r2, rfl, hv2, hr2⟩ := hr1.uncons
          obtain ⟨b, rfl, hb⟩ := hv2
          have er := hr2.nil_of
          subst er
          refine ⟨false, rfl, iteF ?_⟩
          refine ⟨_, (s12 _ _ hl), ax_of (atI_nat (j := 0) rfl) ⟨a, _, _, _, rfl, rfl, SqT.of (s12 _ _ ha), rfl, ?_⟩⟩
          refine ⟨_, (s12 _ _ hl), ax_of (atI_nat (j := 1) rfl) ⟨b, _, _, _, rfl, rfl, SqT.of (s12 _ _ hb), rfl, ?_⟩⟩
          have q := q1 (cal n x y) rfl
          unfold cal at q
          refine ⟨_, (s12 _ _ ho), rfl, decide (n = "add"), by rw [dec_S], ite2 (fun c1 => ?_) (fun c1 => ?_)⟩
          · rw [if_pos (of_decide_eq_true c1)] at q
            exact ⟨z2, fun t ht => q _ t (s12.trans (same_upd ht)) upd_same⟩
          · rw [if_neg (fun z => c1 (decide_eq_true z))] at q
            refine ⟨_, (s12 _ _ ho), rfl, decide (n = "sub"), by rw [dec_S], ite2 (fun c2 => ?_) (fun c2 => ?_)⟩
            · rw [if_pos (of_decide_eq_true c2)] at q
              exact ⟨z2, fun t ht => q _ t (s12.trans (same_upd ht)) upd_same⟩
            · rw [if_neg (fun z => c2 (decide_eq_true z))] at q
              refine ⟨_, rfl, ite2 (fun c3 => ?_) (fun c3 => ?_)⟩
              · rw [if_pos (of_decide_eq_true c3)] at q
                exact ⟨z2, fun t ht => q _ t (s12.trans (same_upd ht)) upd_same⟩
              · rw [if_neg (fun z => c3 (decide_eq_true z))] at q
                exact ⟨z2, fun t ht => q _ t (s12.trans (same_upd ht)) upd_same⟩
theorem scChoose : FnScope ["self", "core", "frame", "value"] ["self", "core", "frame"] (defScope sChoose) := ⟨rfl, rfl, rfl, by decide +kernel, rfl, by decide +kernel, by decide +kernel⟩
theorem ok_choose {f : Addr} {fd : FuncData} (F : Fun K "choose" "Machine.choose" sChoose f fd) (T : MT K mg C op) : FnOk P w K mg base CX0 1 f fd ["self", "core", "frame"] (spChoose C) := by
  refine F.ok scChoose (fun vs H Q E h => ?_) (fun cdv A outer s H vs Q E hr h => ?_)
  · obtain ⟨m, dx, fu, dk, tl, rl, kvs, tv, rv, c, y, z, v, f, a, cy, cz, e, ts, rfl, _⟩ := h; rfl
  · obtain ⟨m, dx, fu, dk, tl, rl, kvs, tv, rv, c, y, z, v, f, a, cy, cz, e, ts, rfl, hM, htl, hc, hy, hz, he, ha, hT, q1, q2⟩ := h
    have nd := scChoose.nd
    have z1 : 1 ≤ sizeLine := by rw [sizeLine_eq]; decide
    have z2 : 2 ≤ sizeLine := by rw [sizeLine_eq]; decide
    refine ⟨_, pss_cons (ps_set (i := 3) nd rfl (Or.inl rfl) (pe_bm0 PySem.F.plainAttrs_list PySem.F.slot_list_pop PySem.F.type_list_pop mt_pop (fldW T.cl T.nR (pe_fld (pv 0) rfl))))
      (pss_one (ps_if (pt_cmpR op_eq (pe_iwT 3) pe_str (nomark _))
        (pss_one (ps_expr (pe_bm PySem.F.plainAttrs_list PySem.F.slot_list_append PySem.F.type_list_append mt_appW (fldW T.cl T.nT (pe_fld (pv 0) rfl)) (pa_cons (pe_tup (pa_cons (pe_ifExp (pt_cmpR op_eq (pe_iwT 3) pe_int (nomark _)) (pe_iwT 1) (pe_iwT 1)) (pa_cons (pw 2) pa_nil))) pa_nil))))
        (pss_one (ps_fld (pw 0) (pe_tup (pa_cons pe_str pa_nil)) rfl)))), ?_⟩
    refine ⟨dx, _, hM.mo, .inl ⟨rfl, _, SqL.of hM.hr⟩, rl, _, v, rfl, rfl, hM.hr, last_at rv v, ?_⟩
    rw [List.dropLast_concat]
    have hk1 : Kp H (upd H rl (.lst rv)) m tl rl := kp_push rv
    have hM1 := hM.push rv
    have sy1 := hM.sty hk1
    have hc1 := sy1.1 _ _ hc
    have ha1 := ha.sty sy1
    have hT1 := hT.mono fun _ _ r => TaskIn.sty sy1 r
    generalize upd H rl (.lst rv) = H1 at hk1 hM1 sy1 hc1 ha1 hT1 ⊢
    have bad : a.kind ≠ "num" → ∀ t', H1 t' = none → Q .non (upd (upd H1 t' (.tup [.str "stuck"])) m (.ins C dx (flds fu dk tl rl (.ref t')))) := fun hk t' ht' => q2 hk _ ((ended_of hM1 ht' "stuck").from hk1)
    cases a with
    | num i =>
      obtain ⟨t, rfl, ht⟩ := ha1
      refine ⟨_, ht, rfl, true, rfl, iteT ?_⟩
      have fin : ∀ x cx, (if i = 0 then cz else cy) = cx → CoreIn H1 cx x → ∀ t2, H1 t2 = none → ∃ (xs : List V), upd H1 t2 (.tup [x, f]) tl = some (.lst xs) ∧ xs.length < sizeLine ∧ Q .non (upd (upd H1 t2 (.tup [x, f])) tl (.lst (xs ++ [.ref t2]))) := fun x cx ex hx t2 ht2 => by
        refine ⟨tv, same_upd ht2 _ _ hM1.ht, by rw [sizeLine_eq]; lia, ?_⟩
        obtain ⟨m1, m2, m3, m4⟩ := hM1.more hT1 hk1 ht2 (tk := .core cx) hx (he.sty sy1)
        exact q1 i rfl _ _ m1 (by rw [ex]; exact m2) m4
      refine ⟨dx, _, hM1.mo, .inl ⟨rfl, _, SqL.of hM1.ht⟩, _, ht, rfl, decide (i = 0), by rw [dec_int]; exact (decide_eq_decide.mpr Iff.rfl).symm ▸ rfl, ite2 (fun c1 => ?_) (fun c1 => ?_)⟩
      · exact ⟨_, hc1, z2, fin z cz (if_pos (of_decide_eq_true c1)) (hz.tup sy1.1)⟩
      · exact ⟨_, hc1, z2, fin y cy (if_neg (fun e => c1 (decide_eq_true e))) (hy.tup sy1.1)⟩
    | op n =>
      obtain ⟨hn, t, rfl, ht⟩ := ha1
      refine ⟨_, ht, rfl, false, rfl, iteF ⟨z1, fun t' ht' => ?_⟩⟩
      exact ⟨m, C, dx, _, rfl, same_upd ht' _ _ hM1.mo, T.cl, T.nE, by show 5 < 1000; decide, bad (by show ("op" : Str) ≠ "num"; decide) t' ht'⟩
    | fn ps b e2 =>
      obtain ⟨t, u, xs, bw, x, rfl, ht, _, _⟩ := ha1
      refine ⟨_, ht, rfl, false, rfl, iteF ⟨z1, fun t' ht' => ?_⟩⟩
      exact ⟨m, C, dx, _, rfl, same_upd ht' _ _ hM1.mo, T.cl, T.nE, by show 5 < 1000; decide, bad (by show ("fn" : Str) ≠ "num"; decide) t' ht'⟩
abbrev NBegin : List Str := ["self", "core", "frame", "part"]
theorem scBegin : FnScope NBegin ["self", "core", "frame"] (defScope sBegin) := ⟨rfl, rfl, rfl, by decide +kernel, rfl, by decide +kernel, by decide +kernel⟩
theorem ok_begin {f : Addr} {fd : FuncData} (F : Fun K "begin_call" "Machine.begin_call" sBegin f fd) (T : MT K mg C op) : FnOk P w K mg base CX0 1 f fd ["self", "core", "frame"] (spBegin C) := by
  refine F.ok scBegin (fun vs H Q E h => ?_) (fun cdv A outer s H vs Q E hr h => ?_)
  · obtain ⟨m, dx, fu, dk, tl, rl, kvs, tv, rv, c, u, x, f, xs, cf, cs, e, ts, rfl, _⟩ := h; rfl
  · obtain ⟨m, dx, fu, dk, tl, rl, kvs, tv, rv, c, u, x, f, xs, cf, cs, e, ts, rfl, h, hl, hc, hu, hcf, hcs, he, hT, q⟩ := h
    have nd := scBegin.nd
    have z2 : 2 ≤ sizeLine := by rw [sizeLine_eq]; decide
    refine ⟨_, pss_cons (ps_expr (pe_bm PySem.F.plainAttrs_list PySem.F.slot_list_append PySem.F.type_list_append mt_appW (fldW T.cl T.nT (pe_fld (pv 0) rfl)) (pa_cons (pe_tup (pa_cons (pe_tup (pa_cons pe_str (pa_cons (pe_callB call_len_seq (by rfl) T.len bt_len (pa_cons (pe_iwT 1) pa_nil)) pa_nil))) (pa_cons (pw 2) pa_nil))) pa_nil)))
      (pss_cons (ps_for PassesOwn.never rfl (pi_rvs (by rfl) T.rev (pe_iwT 1)) (pg_name (i := 3) nd rfl (Or.inl rfl))
        (pss_one (ps_expr (pe_bm PySem.F.plainAttrs_list PySem.F.slot_list_append PySem.F.type_list_append mt_appW (fldW T.cl T.nT (pe_fld (pv 0) rfl)) (pa_cons (pe_tup (pa_cons (pw 3) (pa_cons (pw 2) pa_nil))) pa_nil)))))
      (pss_one (ps_expr (pe_bm PySem.F.plainAttrs_list PySem.F.slot_list_append PySem.F.type_list_append mt_appW (fldW T.cl T.nT (pe_fld (pv 0) rfl)) (pa_cons (pe_tup (pa_cons (pe_iwT 1) (pa_cons (pw 2) pa_nil))) pa_nil))))), ?_⟩
    refine ⟨dx, _, h.mo, .inl ⟨rfl, _, SqL.of h.ht⟩, _, hc, u, _, rfl, .inr (SqT.of hu), z2, fun en hen => ?_⟩
    have s1 := same_upd (o := .tup [.str "enter", .int (xs.length : Int)]) hen
    have fe1 : TskIn (upd H en (.tup [.str "enter", .int (xs.length : Int)])) (.ent cs.length) (.ref en) := ⟨en, rfl, by rw [upd_same, hcs.1]⟩
    have hM1 := h.same s1
    generalize upd H en (.tup [.str "enter", .int (xs.length : Int)]) = H1 at s1 fe1 hM1 ⊢
    have sy1 : Sty dk H H1 := Sty.of s1
    refine ⟨z2, fun t0 ht0 => ?_⟩
    refine ⟨_, same_upd ht0 _ _ hM1.ht, by rw [sizeLine_eq]; lia, ?_⟩
    obtain ⟨m1, m2, m3, m4⟩ := hM1.more (hT.mono fun _ _ r => r.sty sy1) (Kp.of s1) ht0 fe1 (he.sty sy1)
    generalize upd (upd H1 t0 (.tup [.ref en, f])) tl (.lst (tv ++ [.ref t0])) = H3 at m1 m2 m3 m4 ⊢
    have sy3 := h.sty m4
    refine ⟨_, (sy3.1 _ _ hc), u, _, rfl, SqT.of (sy3.1 _ _ hu), for_rvs (K := K) (a := u) (xs := xs) (fun i σ H5 => (∃ v, σ = [some (.ref m), some (.ref c), some f, v]) ∧ ∃ tv5, tv5.length = tv.length + 1 + i ∧ MSt C H5 m dx fu dk tl rl .non kvs tv5 rv ∧ Al (TaskIn H5 dk) ((cs.drop (cs.length - i)).map (fun c => (Tsk.core c, e)) ++ (Tsk.ent cs.length, e) :: ts).reverse tv5 ∧ Kp H H5 m tl rl)
      ⟨⟨_, rfl⟩, _, by rw [List.length_append]; rfl, m1, by rw [Nat.sub_zero, List.drop_length]; exact m2, m4⟩ (fun i σ H5 _ hP => by obtain ⟨_, tv5, _, _, _, hk⟩ := hP; exact SqT.of ((h.sty hk).1 _ _ hu)) ?_ ?_⟩
    · rintro i y σ H5 hx hi ⟨⟨v, rfl⟩, tv5, hnl, hM5, hal, hk⟩
      have sy5 := h.sty hk
      refine ⟨dx, _, hM5.mo, .inl ⟨rfl, _, SqL.of hM5.ht⟩, z2, fun t ht => ?_⟩
      obtain ⟨cy, ecy, hcy⟩ := hcs.at hx
      refine ⟨_, same_upd ht _ _ hM5.ht, by rw [hnl, sizeLine_eq]; lia, ⟨_, rfl⟩, tv5 ++ [.ref t], by rw [List.length_append, List.length_singleton, hnl]; lia, ?_⟩
      obtain ⟨n1, n2, n3, n4⟩ := hM5.more hal hk ht (tk := .core cy) (hcy.tup sy5.1) (he.sty sy5)
      refine ⟨n1, ?_, n4⟩
      have hil : i < cs.length := by rw [← hcs.1]; exact hi
      have ed : cs.drop (cs.length - (i + 1)) = cy :: cs.drop (cs.length - i) := by
        have h2 : cs.length - (i + 1) < cs.length := by lia
        rw [List.drop_eq_getElem_cons h2, show cs.length - (i + 1) + 1 = cs.length - i by lia]
        have e3 : cs[cs.length - (i + 1)]? = some cy := by
          rw [← hcs.1, show xs.length - (i + 1) = xs.length - 1 - i by lia]; exact ecy
        rw [List.getElem?_eq_getElem h2] at e3
        rw [Option.some.inj e3]
      rw [ed, List.map_cons, List.cons_append]
      exact n2
    · rintro σ H5 ⟨⟨v, rfl⟩, tv5, hnl, hM5, hal, hk⟩
      have sy5 := h.sty hk
      refine ⟨dx, _, hM5.mo, .inl ⟨rfl, _, SqL.of hM5.ht⟩, _, (sy5.1 _ _ hc), z2, fun t ht => ?_⟩
      refine ⟨_, same_upd ht _ _ hM5.ht, by rw [hnl, sizeLine_eq]; lia, ?_⟩
      obtain ⟨n1, n2, n3, n4⟩ := hM5.more hal hk ht (tk := .core cf) (hcf.tup sy5.1) (he.sty sy5)
      rw [hcs.1, Nat.sub_self, List.drop_zero] at n2
      exact q _ _ n1 n2 n4
end
end K69

set_option Elab.async false
set_option linter.all false
set_option maxRecDepth 100000
set_option maxHeartbeats 4000000
/-! The machine's methods: end_call, work, value_of. Own work (made of a template). -/
namespace K69
open PySem L2 Builtin.Str MC
/-- how a step ends -/
def Stepped (C : Addr) (m dx dk tl rl : Addr) (kvs : List (Key × V)) (H : Hp) (Q : Hp → Prop) (o : Res) : Prop := match o with
  | .go fu ts rs => ∀ H' tv rv, MSt C H' m dx fu dk tl rl .non kvs tv rv → Al (TaskIn H' dk) ts.reverse tv → Al (ValIn H' dk) rs.reverse rv → Kp H H' m tl rl → Q H'
  | .stop s => ∀ H', Ended C m dx dk tl rl kvs s H H' → Q H'
def spEnd (C : Addr) : Sp := fun vs H Q _ => ∃ (m dx : Addr) (fu : Nat) (dk tl rl : Addr) (kvs : List (Key × V)) (tv rv us : List V) (g : V) (f : Val) (as r : List Val) (ts : List (Tsk × Fr)), vs = [.ref m, .int (us.length : Int)] ∧ MSt C H m dx fu dk tl rl .non kvs tv (rv ++ [g] ++ us) ∧ rv.length + us.length + tv.length ≤ 10000000 ∧
  ValIn H dk f g ∧ Al (ValIn H dk) as us ∧ Al (ValIn H dk) r.reverse rv ∧ Al (TaskIn H dk) ts.reverse tv ∧ Stepped C m dx dk tl rl kvs H (Q .non) (enter fu f as ts r)
def spWork (C : Addr) : Sp := fun vs H Q _ => ∃ (m dx : Addr) (fu : Nat) (dk tl rl : Addr) (kvs : List (Key × V)) (tv rv : List V) (x f : V) (t : Tsk) (e : Fr) (ts : List (Tsk × Fr)) (rs : List Val) (kn : Kn), vs = [.ref m, x, f] ∧ MSt C H m dx fu dk tl rl .non kvs tv rv ∧ KnR H dk kn kvs ∧ TskIn H t x ∧ EnvIn H dk e f ∧
  Al (TaskIn H dk) ts.reverse tv ∧ Al (ValIn H dk) rs.reverse rv ∧ ts.length + rs.length + t.sz ≤ 10000000 ∧ Safe t rs.length ∧ Stepped C m dx dk tl rl kvs H (Q .non) (step kn fu t e ts rs)
def spValue (C : Addr) : Sp := fun vs H Q _ => ∃ (m dx : Addr) (fu : Nat) (dk tl rl : Addr) (kvs : List (Key × V)) (x : V) (c : Core) (kn : Kn) (k : Nat) (o : Out), vs = [.ref m, x] ∧ MSt C H m dx fu dk tl rl .non kvs [] [] ∧ KnR H dk kn kvs ∧ CoreIn H c x ∧ Rn kn k fu [(.core c, .nil)] [] o ∧
  (∀ v fu', o = .val v fu' → ∀ (H' : Hp) (u : V), MSt C H' m dx fu' dk tl rl .non kvs [] [] → ValIn H' dk v u → Kp H H' m tl rl → Q u H') ∧
  (∀ s, o = .stop s → ∀ H', Ended C m dx dk tl rl kvs s H H' → Q .non H')
mutual
theorem sz_pos : ∀ c : Core, 1 ≤ c.sz
  | .num _ => by simp [Core.sz]
  | .free _ => by simp [Core.sz]
  | .seen _ => by simp [Core.sz]
  | .fn _ b => by simp only [Core.sz]; lia
  | .now c => by simp only [Core.sz]; lia
  | .pick a b c => by simp only [Core.sz]; lia
  | .call f as => by simp only [Core.sz]; lia
theorem len_sz : ∀ as : Cores, as.list.length ≤ as.sz
  | .nil => by simp [Cores.list, Cores.sz]
  | .cons c r => by simp only [Cores.list, Cores.sz, List.length_cons]; have := sz_pos c; have := len_sz r; lia
end
theorem take_rev {us : List V} {k : Nat} (hk : k < us.length) : ∃ z, us.take (us.length - k) = us.take (us.length - (k + 1)) ++ [z] ∧ us.reverse.take (k + 1) = us.reverse.take k ++ [z] := by
  have hj : us.length - (k + 1) < us.length := by lia
  refine ⟨us[us.length - (k + 1)], ?_, ?_⟩
  · rw [show us.length - k = us.length - (k + 1) + 1 by lia, List.take_succ, List.getElem?_eq_getElem hj]; rfl
  · rw [List.take_succ, List.getElem?_reverse hk, show us.length - 1 - k = us.length - (k + 1) by lia, List.getElem?_eq_getElem hj]; rfl
section
variable {P : Program} {w : World} {K : PySem.W.Frag} {mg : Str → Option Value} {base : Heap} {C op : Addr}
abbrev NEnd : List Str := ["self", "count", "values", "first"]
theorem scEnd : FnScope NEnd ["self", "count"] (defScope sEnd) := ⟨rfl, rfl, rfl, by decide +kernel, rfl, by decide +kernel, by decide +kernel⟩
theorem lcEnd1 : LcS (defScope sEnd).names [(".0", .local), ("thing", .local), ("self", .free)] NEnd [true, false, false, false] := ⟨by decide +kernel, by decide +kernel, by decide +kernel, by decide +kernel, by decide +kernel, rfl⟩
theorem ndEnd1 : (["self", "count", "values", "first", "thing"] : List Str).Nodup := by decide +kernel
theorem ok_end {f fK fA fL : Addr} {fd fdK fdA fdL : FuncData} (F : Fun K "end_call" "Machine.end_call" sEnd f fd) (T : MT K mg C op)
    (FK : Fun K "reckoned" "reckoned" sReck fK fdK) (bK : Binds K fdK ["operation", "values"] []) (mK : mg "reckoned" = some (.ref fK))
    (FA : Fun K "found_as" "Machine.found_as" sFound fA fdA) (bA : Binds K fdA ["self", "value"] []) (mA : Meth K C "found_as" fA)
    (FL : Fun K "call_fn" "Machine.call_fn" sCallFn fL fdL) (bL : Binds K fdL ["self", "value", "values"] []) (mL : Meth K C "call_fn" fL) : FnOk P w K mg base CX0 2 f fd ["self", "count"] (spEnd C) := by
  have GK : FnOk P w K mg base CX0 1 fK fdK ["operation", "values"] spReck := ok_reck FK
  have GA : FnOk P w K mg base CX0 1 fA fdA ["self", "value"] (spFA C) := ok_fa FA T
  have GL : FnOk P w K mg base CX0 1 fL fdL ["self", "value", "values"] (spCallFn C) := ok_callfn FL T
  refine F.ok scEnd (fun vs H Q E h => ?_) (fun cdv A outer s H vs Q E hr h => ?_)
  · obtain ⟨m, dx, fu, dk, tl, rl, kvs, tv, rs, us, g, f', as, r, ts, rfl, _⟩ := h; rfl
  · obtain ⟨m, dx, fu, dk, tl, rl, kvs, tv, rs, us, g, f', as, r, ts, rfl, h, hl, hg, hA, hR, hT, q⟩ := h
    have nd := scEnd.nd
    refine ⟨_, pss_cons (ps_set (i := 2) nd rfl (Or.inl rfl) (pe_lrev rfl (by rfl) T.list (by rfl) T.rev (pe_lc (ext := ["thing"]) lcEnd1 rfl (pi_range1 rfl T.range (pa_cons (pw 1) pa_nil))
        ⟨fun _ _ _ _ _ => (pg_name (i := 4) ndEnd1 rfl (Or.inl rfl) (.inr rfl)), fun _ _ _ _ _ => pts_nil, fun _ _ _ _ _ => (pe_bm0 PySem.F.plainAttrs_list PySem.F.slot_list_pop PySem.F.type_list_pop mt_pop (fldW T.cl T.nR (pe_fld (pv 0) rfl) : PE _ _ (tFldW 0 C ("results" : Str))) : PE _ _ (tBM0 K "list" rPop (tFldW 0 C ("results" : Str))))⟩)))
      (pss_cons (ps_set (i := 3) nd rfl (Or.inl rfl) (pe_bm0 PySem.F.plainAttrs_list PySem.F.slot_list_pop PySem.F.type_list_pop mt_pop (fldW T.cl T.nR (pe_fld (pv 0) rfl) : PE _ _ (tFldW 0 C ("results" : Str)))))
      (pss_one (ps_if (PW.pt (pw_and (pt_cmpR op_eq (pe_ixT 3) pe_str (nomark _)) (pw_and1 (pt_cmpR op_eq (pe_callB call_len_seq (by rfl) T.len bt_len (pa_cons (pe_iwT 3) pa_nil)) (pw 1) (nomark _)))))
        (pss_one (ps_expr (methW (pe_meth (pv 0) T.cl mL GL hr bL .nil pass0 (pa_cons (pw 3) (pa_cons (pw 2) pa_nil))))))
        (pss_one (ps_expr (methW (pe_meth (pv 0) T.cl mA GA hr bA .nil pass0 (pa_cons (pe_call GK hr (by rfl) mK FK.kp bK .nil pass0 (pa_cons (pw 3) (pa_cons (pw 2) pa_nil))) pa_nil)))))))), ?_⟩
    refine ⟨_, rfl, by lia, by lia, fun D hD => ?_⟩
    have nDr : D ≠ rl := fun e => by rw [e, h.hr] at hD; cases hD
    refine lc_rng (lo := 0) (n := ((us.length : Nat) : Int).toNat) (fun k ys σ' H' => (∃ v, σ' = [some (.ref m), none, none, none, v]) ∧ H' D = some (.lst ys) ∧ ys = us.reverse.take k ∧ H' rl = some (.lst (rs ++ [g] ++ us.take (us.length - k))) ∧ ∀ c u, c ≠ rl → H c = some u → H' c = some u)
      ⟨⟨_, rfl⟩, upd_same, rfl, by rw [upd_ne (Ne.symm nDr), h.hr, Nat.sub_zero, List.take_length], fun c u _ e => same_upd hD _ _ e⟩ ?_ ?_
    · rintro k ys σ' H' hk ⟨⟨v, rfl⟩, hD1, hys, hr1, hk1⟩
      unfold gName
      refine yes_if ?_
      have hk' : k < us.length := by lia
      obtain ⟨z, e1, e2⟩ := take_rev hk'
      rw [e1, ← List.append_assoc] at hr1
      refine ⟨dx, _, hk1 _ _ (kind_ne h.mo h.hr (fun z => nomatch z)) h.mo, .inl ⟨rfl, _, SqL.of hr1⟩, rl, _, z, rfl, rfl, hr1, last_at _ z, ?_⟩
      rw [List.dropLast_concat]
      refine ⟨by rw [upd_ne nDr]; exact hD1, by rw [hys, List.length_take, sizeLine_eq]; lia, Beh.of hk ⟨⟨_, rfl⟩, upd_same, by rw [e2, hys], ?_, fun c u nc e => ?_⟩⟩
      · rw [upd_ne (Ne.symm nDr), upd_same]
      · have ncD : c ≠ D := ne_of_none e hD
        rw [upd_ne ncD, upd_ne nc]; exact hk1 c u nc e
    · rintro ys σ' H1 ⟨_, hD1, hys, hr1, hk1⟩
      have en : ((us.length : Nat) : Int).toNat = us.length := by lia
      rw [en] at hys hr1
      have ey : ys.reverse = us := by rw [hys, ← List.length_reverse (as := us), List.take_length, List.reverse_reverse]
      rw [Nat.sub_self, List.take_zero, List.append_nil] at hr1
      refine ⟨D, _, rfl, SqL.of hD1, fun p hp => ?_⟩
      rw [ey]
      have s2 := same_upd (o := .lst us) hp
      have hp2 : upd H1 p (.lst us) p = some (.lst us) := upd_same
      generalize upd H1 p (.lst us) = H2 at hp2 s2 ⊢
      have hk2 : ∀ c u, c ≠ rl → H c = some u → H2 c = some u := fun c u n e => s2 _ _ (hk1 c u n e)
      have hr2 := s2 _ _ hr1
      refine ⟨dx, _, hk2 _ _ (kind_ne h.mo h.hr (fun z => nomatch z)) h.mo, .inl ⟨rfl, _, SqL.of hr2⟩, rl, _, g, rfl, rfl, hr2, last_at rs g, ?_⟩
      rw [List.dropLast_concat]
      have npr : p ≠ rl := fun e => by rw [e, hr1] at hp; cases hp
      have npt : p ≠ tl := fun e => by rw [e, hk1 _ _ h.ne h.ht] at hp; cases hp
      have hk3 : ∀ c u, c ≠ rl → H c = some u → upd H2 rl (.lst rs) c = some u := fun c u n e => by rw [upd_ne n]; exact hk2 c u n e
      have hp3 : upd H2 rl (.lst rs) p = some (.lst us) := by rw [upd_ne npr]; exact hp2
      have hM3 : MSt C (upd H2 rl (.lst rs)) m dx fu dk tl rl .non kvs tv rs := ⟨hk3 _ _ (kind_ne h.mo h.hr (fun z => nomatch z)) h.mo, hk3 _ _ (kind_ne h.hd h.hr (fun z => nomatch z)) h.hd, hk3 _ _ h.ne h.ht, upd_same, h.ne⟩
      generalize upd H2 rl (.lst rs) = H3 at hk3 hp3 hM3 ⊢
      have hK3 : Kp H H3 m tl rl := fun c u _ _ n e => hk3 c u n e
      have sy3 := h.sty hK3
      have hg3 := hg.sty sy3
      have hA3 := hA.mono fun _ _ r => ValIn.sty sy3 r
      have hR3 := hR.mono fun _ _ r => ValIn.sty sy3 r
      have hT3 := hT.mono fun _ _ r => TaskIn.sty sy3 r
      -- reckoned
      have reck : enter fu f' as ts r = (match reckO f' as with | some z => .go fu ts (.num z :: r) | none => .stop "stuck") → ∃ (g' : V) (l : Addr) (dk' : Addr) (f2 : Val) (as2 : List Val) (xs : List V), [g, V.ref p] = [g', .ref l] ∧ ValIn H3 dk' f2 g' ∧ H3 l = some (.lst xs) ∧ Al (ValIn H3 dk') as2 xs ∧ xs.length ≤ 10000000 ∧
          (∀ z, reckO f2 as2 = some z → ∀ (H' : Hp) (t : Addr), Same H3 H' → H' t = some (.tup [.str "num", .int z]) → spFA C [.ref m, .ref t] H' Q E) ∧ (reckO f2 as2 = none → ∀ H', Same H3 H' → spFA C [.ref m, .non] H' Q E) := fun ec => by
        refine ⟨g, p, dk, f', as, us, rfl, hg3, hp3, hA3, by lia, fun z ez H4 t s4 ht => ?_, fun ez H4 s4 => ?_⟩
        · refine ⟨m, dx, fu, dk, tl, rl, kvs, tv, rs, .ref t, rfl, hM3.same s4, by lia, .inl ⟨t, rfl, ?_⟩⟩
          have hM4 := hM3.same s4
          have hk5 : Kp H4 (upd H4 rl (.lst (rs ++ [.ref t]))) m tl rl := kp_push _
          rw [ec, ez] at q
          have sy5 := (Sty.of (dk := dk) s4).trans (hM4.sty hk5)
          refine q _ _ _ (hM4.push _) (hT3.mono fun _ _ r => r.sty sy5) ?_ ((hK3.trans (Kp.of s4)).trans hk5)
          rw [List.reverse_cons]
          refine (hR3.mono fun _ _ r => r.sty sy5).snoc ?_
          exact ⟨t, rfl, (hM4.sty hk5).1 _ _ ht⟩
        · refine ⟨m, dx, fu, dk, tl, rl, kvs, tv, rs, .non, rfl, hM3.same s4, by lia, .inr ⟨rfl, fun H' he => ?_⟩⟩
          rw [ec, ez] at q
          exact q H' (he.from (hK3.trans (Kp.of s4)))
      cases f' with
      | num z =>
        have hg4 := hg3
        obtain ⟨t, rfl, ht⟩ := hg4
        refine ⟨t, _, _, rfl, ht, rfl, rfl, false, rfl, iteF (iteF ?_)⟩
        exact ⟨dx, _, hM3.mo, reck rfl⟩
      | op n =>
        have hg4 := hg3
        obtain ⟨hn, t, rfl, ht⟩ := hg4
        refine ⟨t, _, _, rfl, ht, rfl, rfl, false, rfl, iteF (iteF ?_)⟩
        exact ⟨dx, _, hM3.mo, reck rfl⟩
      | fn ps b e =>
        have hg4 := hg3
        obtain ⟨t, u, xs, bw, x, rfl, ht, hu, hP, _, _⟩ := hg4
        refine ⟨t, _, _, rfl, ht, rfl, rfl, true, rfl, iteT ?_⟩
        refine ⟨_, ht, u, _, rfl, .inr (SqT.of hu), rfl, decide (ps.length = as.length), ?_, ite2 (fun c1 => ?_) (fun c1 => ?_)⟩
        · rw [hP.1, hA.1, dec_int, decide_eq_decide.mpr (show ps.length = as.length ↔ ((ps.length : Int) = (as.length : Int)) from by lia)]
          rfl
        · have ek := of_decide_eq_true c1
          have ee : enter fu (.fn ps b e) as ts r = burn fu b (.cons (kz ps as) e) ts r := if_pos ek
          rw [ee] at q
          refine ⟨dx, _, hM3.mo, m, dx, fu, dk, tl, rl, kvs, tv, rs, us, .ref t, p, ps, b, e, as, ts, rfl, hM3, hg3, hp3, npt, npr, hA3, ek, by rw [ek, ← hA.1]; lia, hT3, by lia, fun e0 H' he => ?_, fun fu' e0 H' tv' hM' hT' hk' => ?_⟩
          · subst e0
            exact q H' (he.from hK3)
          · subst e0
            exact q H' tv' rs hM' hT' (hR3.mono fun _ _ r => r.sty (hM3.sty hk')) (hK3.trans hk')
        · have ek : ¬ ps.length = as.length := fun z => c1 (decide_eq_true z)
          refine ⟨dx, _, hM3.mo, reck ?_⟩
          show (if ps.length = as.length then _ else _) = _
          rw [if_neg ek]
          rfl
abbrev NWork : List Str := ["self", "core", "frame", "kind"]
theorem scWork : FnScope NWork ["self", "core", "frame"] (defScope sWork) := ⟨rfl, rfl, rfl, by decide +kernel, rfl, by decide +kernel, by decide +kernel⟩
theorem hide9 {t0 : TS} {c1 c2 c3 c4 c5 c6 c7 c8 : TT} {s1 s2 s3 s4 s5 s6 s7 s8 s9 : TS} {D : Ends} {σ : St} {H : Hp} (h : ∀ u1 u2 u3 u4 u5 u6 u7 u8 u9 : TS, u1 = s1 → u2 = s2 → u3 = s3 → u4 = s4 → u5 = s5 → u6 = s6 → u7 = s7 → u8 = s8 → u9 = s9 → tSeq t0 (tIfS c1 u1 (tIfS c2 u2 (tIfS c3 u3 (tIfS c4 u4 (tIfS c5 u5 (tIfS c6 u6 (tIfS c7 u7 (tIfS c8 u8 u9)))))))) D σ H) : tSeq t0 (tIfS c1 s1 (tIfS c2 s2 (tIfS c3 s3 (tIfS c4 s4 (tIfS c5 s5 (tIfS c6 s6 (tIfS c7 s7 (tIfS c8 s8 s9)))))))) D σ H :=
  h _ _ _ _ _ _ _ _ _ rfl rfl rfl rfl rfl rfl rfl rfl rfl
theorem ok_work {f fA fV fC fB fE : Addr} {fd fdA fdV fdC fdB fdE : FuncData} (F : Fun K "work" "Machine.work" sWork f fd) (T : MT K mg C op)
    (FA : Fun K "found_as" "Machine.found_as" sFound fA fdA) (bA : Binds K fdA ["self", "value"] []) (mA : Meth K C "found_as" fA)
    (FV : Fun K "value_in" "value_in" sVIn fV fdV) (bV : Binds K fdV ["frame", "place", "known"] []) (mV : mg "value_in" = some (.ref fV))
    (FC : Fun K "choose" "Machine.choose" sChoose fC fdC) (bC : Binds K fdC ["self", "core", "frame"] []) (mC : Meth K C "choose" fC)
    (FB : Fun K "begin_call" "Machine.begin_call" sBegin fB fdB) (bB : Binds K fdB ["self", "core", "frame"] []) (mB : Meth K C "begin_call" fB)
    (bE : Binds K fdE ["self", "count"] []) (mE : Meth K C "end_call" fE) (GE : FnOk P w K mg base CX0 2 fE fdE ["self", "count"] (spEnd C)) : FnOk P w K mg base CX0 3 f fd ["self", "core", "frame"] (spWork C) := by
  have GA : FnOk P w K mg base CX0 2 fA fdA ["self", "value"] (spFA C) := (ok_fa FA T).mono (by decide)
  have GV : FnOk P w K mg base CX0 2 fV fdV ["frame", "place", "known"] spVI := (ok_vi FV).mono (by decide)
  have GC : FnOk P w K mg base CX0 2 fC fdC ["self", "core", "frame"] (spChoose C) := (ok_choose FC T).mono (by decide)
  have GB : FnOk P w K mg base CX0 2 fB fdB ["self", "core", "frame"] (spBegin C) := (ok_begin FB T).mono (by decide)
  refine F.ok scWork (fun vs H Q E h => ?_) (fun cdv A outer s H vs Q E hr h => ?_)
  · obtain ⟨m, dx, fu, dk, tl, rl, kvs, tv, rv, x, f, t, e, ts, rs, kn, rfl, _⟩ := h; rfl
  · obtain ⟨m, dx, fu, dk, tl, rl, kvs, tv, rv, x, f, t, e, ts, rs, kn, rfl, hM, hkn, ht, he, hT, hR, hb, hs, q⟩ := h
    have nd := scWork.nd
    have z2 : 2 ≤ sizeLine := by rw [sizeLine_eq]; decide
    have z3 : 3 ≤ sizeLine := by rw [sizeLine_eq]; decide
    have z4 : 4 ≤ sizeLine := by rw [sizeLine_eq]; decide
    have tl1 : tv.length = ts.length := by rw [hT.1, List.length_reverse]
    have rl1 : rv.length = rs.length := by rw [hR.1, List.length_reverse]
    refine ⟨_, pss_cons (ps_set (i := 3) nd rfl (Or.inl rfl) (pe_ixT 1))
      (pss_one (ps_if (pt_cmpR op_eq (pv 3) pe_str (nomark _)) (pss_one (ps_expr (pe_bm PySem.F.plainAttrs_list PySem.F.slot_list_append PySem.F.type_list_append mt_appW (fldW T.cl T.nR (pe_fld (pv 0) rfl) : PE _ _ (tFldW 0 C ("results" : Str))) (pa_cons (pw 1) pa_nil))))
      (pss_one (ps_if (pt_cmpR op_eq (pv 3) pe_str (nomark _)) (pss_one (ps_expr (methW (pe_meth (pv 0) T.cl mA GA hr bA .nil pass0 (pa_cons (pe_ifExp (pt_cmpR op_in_seq (pe_iwT 1) (pe_glob (v := .ref op) (by rfl) T.mgO rfl) rfl) (pe_tup (pa_cons pe_str (pa_cons (pe_iwT 1) pa_nil))) pe_non) pa_nil)))))
      (pss_one (ps_if (pt_cmpR op_eq (pv 3) pe_str (nomark _)) (pss_one (ps_expr (methW (pe_meth (pv 0) T.cl mA GA hr bA .nil pass0 (pa_cons (pe_call GV hr (by rfl) mV FV.kp bV .nil pass0 (pa_cons (pw 2) (pa_cons (pe_iwT 1) (pa_cons (fldW T.cl T.nK (pe_fld (pv 0) rfl) : PE _ _ (tFldW 0 C ("known" : Str))) pa_nil)))) pa_nil)))))
      (pss_one (ps_if (pt_cmpR op_eq (pv 3) pe_str (nomark _)) (pss_one (ps_expr (pe_bm PySem.F.plainAttrs_list PySem.F.slot_list_append PySem.F.type_list_append mt_appW (fldW T.cl T.nR (pe_fld (pv 0) rfl) : PE _ _ (tFldW 0 C ("results" : Str))) (pa_cons (pe_tup (pa_cons pe_str (pa_cons (pe_iwT 1) (pa_cons (pe_iwT 1) (pa_cons (pw 2) pa_nil))))) pa_nil))))
      (pss_one (ps_if (pt_cmpR op_eq (pv 3) pe_str (nomark _)) (pss_one (ps_expr (pe_bm PySem.F.plainAttrs_list PySem.F.slot_list_append PySem.F.type_list_append mt_appW (fldW T.cl T.nT (pe_fld (pv 0) rfl) : PE _ _ (tFldW 0 C ("tasks" : Str))) (pa_cons (pe_tup (pa_cons (pe_iwT 1) (pa_cons (pw 2) pa_nil))) pa_nil))))
      (pss_one (ps_if (pt_cmpR op_eq (pv 3) pe_str (nomark _)) (pss_cons (ps_expr (pe_bm PySem.F.plainAttrs_list PySem.F.slot_list_append PySem.F.type_list_append mt_appW (fldW T.cl T.nT (pe_fld (pv 0) rfl) : PE _ _ (tFldW 0 C ("tasks" : Str))) (pa_cons (pe_tup (pa_cons (pe_tup (pa_cons pe_str (pa_cons (pe_iwT 1) (pa_cons (pe_iwT 1) pa_nil)))) (pa_cons (pw 2) pa_nil))) pa_nil)))
        (pss_one (ps_expr (pe_bm PySem.F.plainAttrs_list PySem.F.slot_list_append PySem.F.type_list_append mt_appW (fldW T.cl T.nT (pe_fld (pv 0) rfl) : PE _ _ (tFldW 0 C ("tasks" : Str))) (pa_cons (pe_tup (pa_cons (pe_iwT 1) (pa_cons (pw 2) pa_nil))) pa_nil)))))
      (pss_one (ps_if (pt_cmpR op_eq (pv 3) pe_str (nomark _)) (pss_one (ps_expr (methW (pe_meth (pv 0) T.cl mC GC hr bC .nil pass0 (pa_cons (pw 1) (pa_cons (pw 2) pa_nil))))))
      (pss_one (ps_if (pt_cmpR op_eq (pv 3) pe_str (nomark _)) (pss_one (ps_expr (methW (pe_meth (pv 0) T.cl mB GB hr bB .nil pass0 (pa_cons (pw 1) (pa_cons (pw 2) pa_nil))))))
      (pss_one (ps_expr (methW (pe_meth (pv 0) T.cl mE GE hr bE .nil pass0 (pa_cons (pe_iwT 1) pa_nil))))))))))))))))))))), ?_⟩
    refine hide9 fun u1 u2 u3 u4 u5 u6 u7 u8 u9 k1 k2 k3 k4 k5 k6 k7 k8 k9 => ?_
    -- a result pushed
    have pushed : ∀ (H1 : Hp) (v : Val) (u : V), Same H H1 → ValIn H1 dk v u → step kn fu t e ts rs = .go fu ts (v :: rs) → Q .non (upd H1 rl (.lst (rv ++ [u]))) := fun H1 v u s1 hv es => by
      rw [es] at q
      have hM1 := hM.same s1
      have hk : Kp H1 (upd H1 rl (.lst (rv ++ [u]))) m tl rl := kp_push _
      have sy := (Sty.of (dk := dk) s1).trans (hM1.sty hk)
      refine q _ _ _ (hM1.push _) (hT.mono fun _ _ r => r.sty sy) ?_ ((Kp.of s1).trans hk)
      rw [List.reverse_cons]
      exact (hR.mono fun _ _ r => r.sty sy).snoc (hv.sty (hM1.sty hk))
    cases t with
    | core c =>
      have hb2 : ts.length + rs.length + c.sz ≤ 10000000 := hb
      have hps := sz_pos c
      cases c with
      | num z =>
        obtain ⟨c, rfl, hc⟩ := ht
        refine ⟨c, _, _, rfl, hc, rfl, ?_⟩
        refine ifv_eq rfl ?_
        subst k1
        refine (⟨dx, _, hM.mo, .inl ⟨rfl, _, SqL.of hM.hr⟩, _, hM.hr, by rw [rl1, sizeLine_eq]; lia, ?_⟩)
        exact pushed H (.num z) (.ref c) (Same.refl _) (by exact ⟨c, rfl, hc⟩) rfl
      | free n =>
        obtain ⟨c, rfl, hc⟩ := ht
        refine ⟨c, _, _, rfl, hc, rfl, ?_⟩
        refine (ifv_ne rfl rfl (ifv_eq rfl ?_))
        subst k2
        by_cases hn : n ∈ OPS
        · refine ⟨dx, _, hM.mo, _, hc, op, _, rfl, .inr (T.opT H), rfl, rfl, true, by rw [if_neg (by decide), in_ops, decide_eq_true hn], iteT ?_⟩
          refine ⟨_, hc, z2, fun t2 ht2 => ?_⟩
          have s2 := same_upd (o := .tup [.str "op", .str n]) ht2
          refine ⟨m, dx, fu, dk, tl, rl, kvs, tv, rv, .ref t2, rfl, hM.same s2, by lia, .inl ⟨t2, rfl, ?_⟩⟩
          exact pushed _ (.op n) (.ref t2) s2 (by exact ⟨hn, t2, rfl, upd_same⟩) (if_pos hn)
        · refine ⟨dx, _, hM.mo, _, hc, op, _, rfl, .inr (T.opT H), rfl, rfl, false, by rw [if_neg (by decide), in_ops, decide_eq_false hn], iteF ?_⟩
          refine ⟨m, dx, fu, dk, tl, rl, kvs, tv, rv, .non, rfl, hM, by lia, .inr ⟨rfl, fun H' he => ?_⟩⟩
          have es : step kn fu (.core (.free n)) e ts rs = .stop "stuck" := if_neg hn
          rw [es] at q
          exact q H' he
      | seen p =>
        obtain ⟨c, rfl, hc⟩ := ht
        refine ⟨c, _, _, rfl, hc, rfl, ?_⟩
        refine (ifv_ne rfl rfl (ifv_ne rfl rfl (ifv_eq rfl ?_)))
        subst k3
        refine ⟨dx, _, hM.mo, _, hc, dx, _, hM.mo, p, f, e, dk, kn, kvs, rfl, hM.hd, hkn, he, fun a v ea hv => ?_, fun ea => ?_⟩
        · obtain ⟨t1, rfl⟩ := hv.ref
          refine ⟨m, dx, fu, dk, tl, rl, kvs, tv, rv, .ref t1, rfl, hM, by lia, .inl ⟨t1, rfl, ?_⟩⟩
          exact pushed H a (.ref t1) (Same.refl _) hv (by show (match look kn e p with | some v => Res.go fu ts (v :: rs) | none => Res.stop "stuck") = _; rw [ea])
        · refine ⟨m, dx, fu, dk, tl, rl, kvs, tv, rv, .non, rfl, hM, by lia, .inr ⟨rfl, fun H' he => ?_⟩⟩
          have es : step kn fu (.core (.seen p)) e ts rs = .stop "stuck" := by show (match look kn e p with | some v => Res.go fu ts (v :: rs) | none => Res.stop "stuck") = _; rw [ea]
          rw [es] at q
          exact q H' he
      | fn ps b =>
        obtain ⟨c, u, xs, bw, rfl, hc, hu, hP, hB⟩ := ht
        refine ⟨c, _, _, rfl, hc, rfl, ?_⟩
        refine (ifv_ne rfl rfl (ifv_ne rfl rfl (ifv_ne rfl rfl (ifv_eq rfl ?_))))
        subst k4
        refine ⟨dx, _, hM.mo, .inl ⟨rfl, _, SqL.of hM.hr⟩, _, hc, _, hc, z4, fun t2 ht2 => ?_⟩
        have s2 := same_upd (o := .tup [.str "fn", .ref u, bw, f]) ht2
        refine ⟨_, s2 _ _ hM.hr, by rw [rl1, sizeLine_eq]; lia, ?_⟩
        refine pushed _ (.fn ps b e) (.ref t2) s2 ?_ rfl
        exact ⟨t2, u, xs, bw, f, rfl, upd_same, s2 _ _ hu, hP.mono fun _ _ r => r.tup (Tup.of s2), hB.tup (Tup.of s2), he.sty (Sty.of s2)⟩
      | now c2 =>
        obtain ⟨c, y, rfl, hc, hy⟩ := ht
        refine ⟨c, _, _, rfl, hc, rfl, ?_⟩
        refine (ifv_ne rfl rfl (ifv_ne rfl rfl (ifv_ne rfl rfl (ifv_ne rfl rfl (ifv_eq rfl ?_)))))
        subst k5
        refine ⟨dx, _, hM.mo, .inl ⟨rfl, _, SqL.of hM.ht⟩, _, hc, z2, fun t ht => ?_⟩
        refine ⟨_, same_upd ht _ _ hM.ht, by rw [tl1, sizeLine_eq]; lia, ?_⟩
        obtain ⟨m1, m2, m3, m4⟩ := hM.more hT (Kp.refl _ _ _ _) ht (tk := .core c2) hy he
        exact q _ _ _ m1 m2 (hR.mono fun _ _ r => r.sty m3) m4
      | pick a b c2 =>
        obtain ⟨c, x1, y1, z1, rfl, hc, hx1, hy1, hz1⟩ := ht
        refine ⟨c, _, _, rfl, hc, rfl, ?_⟩
        refine (ifv_ne rfl rfl (ifv_ne rfl rfl (ifv_ne rfl rfl (ifv_ne rfl rfl (ifv_ne rfl rfl (ifv_eq rfl ?_))))))
        subst k6
        refine ⟨dx, _, hM.mo, .inl ⟨rfl, _, SqL.of hM.ht⟩, _, hc, _, hc, z3, fun t1 ht1 => ?_⟩
        have s1 := same_upd (o := .tup [.str "choose", y1, z1]) ht1
        have f1 : upd H t1 (.tup [.str "choose", y1, z1]) t1 = some (.tup [.str "choose", y1, z1]) := upd_same
        have hM1 := hM.same s1
        generalize upd H t1 (.tup [.str "choose", y1, z1]) = H1 at s1 f1 hM1 ⊢
        have sy1 : Sty dk H H1 := Sty.of s1
        refine ⟨z2, fun t2 ht2 => ?_⟩
        refine ⟨_, same_upd ht2 _ _ hM1.ht, by rw [tl1, sizeLine_eq]; lia, ?_⟩
        have tk1 : TskIn H1 (.cho b c2) (.ref t1) := ⟨t1, y1, z1, rfl, f1, hy1.tup sy1.1, hz1.tup sy1.1⟩
        obtain ⟨m1, m2, m3, m4⟩ := hM1.more (hT.mono fun _ _ r => r.sty sy1) (Kp.of s1) ht2 tk1 (he.sty sy1)
        generalize upd (upd H1 t2 (.tup [.ref t1, f])) tl (.lst (tv ++ [.ref t2])) = H2 at m1 m2 m3 m4 ⊢
        have sy2 := hM.sty m4
        refine ⟨dx, _, m1.mo, .inl ⟨rfl, _, SqL.of m1.ht⟩, _, (sy2.1 _ _ hc), z2, fun t3 ht3 => ?_⟩
        refine ⟨_, same_upd ht3 _ _ m1.ht, by rw [List.length_append, List.length_singleton, tl1, sizeLine_eq]; lia, ?_⟩
        obtain ⟨n1, n2, n3, n4⟩ := m1.more m2 m4 ht3 (tk := .core a) (hx1.tup sy2.1) (he.sty sy2)
        exact q _ _ _ n1 n2 (hR.mono fun _ _ r => r.sty (hM.sty n4)) n4
      | call cf as =>
        obtain ⟨c, x1, u, xs, rfl, hc, hu, hf1, hcs⟩ := ht
        have hal := hcs.al
        refine ⟨c, _, _, rfl, hc, rfl, ?_⟩
        refine (ifv_ne rfl rfl (ifv_ne rfl rfl (ifv_ne rfl rfl (ifv_ne rfl rfl (ifv_ne rfl rfl (ifv_ne rfl rfl (ifv_ne rfl rfl (ifv_eq rfl ?_))))))))
        subst k8
        refine ⟨dx, _, hM.mo, m, dx, fu, dk, tl, rl, kvs, tv, rv, c, u, x1, f, xs, cf, as.list, e, ts, rfl, hM, ?_, hc, hu, hf1, hal, he, hT, fun H' tv' hM' hT' hk' => ?_⟩
        · have := len_sz as
          simp only [Core.sz] at hb2
          rw [tl1, hal.1]; lia
        · exact q _ _ _ hM' hT' (hR.mono fun _ _ r => r.sty (hM.sty hk')) hk'
    | cho b c2 =>
      obtain ⟨c, y1, z1, rfl, hc, hy1, hz1⟩ := ht
      have hs1 : 1 ≤ rs.length := hs
      obtain ⟨a, r, rfl⟩ : ∃ a r, rs = a :: r := by
        cases rs with
        | nil => exact absurd hs1 (by simp)
        | cons a r => exact ⟨a, r, rfl⟩
      rw [List.reverse_cons] at hR
      obtain ⟨rv0, v, rfl, hR0, hv⟩ := hR.cut
      refine ⟨c, _, _, rfl, hc, rfl, ?_⟩
      refine (ifv_ne rfl rfl (ifv_ne rfl rfl (ifv_ne rfl rfl (ifv_ne rfl rfl (ifv_ne rfl rfl (ifv_ne rfl rfl (ifv_eq rfl ?_)))))))
      subst k7
      refine ⟨dx, _, hM.mo, m, dx, fu, dk, tl, rl, kvs, tv, rv0, c, y1, z1, v, f, a, b, c2, e, ts, rfl, hM, by lia, hc, hy1, hz1, he, hv, hT, fun i ei H' tv' hM' hT' hk => ?_, fun hz H' he' => ?_⟩
      · subst ei
        exact q _ _ _ hM' hT' (hR0.mono fun _ _ r => r.sty (hM.sty hk)) hk
      · have es : step kn fu (.cho b c2) e ts (a :: r) = .stop "stuck" := by
          cases a with
          | num z => exact absurd rfl hz
          | op n => rfl
          | fn ps b e => rfl
        rw [es] at q
        exact q H' he'
    | ent n =>
      obtain ⟨c, rfl, hc⟩ := ht
      have hs1 : n + 1 ≤ rs.length := hs
      obtain ⟨g, r, er⟩ : ∃ g r, rs.drop n = g :: r := by
        cases h : rs.drop n with
        | nil => have := congrArg List.length h; rw [List.length_drop] at this; simp at this; lia
        | cons a r => exact ⟨a, r, rfl⟩
      have es : step kn fu (.ent n) e ts rs = enter fu g (rs.take n).reverse ts r := by show (match rs.drop n with | f :: r => enter fu f (rs.take n).reverse ts r | [] => .stop "stuck") = _; rw [er]
      rw [es] at q
      have esplit : rs.reverse = r.reverse ++ [g] ++ (rs.take n).reverse := by
        rw [← List.reverse_cons, ← er, ← List.reverse_append, List.take_append_drop]
      rw [esplit] at hR
      obtain ⟨v12, us, rfl, hR12, hus⟩ := hR.cutN
      obtain ⟨rv0, gv, rfl, hR0, hgv⟩ := hR12.cut
      have hul : us.length = n := by rw [hus.1, List.length_reverse, List.length_take]; lia
      refine ⟨c, _, _, rfl, hc, rfl, ?_⟩
      refine (ifv_ne rfl rfl (ifv_ne rfl rfl (ifv_ne rfl rfl (ifv_ne rfl rfl (ifv_ne rfl rfl (ifv_ne rfl rfl (ifv_ne rfl rfl (ifv_ne rfl rfl ?_))))))))
      subst k9
      refine ⟨dx, _, hM.mo, _, hc, m, dx, fu, dk, tl, rl, kvs, tv, rv0, us, gv, g, (rs.take n).reverse, r, ts, by rw [hul]; rfl, hM, ?_, hgv, hus, hR0, hT, q⟩
      rw [List.length_append, List.length_append, List.length_singleton] at rl1
      lia
end
end K69

set_option Elab.async false
set_option linter.all false
set_option maxRecDepth 100000
set_option maxHeartbeats 4000000
/-! value_of, Machine(fuel), answer_of, run. Own work (made of a template). -/
namespace K69
open PySem L2 Builtin.Str MC
section
variable {P : Program} {w : World} {K : PySem.W.Frag} {mg : Str → Option Value} {base : Heap} {C op : Addr}
abbrev NValue : List Str := ["self", "core", "task"]
theorem scValue : FnScope NValue ["self", "core"] (defScope sValue) := ⟨rfl, rfl, rfl, by decide +kernel, rfl, by decide +kernel, by decide +kernel⟩
/-- the walk's state -/
def VlW (C m dx dk tl rl : Addr) (kvs : List (Key × V)) (kn : Kn) (o : Out) (x : V) (H : Hp) (k : Nat) (σ : St) (H' : Hp) : Prop := (∃ v2, σ = [some (.ref m), some x, v2]) ∧ ((∃ ts rs fu' tv rv, MSt C H' m dx fu' dk tl rl .non kvs tv rv ∧ Al (TaskIn H' dk) ts.reverse tv ∧ Al (ValIn H' dk) rs.reverse rv ∧ Rn kn k fu' ts rs o ∧ Kp H H' m tl rl) ∨ (k = 0 ∧ ∃ z, o = .stop z ∧ Ended C m dx dk tl rl kvs z H H'))
def VlN (C m dx dk tl rl : Addr) (kvs : List (Key × V)) (kn : Kn) (o : Out) (x : V) (H : Hp) (k : Nat) (σ : St) (H' : Hp) : Prop := ∃ k', k' < k + 1 ∧ VlW C m dx dk tl rl kvs kn o x H k' σ H'
theorem ok_value {f fW : Addr} {fd fdW : FuncData} (F : Fun K "value_of" "Machine.value_of" sValue f fd) (T : MT K mg C op) (bW : Binds K fdW ["self", "core", "frame"] []) (mW : Meth K C "work" fW)
    (GW : FnOk P w K mg base CX0 3 fW fdW ["self", "core", "frame"] (spWork C)) : FnOk P w K mg base CX0 4 f fd ["self", "core"] (spValue C) := by
  refine F.ok scValue (fun vs H Q E h => ?_) (fun cdv A outer s H vs Q E hr h => ?_)
  · obtain ⟨m, dx, fu, dk, tl, rl, kvs, x, c, kn, k, o, rfl, _⟩ := h; rfl
  · obtain ⟨m, dx, fu, dk, tl, rl, kvs, x, c, kn, k, o, rfl, hM, hkn, hc, hRn, q1, q2⟩ := h
    have nd := scValue.nd
    have z2 : 2 ≤ sizeLine := by rw [sizeLine_eq]; decide
    refine ⟨_, pss_cons (ps_expr (pe_bm PySem.F.plainAttrs_list PySem.F.slot_list_append PySem.F.type_list_append mt_appW (fldW T.cl T.nT (pe_fld (pv 0) rfl) : PE _ _ (tFldW 0 C ("tasks" : Str))) (pa_cons (pe_tup (pa_cons (pw 1) (pa_cons pe_non pa_nil))) pa_nil)))
      (pss_cons (ps_while PassesOwn.never (PW.pt (pw_and (pt_cmpR op_gtW (pe_callB call_len_seq (by rfl) T.len bt_len (pa_cons (fldW T.cl T.nT (pe_fld (pv 0) rfl) : PE _ _ (tFldW 0 C ("tasks" : Str))) pa_nil)) pe_int (nomark _)) (pw_and1 (pt_cmpR op_isN (fldW T.cl T.nE (pe_fld (pv 0) rfl) : PE _ _ (tFldW 0 C ("ending" : Str))) pe_non (nomark _)))))
        (pss_cons (ps_set (i := 2) nd rfl (Or.inl rfl) (pe_bm0 PySem.F.plainAttrs_list PySem.F.slot_list_pop PySem.F.type_list_pop mt_pop (fldW T.cl T.nT (pe_fld (pv 0) rfl) : PE _ _ (tFldW 0 C ("tasks" : Str)))))
        (pss_one (ps_expr (methW (pe_meth (pv 0) T.cl mW GW hr bW .nil pass0 (pa_cons (pe_iwT 2) (pa_cons (pe_iwT 2) pa_nil))))))))
      (pss_one (ps_ret (pe_ifExp (pt_cmpR op_isN (fldW T.cl T.nE (pe_fld (pv 0) rfl) : PE _ _ (tFldW 0 C ("ending" : Str))) pe_non (nomark _)) (pe_bm0 PySem.F.plainAttrs_list PySem.F.slot_list_pop PySem.F.type_list_pop mt_pop (fldW T.cl T.nR (pe_fld (pv 0) rfl) : PE _ _ (tFldW 0 C ("results" : Str)))) pe_non)))), ?_⟩
    refine ⟨dx, _, hM.mo, .inl ⟨rfl, _, SqL.of hM.ht⟩, z2, fun t ht => ?_⟩
    refine ⟨_, same_upd ht _ _ hM.ht, by decide, ?_⟩
    obtain ⟨hM1, hT1, sy1, hk1⟩ := hM.more (ts := []) Al.nil (Kp.refl _ _ _ _) ht (tk := .core c) (e := .nil) (f := .non) hc rfl
    generalize upd (upd H t (.tup [x, .non])) tl (.lst ([] ++ [.ref t])) = H1 at hM1 hT1 sy1 hk1 ⊢
    refine ⟨VlW C m dx dk tl rl kvs kn o x H, 
      ⟨k, ⟨_, rfl⟩, .inl ⟨_, [], fu, _, [], hM1, hT1, Al.nil, hRn, hk1⟩⟩, ?_⟩
    rintro k' σ H' ⟨⟨v2, rfl⟩, ⟨ts, rs, fu', tv, rv, hM', hT', hR', hG', hK'⟩ | ⟨rfl, z, hz, he⟩⟩
    · refine ⟨dx, _, hM'.mo, tl, _, rfl, .inl (SqL.of hM'.ht), _, rfl, ?_⟩
      rcases hG'.cut with ⟨rfl, rfl, v, rfl, ho⟩ | ⟨k0, t0, e0, ts0, rfl, rfl, hb, hsf, hgo, hst⟩
      rotate_left
      · rw [List.reverse_cons] at hT'
        obtain ⟨tv0, u, rfl, hT0, hu⟩ := hT'.cut
        obtain ⟨t', xx, ff, rfl, ht', htk, hen⟩ := hu
        refine ite2 (fun _ => ?_) (fun z => absurd (decide_eq_true (by rw [List.length_append, List.length_singleton]; lia)) z)
        refine ⟨dx, _, hM'.mo, rfl, true, rfl, iteT ⟨VlN C m dx dk tl rl kvs kn o x H k0, (fun σ' H'' h => h), ?_⟩⟩
        refine ⟨dx, _, hM'.mo, .inl ⟨rfl, _, SqL.of hM'.ht⟩, tl, _, .ref t', rfl, rfl, hM'.ht, last_at tv0 (.ref t'), ?_⟩
        rw [List.dropLast_concat]
        have hk2 : Kp H' (upd H' tl (.lst tv0)) m tl rl := kp_task _
        have sy2 := hM'.sty hk2
        have hM2 := hM'.task tv0
        have ht2 := sy2.1 _ _ ht'
        have hT2 := hT0.mono fun _ _ r => TaskIn.sty sy2 r
        have hR2 := hR'.mono fun _ _ r => ValIn.sty sy2 r
        generalize upd H' tl (.lst tv0) = H2 at hk2 sy2 hM2 ht2 hT2 hR2 ⊢
        have hkn2 := hkn.sty (hM.sty (hK'.trans hk2))
        refine ⟨dx, _, hM2.mo, _, ht2, _, ht2, m, dx, fu', dk, tl, rl, kvs, tv0, rv, xx, ff, t0, e0, ts0, rs, kn, rfl, hM2, hkn2, htk.tup sy2.1, hen.sty sy2, hT2, hR2, hb, hsf, ?_⟩
        cases est : step kn fu' t0 e0 ts0 rs with
        | go fu2 ts2 rs2 => exact fun H3 tv3 rv3 hM3 hT3 hR3 hk3 => ⟨k0, Nat.lt_succ_self _, ⟨_, rfl⟩, .inl ⟨ts2, rs2, fu2, tv3, rv3, hM3, hT3, hR3, hgo _ _ _ est, (hK'.trans hk2).trans hk3⟩⟩
        | stop z => exact fun H3 he => ⟨0, Nat.succ_pos _, ⟨_, rfl⟩, .inr ⟨rfl, z, hst z est, he.from (hK'.trans hk2)⟩⟩
      · have etv := hT'.nil_of
        subst etv
        obtain ⟨v1, r1, rfl, hv1, hr1⟩ := hR'.uncons
        have er1 := hr1.nil_of
        subst er1
        refine ite2 (fun z => absurd (of_decide_eq_true z) (by decide)) (fun _ => iteF ?_)
        refine ⟨dx, _, hM'.mo, rfl, true, rfl, iteT ?_⟩
        refine ⟨dx, _, hM'.mo, .inl ⟨rfl, _, SqL.of hM'.hr⟩, rl, _, v1, rfl, rfl, hM'.hr, rfl, ?_⟩
        have hk4 : Kp H' (upd H' rl (.lst [v1].dropLast)) m tl rl := kp_push _
        exact q1 v fu' ho _ v1 (hM'.push _) (hv1.sty (hM'.sty hk4)) (hK'.trans hk4)
    · obtain ⟨t', fu', tv, rv, e1, hM', e3⟩ := id he
      refine ⟨dx, _, hM'.mo, tl, _, rfl, .inl (SqL.of hM'.ht), _, rfl, ?_⟩
      refine ite2 (fun _ => ?_) (fun _ => iteF ?_)
      · refine ⟨dx, _, hM'.mo, rfl, false, rfl, iteF ?_⟩
        exact ⟨dx, _, hM'.mo, rfl, false, rfl, iteF (q2 z hz _ he)⟩
      · exact ⟨dx, _, hM'.mo, rfl, false, rfl, iteF (q2 z hz _ he)⟩
end
end K69

set_option Elab.async false
set_option linter.all false
set_option maxRecDepth 100000
set_option maxHeartbeats 4000000
/-! Machine(fuel), answer_of, run. Own work (made of a template). -/
namespace K69
open PySem L2 Builtin.Str MC
def spMI (C : Addr) : Sp := fun vs H Q _ => ∃ (x dx : Addr) (fu : Nat), vs = [.ref x, .int (fu : Int)] ∧ H x = some (.ins C dx []) ∧
  ∀ (H' : Hp) (dk tl rl : Addr), MSt C H' x dx fu dk tl rl .non [] [] [] → H dk = none → H tl = none → H rl = none → (∀ b o, b ≠ x → H b = some o → H' b = some o) → Q .non H'
def spAns : Sp := fun vs H Q _ => ∃ (u : V) (dk : Addr) (a : Val), vs = [u] ∧ ValIn H dk a u ∧ ∀ (H' : Hp) (r : V), Same H H' → RowIn H' (.val a 0) r → Q r H'
def spRun : Sp := fun vs H Q _ => ∃ (l : Addr) (fu : Nat) (its : List Item) (iv : List V) (rows : List Out), vs = [.ref l, .int (fu : Int)] ∧ H l = some (.lst iv) ∧ Al (ItIn H) its iv ∧ its.length ≤ 1000000 ∧ RunI (fun _ => none) fu its rows ∧
  ∀ (H' : Hp) (D : Addr) (rs : List V), Same H H' → H D = none → H' D = some (.lst rs) → Al (RowIn H') rows rs → Q (.ref D) H'
section
variable {P : Program} {w : World} {K : PySem.W.Frag} {mg : Str → Option Value} {base : Heap} {C op : Addr}
theorem scMI : FnScope ["self", "fuel"] ["self", "fuel"] (defScope sMInit) := ⟨rfl, rfl, rfl, by decide +kernel, rfl, by decide +kernel, by decide +kernel⟩
theorem ok_mi {f : Addr} {fd : FuncData} (F : Fun K "__init__" "Machine.__init__" sMInit f fd) (T : MT K mg C op) : FnOk P w K mg base CX0 1 f fd ["self", "fuel"] (spMI C) := by
  refine F.ok scMI (fun vs H Q E h => ?_) (fun cdv A outer s H vs Q E hr h => ?_)
  · obtain ⟨x, dx, fu, rfl, _⟩ := h; rfl
  · obtain ⟨x, dx, fu, rfl, hx, q⟩ := h
    refine ⟨_, pss_cons (ps_fld (pw 0) (pw 1) rfl) (pss_cons (ps_fld (pw 0) pe_dnewK rfl) (pss_cons (ps_fld (pw 0) (pe_lst pa_nil) rfl) (pss_cons (ps_fld (pw 0) (pe_lst pa_nil) rfl) (pss_one (ps_fld (pw 0) pe_non rfl))))), ?_⟩
    refine ⟨x, C, dx, [], rfl, hx, T.cl, T.nF, by decide, ?_⟩
    refine fun d hd => ?_
    have hdx : d ≠ x := fun e => by rw [e, upd_same] at hd; cases hd
    refine ⟨x, C, dx, _, rfl, by rw [upd_ne (Ne.symm hdx), upd_same], T.cl, T.nK, by show 1 < 1000; decide, ?_⟩
    refine ⟨Nat.zero_le _, fun tl htl => ?_⟩
    have htx : tl ≠ x := fun e => by rw [e, upd_same] at htl; cases htl
    rw [upd_ne htx] at htl
    have htd : tl ≠ d := fun e => by rw [e, upd_same] at htl; cases htl
    rw [upd_ne htd, upd_ne htx] at htl
    refine ⟨x, C, dx, _, rfl, by rw [upd_ne (Ne.symm htx), upd_same], T.cl, T.nT, by show 2 < 1000; decide, ?_⟩
    refine ⟨Nat.zero_le _, fun rl hrl => ?_⟩
    have hrx : rl ≠ x := fun e => by rw [e, upd_same] at hrl; cases hrl
    rw [upd_ne hrx] at hrl
    have hrt : rl ≠ tl := fun e => by rw [e, upd_same] at hrl; cases hrl
    rw [upd_ne hrt, upd_ne hrx] at hrl
    have hrd : rl ≠ d := fun e => by rw [e, upd_same] at hrl; cases hrl
    rw [upd_ne hrd, upd_ne hrx] at hrl
    rw [upd_ne hdx] at hd
    refine ⟨x, C, dx, _, rfl, by rw [upd_ne (Ne.symm hrx), upd_same], T.cl, T.nR, by show 3 < 1000; decide, ?_⟩
    refine ⟨x, C, dx, _, rfl, upd_same, T.cl, T.nE, by show 4 < 1000; decide, ?_⟩
    refine q _ d tl rl ⟨upd_same, ?_, ?_, ?_, Ne.symm hrt⟩ hd htl hrl fun b o nb e => ?_
    · rw [upd_ne hdx, upd_ne hdx, upd_ne (Ne.symm hrd), upd_ne hdx, upd_ne (Ne.symm htd), upd_ne hdx, upd_same]
    · rw [upd_ne htx, upd_ne htx, upd_ne (Ne.symm hrt), upd_ne htx, upd_same]
    · rw [upd_ne hrx, upd_ne hrx, upd_same]
    · rw [upd_ne nb, upd_ne nb, upd_ne (ne_of_none e hrl), upd_ne nb, upd_ne (ne_of_none e htl), upd_ne nb, upd_ne (ne_of_none e hd), upd_ne nb]; exact e
theorem scAns : FnScope ["value"] ["value"] (defScope sAns) := ⟨rfl, rfl, rfl, by decide +kernel, rfl, by decide +kernel, by decide +kernel⟩
theorem ok_ans {f : Addr} {fd : FuncData} (F : Fun K "answer_of" "answer_of" sAns f fd) (T : MT K mg C op) : FnOk P w K mg base CX0 1 f fd ["value"] spAns := by
  refine F.ok scAns (fun vs H Q E h => ?_) (fun cdv A outer s H vs Q E hr h => ?_)
  · obtain ⟨u, dk, a, rfl, _⟩ := h; rfl
  · obtain ⟨u, dk, a, rfl, hu, q⟩ := h
    have z2 : 2 ≤ sizeLine := by rw [sizeLine_eq]; decide
    refine ⟨_, pss_cons (ps_if (pt_cmpR op_eq (pe_ixT 0) pe_str (nomark _)) (pss_one (ps_ret (pe_tup (pa_cons pe_str (pa_cons (pe_callB call_len_seq (by rfl) T.len bt_len (pa_cons (pe_iwT 0) pa_nil)) pa_nil))))) pss_nil) (pss_one (ps_ret (pw 0))), ?_⟩
    cases a with
    | num z =>
      obtain ⟨t, rfl, ht⟩ := hu
      exact ⟨t, _, _, rfl, ht, rfl, rfl, false, rfl, iteF (q H _ (Same.refl _) ⟨t, rfl, ht⟩)⟩
    | op n =>
      obtain ⟨hn, t, rfl, ht⟩ := hu
      exact ⟨t, _, _, rfl, ht, rfl, rfl, false, rfl, iteF (q H _ (Same.refl _) ⟨t, rfl, ht⟩)⟩
    | fn ps b e =>
      obtain ⟨t, u, xs, bw, x, rfl, ht, hu, hP, _, _⟩ := hu
      refine ⟨t, _, _, rfl, ht, rfl, rfl, true, rfl, iteT ⟨_, ht, u, _, rfl, .inr (SqT.of hu), z2, fun t2 ht2 => ?_⟩⟩
      rw [hP.1]
      exact q _ _ (same_upd ht2) ⟨t2, rfl, upd_same⟩
theorem MSt.keep {H H' : Hp} {m dx : Addr} {fu : Nat} {dk tl rl : Addr} {en : V} {kvs : List (Key × V)} {tv rv : List V} {D : Addr} {ys : List V} (h : MSt C H m dx fu dk tl rl en kvs tv rv) (hD : H D = some (.lst ys)) (n1 : D ≠ tl) (n2 : D ≠ rl) (s : ∀ c o, c ≠ D → H c = some o → H' c = some o) : MSt C H' m dx fu dk tl rl en kvs tv rv :=
  ⟨s _ _ (kind_ne h.mo hD (fun z => nomatch z)) h.mo, s _ _ (kind_ne h.hd hD (fun z => nomatch z)) h.hd, s _ _ (Ne.symm n1) h.ht, s _ _ (Ne.symm n2) h.hr, h.ne⟩
theorem MSt.known {H : Hp} {m dx : Addr} {fu : Nat} {dk tl rl : Addr} {en : V} {kvs : List (Key × V)} {tv rv : List V} (h : MSt C H m dx fu dk tl rl en kvs tv rv) (kvs' : List (Key × V)) : MSt C (upd H dk (.dK kvs')) m dx fu dk tl rl en kvs' tv rv :=
  ⟨by rw [upd_ne (kind_ne h.mo h.hd (fun z => nomatch z))]; exact h.mo, upd_same, by rw [upd_ne (kind_ne h.ht h.hd (fun z => nomatch z))]; exact h.ht, by rw [upd_ne (kind_ne h.hr h.hd (fun z => nomatch z))]; exact h.hr, h.ne⟩
abbrev NRun : List Str := ["items", "fuel", "machine", "answers", "item", "value"]
theorem scRun : FnScope NRun ["items", "fuel"] (defScope sRun) := ⟨rfl, rfl, rfl, by decide +kernel, rfl, by decide +kernel, by decide +kernel⟩
/-- the run's state -/
def RnW (C x dx dk tl rl l D : Addr) (fu : Nat) (its : List Item) (rows : List Out) (H : Hp) (i : Nat) (σ : St) (H' : Hp) : Prop := ∃ (v4 v5 : Option V) (fu' : Nat) (rs : List V) (kvs : List (Key × V)) (kn : Kn) (pre rest : List Out), σ = [some (.ref l), some (.int (fu : Int)), some (.ref x), some (.ref D), v4, v5] ∧ Same H H' ∧ MSt C H' x dx fu' dk tl rl .non kvs [] [] ∧ KnR H' dk kn kvs ∧ kvs.length ≤ i ∧ H' D = some (.lst rs) ∧ Al (RowIn H') pre rs ∧ pre.length ≤ i ∧ RunI kn fu' (its.drop i) rest ∧ rows = pre ++ rest
theorem ok_run {f fI fV fA T0 : Addr} {fd fdI fdV fdA : FuncData} (F : FunD K "run" "run" sRun f fd T0) (T : MT K mg C op)
    (FI : Fun K "__init__" "Machine.__init__" sMInit fI fdI) (bI : Binds K fdI ["self", "fuel"] []) (mI : Mk K C fI)
    (bV : Binds K fdV ["self", "core"] []) (mV : Meth K C "value_of" fV) (GV : FnOk P w K mg base CX0 4 fV fdV ["self", "core"] (spValue C))
    (FA : Fun K "answer_of" "answer_of" sAns fA fdA) (bA : Binds K fdA ["value"] []) (mA : mg "answer_of" = some (.ref fA)) : FnOk P w K mg base CX0 5 f fd ["items", "fuel"] spRun := by
  have GI : FnOk P w K mg base CX0 1 fI fdI ["self", "fuel"] (spMI C) := ok_mi FI T
  have GA : FnOk P w K mg base CX0 4 fA fdA ["value"] spAns := (ok_ans FA T).mono (by decide)
  refine F.ok scRun (fun vs H Q E h => ?_) (fun cdv A outer s H vs Q E hr h => ?_)
  · obtain ⟨l, fu, its, iv, rows, rfl, _⟩ := h; rfl
  · obtain ⟨l, fu, its, iv, rows, rfl, hl, hA, hlen, hrun, q⟩ := h
    have nd := scRun.nd
    have hu := hu_of hr
    have hr2 := hr.mono (show 2 ≤ 4 by decide)
    refine ⟨_, pss_cons (ps_set (i := 2) nd rfl (Or.inl rfl) (pe_make mI GI hr2 (by rfl) T.mgC bI .nil pass0 (pa_cons (pw 1) pa_nil)))
      (pss_cons (ps_set (i := 3) nd rfl (Or.inl rfl) (pe_lst pa_nil))
      (pss_cons (ps_for PassesOwn.never rfl (pi_list (pw 0)) (pg_name (i := 4) nd rfl (Or.inl rfl))
      (pss_cons (ps_set (i := 5) nd rfl (Or.inl rfl) (pe_meth (pw 2) T.cl mV GV hr bV .nil pass0 (pa_cons (pe_ix ix_tup (pw 4) (pe_un un_neg pe_int) (fun _ _ => rfl)) pa_nil)))
        (pss_cons (ps_if (pt_cmpR op_isN (pw 5) pe_non (nomark _))
          (pss_cons (ps_expr (pe_bm PySem.F.plainAttrs_list PySem.F.slot_list_append PySem.F.type_list_append mt_appW (pw 3) (pa_cons (fldW T.cl T.nE (pe_fld (pv 2) rfl) : PE _ _ (tFldW 2 C ("ending" : Str))) pa_nil)))
          (pss_one (ps_ret (pw 3)))) pss_nil)
        (pss_one (ps_if (pt_cmpR op_eq (pe_ixT 4) pe_str (nomark _))
          (pss_one (ps_dput hu (fldW T.cl T.nK (pe_fld (pv 2) rfl) : PE _ _ (tFldW 2 C ("known" : Str))) (pe_iwT 4) (pw 5) rfl))
        (pss_one (ps_expr (pe_bm PySem.F.plainAttrs_list PySem.F.slot_list_append PySem.F.type_list_append mt_appW (pw 3) (pa_cons (pe_call GA hr (by rfl) mA FA.kp bA .nil pass0 (pa_cons (pw 5) pa_nil)) pa_nil)))))))))
      (pss_one (ps_ret (pw 3))))), ?_⟩
    refine (fun x dx hx hdx hxd => ?_)
    have sx : Same H (upd (upd H dx (.own x)) x (.ins C dx [])) := fun b o e => by rw [upd_ne (ne_of_none e hx), upd_ne (ne_of_none e hdx)]; exact e
    refine ⟨x, dx, fu, rfl, upd_same, fun H1 dk tl rl hM hdk htl hrl hkeep => ⟨rfl, ?_⟩⟩
    have s1 : Same H H1 := fun b o e => hkeep b o (ne_of_none e hx) (sx b o e)
    have old : ∀ c o, H c = some o → c ≠ x ∧ c ≠ tl ∧ c ≠ rl ∧ c ≠ dk := fun c o e => ⟨ne_of_none e hx, (fun z => by rw [← z, sx _ _ e] at htl; cases htl), (fun z => by rw [← z, sx _ _ e] at hrl; cases hrl), (fun z => by rw [← z, sx _ _ e] at hdk; cases hdk)⟩
    refine ⟨Nat.zero_le _, fun D hD => ?_⟩
    have hDn : H D = none := by
      cases e : H D with
      | none => rfl
      | some o => rw [s1 _ _ e] at hD; cases hD
    have s2 := same_upd (o := .lst []) hD
    have nDt : D ≠ tl := fun e => by rw [e, hM.ht] at hD; cases hD
    have nDr : D ≠ rl := fun e => by rw [e, hM.hr] at hD; cases hD
    have hl2 := s2 _ _ (s1 _ _ hl)
    refine ⟨l, rfl, ⟨_, SqL.of hl2⟩, for_list (xs := iv) (RnW C x dx dk tl rl l D fu its rows H)
      ⟨_, _, fu, [], [], _, [], rows, rfl, s1.trans s2, hM.same s2, KnR.nil, Nat.le_refl _, upd_same, Al.nil, Nat.le_refl _, hrun, rfl⟩ (fun i σ H' _ hh => by obtain ⟨_, _, _, _, _, _, _, _, _, sH, _⟩ := hh; exact SqL.of (sH _ _ hl)) ?_ ?_⟩
    · rintro i v σ H' hi ⟨v4, v5, fu', rs, kvs, kn, pre, rest, rfl, sH, hM', hkn, hkl, hDD, hAl, hpl, hrun', hrows⟩
      obtain ⟨it, eit, hit⟩ := hA.at hi
      have hil : i < its.length := (List.getElem?_eq_some_iff.mp eit).1
      have edrop : its.drop i = it :: its.drop (i + 1) := by
        rw [List.drop_eq_getElem_cons hil]
        rw [List.getElem?_eq_getElem hil] at eit
        rw [Option.some.inj eit]
      rw [edrop] at hrun'
      have hit' := hit.tup (Tup.of sH)
      obtain ⟨t, xs, cv, rfl, hsq, hat, hc⟩ := hit'.last (K := K)
      obtain ⟨k, o, hRn, hnx⟩ := hrun'.cut
      refine ⟨x, dx, _, rfl, hM'.mo, rfl, _, rfl, t, xs, _, cv, rfl, rfl, hsq, hat, x, dx, fu', dk, tl, rl, kvs, cv, it.2, kn, k, o, rfl, hM', hkn, hc, hRn, fun a fu2 ea H2 u hM2 hu2 hk2 => ?_, fun z ez H2 he => ?_⟩
      · subst ea
        obtain ⟨tu, rfl⟩ := hu2.ref
        have sH2 : Same H H2 := fun c o e => hk2 c o (old c o e).1 (old c o e).2.1 (old c o e).2.2.1 (sH c o e)
        have sy2 : Sty dk H' H2 := hM'.sty hk2
        have hD2 := hk2 _ _ (kind_ne hDD hM'.mo (fun z => nomatch z)) nDt nDr hDD
        refine ⟨rfl, false, rfl, iteF ?_⟩
        obtain ⟨dp, ef⟩ := it
        cases dp with
        | some p =>
          obtain ⟨t2, nm, cv2, e2, ht2, _⟩ := hit'
          cases e2
          have ht3 := sy2.1 _ _ ht2
          refine ⟨t, _, _, rfl, ht3, rfl, rfl, true, rfl, iteT ?_⟩
          refine ⟨dx, _, hM2.mo, _, ht3, dk, _, rfl, DPut.k (k := .inl (some p)) hM2.hd (by rw [sizeLine_eq]; lia), ?_⟩
          have s3 : ∀ c o, c ≠ dk → H2 c = some o → upd H2 dk (.dK (putK kvs (.inl (some p)) (.ref tu))) c = some o := fun c o n e => by rw [upd_ne n]; exact e
          have sy3 : Sty dk H2 (upd H2 dk (.dK (putK kvs (.inl (some p)) (.ref tu)))) := ⟨fun e xs qe => s3 _ _ (kind_ne qe hM2.hd (fun z => nomatch z)) qe, fun e k n qe => s3 _ _ n qe⟩
          refine ⟨_, _, fu2, rs, putK kvs (.inl (some p)) (.ref tu), MC.put kn p a, pre, rest, rfl, fun c o e => s3 _ _ (old c o e).2.2.2 (sH2 _ _ e), MSt.known hM2 _, ?_, ?_, s3 _ _ (kind_ne hD2 hM2.hd (fun z => nomatch z)) hD2, hAl.mono fun _ _ r => (r.tup sy2.1).tup sy3.1, by lia, hnx, hrows⟩
          · exact ((hkn.sty sy2).sty sy3).put p (hu2.sty sy3)
          · have := putK_len kvs (.inl (some p)) (.ref tu); lia
        | none =>
          obtain ⟨t2, cv2, e2, ht2, _⟩ := hit'
          cases e2
          have ht3 := sy2.1 _ _ ht2
          obtain ⟨rest', erest, hnx'⟩ := hnx
          subst erest
          refine ⟨t, _, _, rfl, ht3, rfl, rfl, false, rfl, iteF ?_⟩
          refine ⟨.inl ⟨rfl, _, SqL.of hD2⟩, .ref tu, dk, a, rfl, hu2, fun H3 r s3 hr3 => ?_⟩
          have hD3 := s3 _ _ hD2
          refine ⟨_, hD3, by rw [hAl.1, sizeLine_eq]; lia, ?_⟩
          have s4 : ∀ c o, c ≠ D → H3 c = some o → upd H3 D (.lst (rs ++ [r])) c = some o := fun c o n e => by rw [upd_ne n]; exact e
          have sy4 : Sty dk H3 (upd H3 D (.lst (rs ++ [r]))) := ⟨fun e xs qe => s4 _ _ (kind_ne qe hD3 (fun z => nomatch z)) qe, fun e xs _ qe => s4 _ _ (kind_ne qe hD3 (fun z => nomatch z)) qe⟩
          have sy24 : Sty dk H' (upd H3 D (.lst (rs ++ [r]))) := (sy2.trans (Sty.of s3)).trans sy4
          refine ⟨_, _, fu2, rs ++ [r], kvs, kn, pre ++ [.val a 0], rest', rfl, fun c o e => s4 _ _ (ne_of_none e hDn) (s3 _ _ (sH2 _ _ e)), MSt.keep (hM2.same s3) hD3 nDt nDr s4, hkn.sty sy24, by lia, upd_same, (hAl.mono fun _ _ r => r.tup sy24.1).snoc (hr3.tup sy4.1), by rw [List.length_append, List.length_singleton]; lia, hnx', ?_⟩
          rw [hrows, List.append_assoc]; rfl
      · subst ez
        obtain ⟨t', fu2, tv', rv', ht', hM2, hk2⟩ := he
        have sH2 : Same H H2 := fun c o e => hk2 c o (old c o e).1 (old c o e).2.1 (old c o e).2.2.1 (sH c o e)
        have sy2 : Sty dk H' H2 := hM'.sty hk2
        have hD2 := hk2 _ _ (kind_ne hDD hM'.mo (fun z => nomatch z)) nDt nDr hDD
        refine ⟨rfl, true, rfl, iteT ?_⟩
        refine ⟨.inl ⟨rfl, _, SqL.of hD2⟩, dx, _, hM2.mo, _, hD2, by rw [hAl.1, sizeLine_eq]; lia, ?_⟩
        have s4 : ∀ c o, c ≠ D → H2 c = some o → upd H2 D (.lst (rs ++ [.ref t'])) c = some o := fun c o n e => by rw [upd_ne n]; exact e
        have tk4 : Tup H2 (upd H2 D (.lst (rs ++ [.ref t']))) := fun e xs qe => s4 _ _ (kind_ne qe hD2 (fun z => nomatch z)) qe
        refine (q _ D _ (fun c o e => s4 _ _ (ne_of_none e hDn) (sH2 _ _ e)) hDn upd_same ?_)
        have hal2 := hAl.mono fun _ _ r => (RowIn.tup r sy2.1).tup tk4
        have erest : rest = [.stop z] := hnx
        rw [hrows, erest]
        exact hal2.snoc (a := Out.stop z) ⟨t', rfl, tk4 _ _ ht'⟩
    · rintro σ H' ⟨v4, v5, fu', rs, kvs, kn, pre, rest, rfl, sH, hM', hkn, hkl, hDD, hAl, hpl, hrun', hrows⟩
      rw [hA.1, List.drop_length] at hrun'
      have e : rest = [] := hrun'.nil_of
      rw [e, List.append_nil] at hrows
      exact (q H' D rs sH hDn hDD (by rw [hrows]; exact hAl))
end
end K69

set_option Elab.async false
set_option linter.all false
set_option maxRecDepth 100000
set_option maxHeartbeats 4000000
/-! What a core comes to, by its parts; the machine's steps come to the same. Own work. -/
namespace MC
open PySem
inductive OutL where
  | vals (vs : List Val) (fu : Nat)
  | stop (s : Str)
/-- a call of these values, its body by bd -/
def burnO (bd : Nat → Fr → Core → Out) (e : Fr) (b : Core) : Nat → Out
  | 0 => .stop "on"
  | fu + 1 => bd fu e b
def entO (bd : Nat → Fr → Core → Out) (fu : Nat) (f : Val) (as : List Val) : Out := match f with
  | .fn ps b e => if ps.length = as.length then burnO bd (.cons (kz ps as) e) b fu else .stop "stuck"
  | .num _ => .stop "stuck"
  | .op n => match reckO (.op n) as with
    | some z => .val (.num z) fu
    | none => .stop "stuck"
mutual
def evC (kn : Kn) (bd : Nat → Fr → Core → Out) (e : Fr) : Core → Nat → Out
  | .num z, fu => .val (.num z) fu
  | .free n, fu => if n ∈ OPS then .val (.op n) fu else .stop "stuck"
  | .seen p, fu => match look kn e p with
    | some v => .val v fu
    | none => .stop "stuck"
  | .fn ps b, fu => .val (.fn ps b e) fu
  | .now c, fu => evC kn bd e c fu
  | .pick a b c, fu => match evC kn bd e a fu with
    | .stop s => .stop s
    | .val (.num z) fu' => if z = 0 then evC kn bd e c fu' else evC kn bd e b fu'
    | .val _ _ => .stop "stuck"
  | .call f as, fu => match evC kn bd e f fu with
    | .stop s => .stop s
    | .val vf fu1 => match evCs kn bd e as fu1 with
      | .stop s => .stop s
      | .vals vs fu2 => entO bd fu2 vf vs
def evCs (kn : Kn) (bd : Nat → Fr → Core → Out) (e : Fr) : Cores → Nat → OutL
  | .nil, fu => .vals [] fu
  | .cons c r, fu => match evC kn bd e c fu with
    | .stop s => .stop s
    | .val v fu1 => match evCs kn bd e r fu1 with
      | .stop s => .stop s
      | .vals vs fu2 => .vals (v :: vs) fu2
end
/-- bodies to this depth -/
def ev (kn : Kn) : Nat → Nat → Fr → Core → Out
  | 0, fu, e, c => evC kn (fun _ _ _ => .stop "on") e c fu
  | g + 1, fu, e, c => evC kn (fun fu e c => ev kn g fu e c) e c fu
def bdOf (kn : Kn) : Nat → Nat → Fr → Core → Out
  | 0 => fun _ _ _ => .stop "on"
  | g + 1 => ev kn g
theorem ev_eq (kn : Kn) (g fu : Nat) (e : Fr) (c : Core) : ev kn g fu e c = evC kn (bdOf kn g) e c fu := by cases g <;> rfl
/-! ### sizes -/
mutual
def OkV (M : Nat) : Val → Prop
  | .num _ => True
  | .op _ => True
  | .fn _ b e => b.sz ≤ M ∧ OkF M e
def OkF (M : Nat) : Fr → Prop
  | .nil => True
  | .cons d e => OkK M d ∧ OkF M e
def OkK (M : Nat) : Kvs → Prop
  | .nil => True
  | .cons _ v r => OkV M v ∧ OkK M r
end
def OkN (M : Nat) (kn : Kn) : Prop := ∀ p v, kn p = some v → OkV M v
theorem OkK.get {M : Nat} : ∀ {d : Kvs} {p : Int} {v : Val}, OkK M d → d.get p = some v → OkV M v
  | .nil, p, v, h, e => by simp [Kvs.get] at e
  | .cons q w r, p, v, h, e => by
    simp only [OkK] at h
    simp only [Kvs.get] at e
    cases er : r.get p with
    | some x => rw [er] at e; cases e; exact OkK.get h.2 er
    | none =>
      rw [er] at e
      by_cases hq : q = p
      · simp [hq] at e; subst e; exact h.1
      · simp [hq] at e
theorem look_ok {M : Nat} {kn : Kn} (hk : OkN M kn) : ∀ {e : Fr} {p : Int} {v : Val}, OkF M e → look kn e p = some v → OkV M v
  | .nil, p, v, h, q => hk p v q
  | .cons d e, p, v, h, q => by
    simp only [OkF] at h
    simp only [look] at q
    cases ed : d.get p with
    | some x => rw [ed] at q; cases q; exact OkK.get h.1 ed
    | none => rw [ed] at q; exact look_ok hk h.2 q
theorem kz_ok {M : Nat} : ∀ {ps : List Int} {as : List Val}, (∀ a ∈ as, OkV M a) → OkK M (kz ps as)
  | [], as, h => by simp [kz, OkK]
  | p :: ps, [], h => by simp [kz, OkK]
  | p :: ps, a :: as, h => by
    simp only [kz, OkK]
    exact ⟨h a (List.mem_cons_self ..), kz_ok fun b hb => h b (List.mem_cons_of_mem _ hb)⟩
theorem put_ok {M : Nat} {kn : Kn} (hk : OkN M kn) {p : Int} {v : Val} (hv : OkV M v) : OkN M (put kn p v) := fun q u e => by
  unfold put at e
  by_cases h : q = p
  · rw [if_pos h] at e; cases e; exact hv
  · rw [if_neg h] at e; exact hk q u e
mutual
theorem sz_pos' : ∀ c : Core, 1 ≤ c.sz
  | .num _ => by simp [Core.sz]
  | .free _ => by simp [Core.sz]
  | .seen _ => by simp [Core.sz]
  | .fn _ b => by simp only [Core.sz]; lia
  | .now c => by simp only [Core.sz]; lia
  | .pick a b c => by simp only [Core.sz]; lia
  | .call f as => by simp only [Core.sz]; lia
theorem len_sz' : ∀ as : Cores, as.list.length ≤ as.sz
  | .nil => by simp [Cores.list, Cores.sz]
  | .cons c r => by simp only [Cores.list, Cores.sz, List.length_cons]; have := sz_pos' c; have := len_sz' r; lia
end
/-! ### the machine comes to it -/
/-- from here on it goes to this -/
def Gets (kn : Kn) (M fu : Nat) (ts0 : List (Tsk × Fr)) (rs0 : List Val) (ts : List (Tsk × Fr)) (rs : List Val) : Out → Prop
  | .val v fu' => fu' ≤ fu ∧ OkV M v ∧ ∀ k o, Rn kn k fu' ts (v :: rs) o → ∃ k', Rn kn k' fu ts0 rs0 o
  | .stop s => ∃ k', Rn kn k' fu ts0 rs0 (.stop s)
def GetsL (kn : Kn) (M fu : Nat) (ts0 : List (Tsk × Fr)) (rs0 : List Val) (ts : List (Tsk × Fr)) (rs : List Val) (n : Nat) : OutL → Prop
  | .vals vs fu' => fu' ≤ fu ∧ (∀ v ∈ vs, OkV M v) ∧ vs.length = n ∧ ∀ k o, Rn kn k fu' ts (vs.reverse ++ rs) o → ∃ k', Rn kn k' fu ts0 rs0 o
  | .stop s => ∃ k', Rn kn k' fu ts0 rs0 (.stop s)
/-- what bd promises -/
def BdOk (kn : Kn) (M : Nat) (bd : Nat → Fr → Core → Out) (g : Nat) : Prop := ∀ fu e c ts rs, fu < g → OkF M e → c.sz ≤ M → ts.length + rs.length + M + fu * M ≤ 10000000 → Gets kn M fu ((.core c, e) :: ts) rs ts rs (bd fu e c)
section
variable {kn : Kn} {M g : Nat} {bd : Nat → Fr → Core → Out} {e : Fr}
theorem mulM {a b : Nat} (h : a ≤ b) : a * M ≤ b * M := Nat.mul_le_mul_right M h
theorem ent_gets (hbd : BdOk kn M bd g) {fu : Nat} {f : Val} {as : List Val} {ts : List (Tsk × Fr)} {rs : List Val} {n : Nat} {e0 : Fr} (hf : OkV M f) (ha : ∀ v ∈ as, OkV M v) (hn : as.length = n) (hg : fu ≤ g)
    (hb : ts.length + rs.length + n + 2 ≤ 10000000) (hb2 : ts.length + rs.length + fu * M ≤ 10000000) : Gets kn M fu ((.ent n, e0) :: ts) (as.reverse ++ f :: rs) ts rs (entO bd fu f as) := by
  have hl : (as.reverse ++ f :: rs).length = n + 1 + rs.length := by simp; lia
  have hS : Safe (.ent n) (as.reverse ++ f :: rs).length := by rw [hl]; show n + 1 ≤ _; lia
  have hB : ts.length + (as.reverse ++ f :: rs).length + (Tsk.ent n).sz ≤ 10000000 := by rw [hl]; show _ + _ + 1 ≤ _; lia
  have hst : step kn fu (.ent n) e0 ts (as.reverse ++ f :: rs) = enter fu f as ts rs := by
    have h1 : (as.reverse ++ f :: rs).drop n = f :: rs := by rw [← hn, ← List.length_reverse (as := as), List.drop_left]
    have h2 : (as.reverse ++ f :: rs).take n = as.reverse := by rw [← hn, ← List.length_reverse (as := as), List.take_left]
    simp only [step]
    rw [h1]
    dsimp only
    rw [h2, List.reverse_reverse]
  cases f with
  | num z => exact ⟨1, Rn.stop hB hS hst⟩
  | op o =>
    show Gets kn M fu _ _ ts rs (match reckO (.op o) as with | some z => .val (.num z) fu | none => .stop "stuck")
    have hst' : step kn fu (.ent n) e0 ts (as.reverse ++ .op o :: rs) = (match reckO (.op o) as with | some z => .go fu ts (.num z :: rs) | none => .stop "stuck") := hst
    cases hr : reckO (.op o) as with
    | none => rw [hr] at hst'; exact ⟨1, Rn.stop hB hS hst'⟩
    | some z => rw [hr] at hst'; exact ⟨Nat.le_refl _, trivial, fun k o' r => ⟨k + 1, Rn.more hB hS hst' r⟩⟩
  | fn ps b e =>
    simp only [OkV] at hf
    show Gets kn M fu _ _ ts rs (if ps.length = as.length then burnO bd (.cons (kz ps as) e) b fu else .stop "stuck")
    have hst' : step kn fu (.ent n) e0 ts (as.reverse ++ .fn ps b e :: rs) = if ps.length = as.length then burn fu b (.cons (kz ps as) e) ts rs else .stop "stuck" := hst
    by_cases hp : ps.length = as.length
    · rw [if_pos hp]
      rw [if_pos hp] at hst'
      cases fu with
      | zero => exact ⟨1, Rn.stop hB hS hst'⟩
      | succ fu =>
        have h := hbd fu (.cons (kz ps as) e) b ts rs (by lia) (by simp only [OkF]; exact ⟨kz_ok ha, hf.2⟩) hf.1 (by rw [Nat.succ_mul] at hb2; lia)
        show Gets kn M (fu + 1) _ _ ts rs (bd fu (.cons (kz ps as) e) b)
        cases ho : bd fu (.cons (kz ps as) e) b with
        | stop s =>
          rw [ho] at h
          obtain ⟨k, r⟩ := h
          exact ⟨k + 1, Rn.more hB hS hst' r⟩
        | val v fu' =>
          rw [ho] at h
          obtain ⟨h1, h2, h3⟩ := h
          refine ⟨by lia, h2, fun k o r => ?_⟩
          obtain ⟨k', r'⟩ := h3 k o r
          exact ⟨k' + 1, Rn.more hB hS hst' r'⟩
    · rw [if_neg hp]
      rw [if_neg hp] at hst'
      exact ⟨1, Rn.stop hB hS hst'⟩
/-- a step ahead of it -/
theorem Gets.step {fu : Nat} {t : Tsk} {e0 : Fr} {ts1 ts2 ts : List (Tsk × Fr)} {rs1 rs2 rs : List Val} {o : Out} (h : Gets kn M fu ts2 rs2 ts rs o) (hb : ts1.length + rs1.length + t.sz ≤ 10000000) (hs : Safe t rs1.length) (hst : MC.step kn fu t e0 ts1 rs1 = .go fu ts2 rs2) : Gets kn M fu ((t, e0) :: ts1) rs1 ts rs o := by
  cases o with
  | stop s => obtain ⟨k, r⟩ := h; exact ⟨k + 1, Rn.more hb hs hst r⟩
  | val v fu' => obtain ⟨h1, h2, h3⟩ := h; exact ⟨h1, h2, fun k o r => by obtain ⟨k', r'⟩ := h3 k o r; exact ⟨k' + 1, Rn.more hb hs hst r'⟩⟩
/-- one behind the other -/
theorem Gets.then {fu fu1 : Nat} {v1 : Val} {ts0 ts1 ts : List (Tsk × Fr)} {rs0 rs1 rs : List Val} {o : Out} (h : Gets kn M fu ts0 rs0 ts1 rs1 (.val v1 fu1)) (g : Gets kn M fu1 ts1 (v1 :: rs1) ts rs o) : Gets kn M fu ts0 rs0 ts rs o := by
  obtain ⟨h1, h2, h3⟩ := h
  cases o with
  | stop s => obtain ⟨k, r⟩ := g; exact h3 _ _ r
  | val v fu' => obtain ⟨g1, g2, g3⟩ := g; exact ⟨by lia, g2, fun k o r => by obtain ⟨k', r'⟩ := g3 k o r; exact h3 _ _ r'⟩
mutual
theorem evC_gets (hk : OkN M kn) (hbd : BdOk kn M bd g) (he : OkF M e) : ∀ (c : Core) (fu : Nat) (ts : List (Tsk × Fr)) (rs : List Val), fu ≤ g → c.sz ≤ M → ts.length + rs.length + c.sz + fu * M ≤ 10000000 → Gets kn M fu ((.core c, e) :: ts) rs ts rs (evC kn bd e c fu)
  | .num z, fu, ts, rs, hg, hc, hb => by
    simp only [evC]
    exact ⟨Nat.le_refl _, trivial, fun k o r => ⟨k + 1, Rn.more (by show ts.length + rs.length + Core.sz _ ≤ _; lia) trivial rfl r⟩⟩
  | .free n, fu, ts, rs, hg, hc, hb => by
    simp only [evC]
    have hB : ts.length + rs.length + (Tsk.core (.free n)).sz ≤ 10000000 := by show ts.length + rs.length + Core.sz _ ≤ _; lia
    have hst : step kn fu (.core (.free n)) e ts rs = if n ∈ OPS then .go fu ts (.op n :: rs) else .stop "stuck" := rfl
    by_cases hn : n ∈ OPS
    · rw [if_pos hn] at hst ⊢
      exact ⟨Nat.le_refl _, trivial, fun k o r => ⟨k + 1, Rn.more hB trivial hst r⟩⟩
    · rw [if_neg hn] at hst ⊢
      exact ⟨1, Rn.stop hB trivial hst⟩
  | .seen p, fu, ts, rs, hg, hc, hb => by
    simp only [evC]
    have hB : ts.length + rs.length + (Tsk.core (.seen p)).sz ≤ 10000000 := by show ts.length + rs.length + Core.sz _ ≤ _; lia
    have hst : step kn fu (.core (.seen p)) e ts rs = match look kn e p with | some v => .go fu ts (v :: rs) | none => .stop "stuck" := rfl
    cases hl : look kn e p with
    | none => rw [hl] at hst; exact ⟨1, Rn.stop hB trivial hst⟩
    | some v => rw [hl] at hst; exact ⟨Nat.le_refl _, look_ok hk he hl, fun k o r => ⟨k + 1, Rn.more hB trivial hst r⟩⟩
  | .fn ps b, fu, ts, rs, hg, hc, hb => by
    simp only [evC]
    simp only [Core.sz] at hc
    refine ⟨Nat.le_refl _, ?_, fun k o r => ⟨k + 1, Rn.more (by show ts.length + rs.length + Core.sz _ ≤ _; lia) trivial rfl r⟩⟩
    simp only [OkV]
    exact ⟨by lia, he⟩
  | .now c, fu, ts, rs, hg, hc, hb => by
    simp only [evC]
    have hB : ts.length + rs.length + (Tsk.core (.now c)).sz ≤ 10000000 := by show ts.length + rs.length + Core.sz _ ≤ _; lia
    simp only [Core.sz] at hc hb
    exact (evC_gets hk hbd he c fu ts rs hg (by lia) (by lia)).step hB trivial rfl
  | .pick a b c, fu, ts, rs, hg, hc, hb => by
    simp only [evC]
    have hB : ts.length + rs.length + (Tsk.core (.pick a b c)).sz ≤ 10000000 := by show ts.length + rs.length + Core.sz _ ≤ _; lia
    simp only [Core.sz] at hc hb
    have ha := evC_gets hk hbd he a fu ((.cho b c, e) :: ts) rs hg (by lia) (by rw [List.length_cons]; lia)
    refine Gets.step (ts2 := (.core a, e) :: (.cho b c, e) :: ts) (rs2 := rs) ?_ hB trivial rfl
    cases ho : evC kn bd e a fu with
    | stop s => rw [ho] at ha; exact ha
    | val v fu1 =>
      rw [ho] at ha
      have h1 := ha.1
      have hm := mulM (M := M) h1
      have hB2 : ts.length + (v :: rs).length + (Tsk.cho b c).sz ≤ 10000000 := by rw [List.length_cons]; show _ + _ + (b.sz + c.sz + 1) ≤ _; lia
      have hS2 : Safe (.cho b c) (v :: rs).length := by rw [List.length_cons]; show 1 ≤ _; lia
      refine Gets.then ha ?_
      cases v with
      | num z =>
        have hst : step kn fu1 (.cho b c) e ts (.num z :: rs) = .go fu1 ((.core (if z = 0 then c else b), e) :: ts) rs := rfl
        refine Gets.step ?_ hB2 hS2 hst
        show Gets kn M fu1 _ rs ts rs (if z = 0 then evC kn bd e c fu1 else evC kn bd e b fu1)
        by_cases hz : z = 0
        · rw [if_pos hz, if_pos hz]; exact evC_gets hk hbd he c fu1 ts rs (by lia) (by lia) (by lia)
        · rw [if_neg hz, if_neg hz]; exact evC_gets hk hbd he b fu1 ts rs (by lia) (by lia) (by lia)
      | op n => exact ⟨1, Rn.stop hB2 hS2 rfl⟩
      | fn ps b' e' => exact ⟨1, Rn.stop hB2 hS2 rfl⟩
  | .call f as, fu, ts, rs, hg, hc, hb => by
    simp only [evC]
    have hB : ts.length + rs.length + (Tsk.core (.call f as)).sz ≤ 10000000 := by show ts.length + rs.length + Core.sz _ ≤ _; lia
    simp only [Core.sz] at hc hb
    have hls := len_sz' as
    have hf := evC_gets hk hbd he f fu ((as.list.map fun c => (Tsk.core c, e)) ++ (.ent as.list.length, e) :: ts) rs hg (by lia) (by rw [List.length_append, List.length_map, List.length_cons]; lia)
    refine Gets.step (ts2 := (.core f, e) :: (as.list.map fun c => (Tsk.core c, e)) ++ (.ent as.list.length, e) :: ts) (rs2 := rs) ?_ hB trivial rfl
    rw [List.cons_append]
    cases ho : evC kn bd e f fu with
    | stop s => rw [ho] at hf; exact hf
    | val v fu1 =>
      rw [ho] at hf
      have h1 := hf.1
      have hm := mulM (M := M) h1
      refine Gets.then hf ?_
      have hs := evCs_gets hk hbd he as fu1 ((.ent as.list.length, e) :: ts) (v :: rs) (by lia) (by lia) (by rw [List.length_cons, List.length_cons]; lia)
      dsimp only
      cases hos : evCs kn bd e as fu1 with
      | stop s => rw [hos] at hs; exact hs
      | vals vs fu2 =>
        rw [hos] at hs
        obtain ⟨g1, g2, g3, g4⟩ := hs
        have hm2 := mulM (M := M) g1
        have hE := ent_gets (ts := ts) (rs := rs) (e0 := e) (n := as.list.length) hbd hf.2.1 g2 g3 (show fu2 ≤ g by lia) (by lia) (by lia)
        show Gets kn M fu1 _ (v :: rs) ts rs (entO bd fu2 v vs)
        cases hoe : entO bd fu2 v vs with
        | stop s =>
          rw [hoe] at hE
          obtain ⟨k, r⟩ := hE
          exact g4 _ _ r
        | val u fu3 =>
          rw [hoe] at hE
          obtain ⟨q1, q2, q3⟩ := hE
          exact ⟨by lia, q2, fun k o r => by obtain ⟨k', r'⟩ := q3 k o r; exact g4 _ _ r'⟩
theorem evCs_gets (hk : OkN M kn) (hbd : BdOk kn M bd g) (he : OkF M e) : ∀ (as : Cores) (fu : Nat) (ts : List (Tsk × Fr)) (rs : List Val), fu ≤ g → as.sz ≤ M → ts.length + rs.length + as.sz + fu * M ≤ 10000000 → GetsL kn M fu ((as.list.map fun c => (Tsk.core c, e)) ++ ts) rs ts rs as.list.length (evCs kn bd e as fu)
  | .nil, fu, ts, rs, hg, hc, hb => by
    simp only [evCs, Cores.list]
    exact ⟨Nat.le_refl _, by simp, rfl, fun k o r => ⟨k, r⟩⟩
  | .cons c r, fu, ts, rs, hg, hc, hb => by
    simp only [evCs, Cores.list]
    simp only [Cores.sz] at hc hb
    have hls := len_sz' r
    rw [List.map_cons, List.cons_append]
    have hf := evC_gets hk hbd he c fu ((r.list.map fun c => (Tsk.core c, e)) ++ ts) rs hg (by lia) (by rw [List.length_append, List.length_map]; lia)
    cases ho : evC kn bd e c fu with
    | stop s => rw [ho] at hf; exact hf
    | val v fu1 =>
      rw [ho] at hf
      obtain ⟨h1, h2, h3⟩ := hf
      have hm := mulM (M := M) h1
      have hp := sz_pos' c
      have hs := evCs_gets hk hbd he r fu1 ts (v :: rs) (by lia) (by lia) (by rw [List.length_cons]; lia)
      dsimp only
      cases hos : evCs kn bd e r fu1 with
      | stop s => rw [hos] at hs; obtain ⟨k, q⟩ := hs; exact h3 _ _ q
      | vals vs fu2 =>
        rw [hos] at hs
        obtain ⟨g1, g2, g3, g4⟩ := hs
        refine ⟨by lia, ?_, by rw [List.length_cons, List.length_cons, g3], fun k o q => ?_⟩
        · intro x hx
          rcases List.mem_cons.mp hx with rfl | hx
          · exact h2
          · exact g2 x hx
        · rw [List.reverse_cons, List.append_assoc] at q
          obtain ⟨k', q'⟩ := g4 k o q
          exact h3 _ _ q'
end
end
theorem bdOf_ok {kn : Kn} {M : Nat} (hk : OkN M kn) : ∀ g, BdOk kn M (bdOf kn g) g
  | 0 => fun fu e c ts rs h => absurd h (Nat.not_lt_zero _)
  | g + 1 => fun fu e c ts rs h he hc hb => by
    show Gets kn M fu _ rs ts rs (ev kn g fu e c)
    rw [ev_eq]
    exact evC_gets hk (bdOf_ok hk g) he c fu ts rs (by lia) hc (by lia)
/-- the machine comes to what ev tells -/
theorem ev_gets {kn : Kn} {M g fu : Nat} {c : Core} (hk : OkN M kn) (hg : fu ≤ g) (hc : c.sz ≤ M) (hb : M + fu * M ≤ 10000000) : (∃ k, Rn kn k fu [(.core c, .nil)] [] (ev kn g fu .nil c)) ∧ ∀ v fu', ev kn g fu .nil c = .val v fu' → fu' ≤ fu ∧ OkV M v := by
  have h := evC_gets (e := .nil) hk (bdOf_ok hk g) (by simp [OkF]) c fu [] [] hg hc (by simp; lia)
  rw [← ev_eq] at h
  cases ho : ev kn g fu .nil c with
  | stop s => rw [ho] at h; exact ⟨h, fun v fu' e => nomatch e⟩
  | val v fu' =>
    rw [ho] at h
    obtain ⟨h1, h2, h3⟩ := h
    exact ⟨h3 0 _ Rn.done, fun v' fu2 e => by cases e; exact ⟨h1, h2⟩⟩
/-- what a run tells -/
def evI (g : Nat) : Kn → Nat → List Item → List Out
  | _, _, [] => []
  | kn, fu, (d, c) :: r => match ev kn g fu .nil c with
    | .stop s => [.stop s]
    | .val v fu' => match d with
      | some p => evI g (put kn p v) fu' r
      | none => .val v 0 :: evI g kn fu' r
theorem evI_run {M g : Nat} : ∀ {its : List Item} {kn : Kn} {fu : Nat}, OkN M kn → fu ≤ g → (∀ it ∈ its, it.2.sz ≤ M) → M + fu * M ≤ 10000000 → RunI kn fu its (evI g kn fu its)
  | [], kn, fu, hk, hg, hi, hb => RunI.nil
  | (d, c) :: r, kn, fu, hk, hg, hi, hb => by
    obtain ⟨⟨k, h⟩, h2⟩ := ev_gets (c := c) (g := g) hk hg (hi _ (List.mem_cons_self ..)) hb
    simp only [evI]
    cases ho : ev kn g fu .nil c with
    | stop s => rw [ho] at h; exact RunI.stop h
    | val v fu' =>
      rw [ho] at h
      obtain ⟨h3, h4⟩ := h2 v fu' ho
      have hm := mulM (M := M) h3
      cases d with
      | some p => exact RunI.defs h (evI_run (put_ok hk h4) (by lia) (fun it hx => hi it (List.mem_cons_of_mem _ hx)) (by lia))
      | none => exact RunI.shows h (evI_run hk (by lia) (fun it hx => hi it (List.mem_cons_of_mem _ hx)) (by lia))
end MC

set_option Elab.async false
set_option linter.all false
set_option maxRecDepth 100000
set_option maxHeartbeats 4000000
/-! Cores and rows laid on the heap; lists of ints. Own work. -/
namespace MC
open PySem L2 Builtin.Str
theorem core_num {H : Hp} {t : Addr} {z : Int} (h : H t = some (.tup [.str "num", .int z])) : CoreIn H (.num z) (.ref t) := by exact ⟨t, rfl, h⟩
theorem core_free {H : Hp} {t : Addr} {n : Str} (h : H t = some (.tup [.str "free", .str n])) : CoreIn H (.free n) (.ref t) := by exact ⟨t, rfl, h⟩
theorem core_seen {H : Hp} {t : Addr} {z : Int} (h : H t = some (.tup [.str "seen", .int z])) : CoreIn H (.seen z) (.ref t) := by exact ⟨t, rfl, h⟩
theorem core_call {H : Hp} {t u : Addr} {x : V} {ys : List V} {f : Core} {as : List Core} (h : H t = some (.tup [.str "call", x, .ref u])) (hu : H u = some (.tup ys)) (hf : CoreIn H f x) (ha : Al (CoreIn H) as ys) : CoreIn H (.call f (Cores.of as)) (.ref t) := by
  exact ⟨t, x, u, ys, rfl, h, hu, hf, CoresIn.of ha⟩
theorem core_pick {H : Hp} {t : Addr} {x y z : V} {a b c : Core} (h : H t = some (.tup [.str "pick", x, y, z])) (ha : CoreIn H a x) (hb : CoreIn H b y) (hc : CoreIn H c z) : CoreIn H (.pick a b c) (.ref t) := by
  exact ⟨t, x, y, z, rfl, h, ha, hb, hc⟩
theorem core_now {H : Hp} {t : Addr} {x : V} {a : Core} (h : H t = some (.tup [.str "now", x])) (ha : CoreIn H a x) : CoreIn H (.now a) (.ref t) := by
  exact ⟨t, x, rfl, h, ha⟩
theorem core_fn {H : Hp} {t u : Addr} {w : V} {xs : List V} {ps : List Int} {b : Core} (h : H t = some (.tup [.str "fn", .ref u, w])) (hu : H u = some (.tup xs)) (hp : Al (PIn H) ps xs) (hb : CoreIn H b w) : CoreIn H (.fn ps b) (.ref t) := by
  exact ⟨t, u, xs, w, rfl, h, hu, hp, hb⟩
theorem at_int {cs : List Int} {i : Nat} (h : i < cs.length) : atI (cs.map V.int) (i : Int) = some (.int cs[i]) := atI_nat (by rw [List.getElem?_map, List.getElem?_eq_getElem h]; rfl)
theorem map_at {ns : List Int} {i : Nat} {v : V} (h : (ns.map V.int)[i]? = some v) : ∃ n, ns[i]? = some n ∧ v = .int n := by
  rw [List.getElem?_map] at h
  cases e : ns[i]? with
  | none => rw [e] at h; exact nomatch h
  | some n => rw [e] at h; exact ⟨n, rfl, (Option.some.inj h).symm⟩
theorem cut_ints (ns : List Int) (lo hi : Option Int) : ∃ ms : List Int, cutV (ns.map V.int) lo hi = ms.map V.int ∧ ms.length ≤ ns.length := by
  have hl := cutV_length (ns.map V.int) lo hi
  unfold cutV at hl ⊢
  refine ⟨(ns.drop (HT.sIx (ns.map V.int).length 0 lo)).take (HT.sIx (ns.map V.int).length (ns.map V.int).length hi - HT.sIx (ns.map V.int).length 0 lo), ?_, ?_⟩
  · rw [List.map_take, List.map_drop]
  · rw [List.length_take, List.length_drop]; omega
/-- the cell at a place -/
def cellV (ns : List Int) (k : Int) : Int := ns.getD k.toNat 0
theorem cellV_at {ns : List Int} {k : Int} (h0 : 0 ≤ k) (h : k < ns.length) : atI (ns.map V.int) k = some (.int (cellV ns k)) := by
  have hk : k.toNat < ns.length := by lia
  have ek : (k.toNat : Int) = k := by lia
  have e := at_int hk
  rw [ek] at e
  rw [e]
  unfold cellV
  rw [List.getD_eq_getElem?_getD, List.getElem?_eq_getElem hk]; rfl
theorem cellV_out {ns : List Int} {k : Int} (h : ¬ k < ns.length) : cellV ns k = 0 := by
  unfold cellV
  rw [List.getD_eq_getElem?_getD, List.getElem?_eq_none (by lia)]; rfl
theorem dec_I {i j : Int} : decide (V.int i = V.int j) = decide (i = j) := by
  rw [decide_eq_decide]; exact ⟨fun e => by injection e, fun e => by rw [e]⟩
theorem bl_I {i j : Int} : V.bl (decide (V.int i = V.int j)) = V.bl (decide (i = j)) := by rw [dec_I]
theorem hud_of {A : Around} {k d : Nat} (hr : Room k A) (h : d ≤ 60) : A.units + 1 + d < cLine := by have := hr.un; lia
theorem row_flat : ∀ o : Out, (rowVs o).all flatV = true
  | .stop _ => rfl
  | .val (.num _) _ => rfl
  | .val (.op _) _ => rfl
  | .val (.fn _ _ _) _ => rfl
theorem self0 {K : PySem.W.Frag} {H : Hp} : ∀ {xs : List V}, xs.all flatV = true → Paired (Alk K H 0) xs xs
  | [], _ => .nil
  | x :: r, h => by
    rw [List.all_cons, Bool.and_eq_true] at h
    exact .cons ⟨rfl, .inl h.1⟩ (self0 h.2)
end MC

set_option Elab.async false
set_option linter.all false
set_option maxRecDepth 100000
set_option maxHeartbeats 4000000
/-! dict(a tuple of pairs); a dict updated by a dict. Own work. -/
namespace DK
open PySem PyProof.Rows
theorem tuple_no_keys : typeLookup (.type "tuple") "keys" = pure none := am_miss_of_fast (by kernel_rfl)
theorem keys_missT {prog : Program} {w : World} {A : Around} {E : Value → Shared → Prop} {s : Shared} {a : Addr} {o : Obj} {xs : Array Value} {k : Nat} {Q : Option Value → Shared → Prop}
    (hx : s.heap.get? a = some o) (hc : o.cls = .type "tuple") (hdat : o.data = .seq xs k) (hd : o.dict = none) (hA : A.handled = none)
    (h : ∀ h' tk, (∀ b ob, s.heap.get? b = some ob → h'.get? b = some ob) → Q none { s with heap := h', toks := tk }) :
    wpAny (model prog w) A (getAttr? (.ref a) "keys") Q E s := by
  obtain ⟨c, dct, dat, sl⟩ := o
  simp only at hc hdat hd
  subst hc hdat hd
  obtain ⟨hp, g, d, tk, os⟩ := s
  have hT : ∀ tk', (⟨hp, g, d, tk', os⟩ : Shared).TypeIs (.ref a) "tuple" := fun _ => ⟨_, hx, rfl⟩
  have f1 := sub_AttributeError
  have f3 := F.slot_tuple_getattribute.lookup
  have f4 := F.slot_tuple_getattribute.bind (.ref a)
  have f5 := am_tuple_getattr_none
  unfold getAttr? getAttrBy? getAttrBy
  repeat (any_goals (first | assumption | exact hT _ | ((with_reducible show wpAny _ _ (call (Value.builtin "tuple.__getattribute__") _ _) _ _ _); refine call_meets F.slot_tuple_getattribute (hT _) am_entry_tuple_getattribute (F.args_tuple_getattribute_2 _ _) (meets_getattribute_miss_tuple a xs k sl "keys" _ tuple_no_keys (by decide +kernel)) ⟨hx, by simpa using hA, fun h' tk' e hx' => ?_⟩) | wp_step))
  obtain ⟨t', u', he⟩ := hx'.there
  show wpAny _ _ (getattributeRaised _ _ _ _ _ _ _) _ _ _
  unfold getattributeRaised
  repeat (any_goals (first | assumption | wp_step))
  exact h _ _ hx'.keeps
section
variable {prog : Program} {w : World} {κ : Type} [DecidableEq κ] {knd : PySem.KeyKind prog w κ} {A : Around} {E : Value → Shared → Prop} {s : Shared}
theorem call_pairsT {l : Addr} {items : Array Value} {o : Obj} {nn : Nat} {Q : Value → Shared → Prop} (hh : A.handled = none) (hx : s.heap.get? l = some o) (hc : o.cls = .type "tuple") (hdat : o.data = .seq items nn) (hd : o.dict = none)
    (key : Nat → κ) (val : Nat → Value) (hp : ∀ (j : Nat) v, items[j]? = some v → ∃ t, v = .ref t ∧ PairAt knd s.heap t (key j) (val j)) (hz : items.size ≤ sizeLine)
    (h : ∀ h' tk, h'.DictOf knd s.heap.objs.size ((List.range items.size).foldl (fun a j => stored a (key j) (val j)) []) → (∀ b o, s.heap.get? b = some o → h'.get? b = some o) → Q (.ref s.heap.objs.size) { s with heap := h', toks := tk }) :
    wpAny (model prog w) A (call (.type "dict") [.ref l]) Q E s := by
  refine callType_codes (Q₁ := fun obj s₁ => obj = .ref s.heap.objs.size ∧ s₁ = { s with heap := s.heap.push { cls := .type "dict", data := .dict #[] } }) PySem.F.kt_called_dict (PySem.F.kt_typeCall_dict_1 _) PySem.F.entry_dict_init (kt_code_dict_new _ ⟨rfl, rfl⟩) ?_
  rintro obj s₁ ⟨rfl, rfl⟩
  have hnew : (s.heap.push { cls := .type "dict", data := .dict #[] }).DictOf knd s.heap.objs.size [] := Heap.DictOf.new s.heap
  have hl1 : (s.heap.push { cls := .type "dict", data := .dict #[] }).get? l = some o := Heap.get?_push_of_some _ hx
  refine ⟨hnew.typeIs, PySem.F.args_dict_init_2 _ _, ?_⟩
  unfold Builtin.«dict.__init__»
  refine wpAny_bind ?_
  unfold Builtin.Dict.selfAndRest
  refine wpAny_bind (wpAny_notOrdered_dict hnew.typeIs ?_)
  show wpAny _ _ (pure (s.heap.objs.size, [Value.ref l])) _ _ _
  refine wpAny_pure ?_
  show wpAny _ _ (Builtin.Dict.updateFrom "dict.__init__" s.heap.objs.size (.ref l) [] .none) _ _ _
  unfold Builtin.Dict.updateFrom
  refine wpAny_bind (wpAny_typeOf (T := "tuple") ⟨_, hl1, hc⟩ ?_)
  rw [if_pos (by decide)]
  refine wpAny_bind (keys_missT hl1 hc hdat hd (by simpa using hh) fun h2 tk2 hk2 => ?_)
  show wpAny _ _ (rule _ >>= fun _ => pyIter (Value.ref l) >>= _) _ _ _
  refine wpAny_bind (wpAny_rule ?_)
  have hL2 : h2.IsTuple l items := ⟨_, hk2 _ _ hl1, hc, _, hdat⟩
  refine wpAny_bind (wpAny_pyIter_tuple hL2 ?_)
  have hlt : l < s.heap.objs.size := Heap.lt_size hx
  have hs1 : s.heap.objs.size < h2.objs.size := by
    obtain ⟨o', es, ep, ho', _⟩ := hnew
    exact Heap.lt_size (hk2 _ _ ho')
  have hneI : l ≠ h2.objs.size := Nat.ne_of_lt (Nat.lt_trans hlt hs1)
  have hk3 : ∀ b ob, s.heap.get? b = some ob → (h2.push { cls := .type "tuple_iterator", data := .fields #[.ref l, .int 0 0] }).get? b = some ob := fun b ob e => Heap.get?_push_of_some _ (hk2 _ _ (Heap.get?_push_of_some _ e))
  refine wpAny_pure ⟨plainId_quiet F.plain_dict_loop _, dict_loop (knd := knd) ((Walks.tuple (by simpa using hh) h2.objs.size l hneI items).toS) s.heap.objs.size ?_ key val (items.size - 0) 0 _ 0 [] rfl (Nat.zero_le _) ⟨⟨_, Heap.get?_push_size _ rfl, rfl, rfl⟩, hL2.push _⟩ (fun j v hj => ?_) ?_ (by simpa using hz) fun s' hm hD => ?_⟩
  · simp only [List.mem_cons, List.not_mem_nil, or_false, not_or]; exact ⟨Nat.ne_of_lt hs1, Nat.ne_of_gt hlt⟩
  · obtain ⟨t, rfl, kv, ⟨ot, hot, rest⟩, hkv⟩ := hp j v hj
    have htl : t < s.heap.objs.size := Heap.lt_size hot
    exact ⟨t, rfl, by simp only [List.mem_cons, List.not_mem_nil, or_false, not_or]; exact ⟨Nat.ne_of_lt htl, Nat.ne_of_lt (Nat.lt_trans htl hs1)⟩, kv, ⟨ot, hk3 _ _ hot, rest⟩, hkv⟩
  · obtain ⟨o', es, ep, ho', rest⟩ := hnew
    exact ⟨o', es, ep, Heap.get?_push_of_some _ (hk2 _ _ ho'), rest⟩
  · obtain ⟨h', g', d', tk', os'⟩ := s'
    have eg : g' = s.gens := hm.gens
    have ed : d' = s.drawn := hm.drawn
    have eo : os' = s.os := hm.os
    subst eg; subst ed; subst eo
    refine ⟨rfl, h h' tk' (by rw [List.range_eq_range']; exact hD) fun b ob e => ?_⟩
    have hb : b < s.heap.objs.size := Heap.lt_size e
    exact hm.heap b ob (by simp only [List.mem_cons, List.not_mem_nil, or_false, not_or]; exact ⟨Nat.ne_of_lt hb, Nat.ne_of_lt (Nat.lt_trans hb hs1)⟩) (hk3 _ _ e)
end
end DK
namespace L2
open PySem PySem.Spec PyProof.Rows
variable {X : Cx}
/-- dict(a tuple of pairs) -/
theorem call_dpairsT (hc : X.calm = true) : CallR X (.type "dict") (fun xs H Q => ∃ (p : Addr) (vs : List V) (kvl : List (Key × V)), xs = [.ref p] ∧ H p = some (.tup vs) ∧ vs.length = kvl.length ∧ (∀ (i : Nat) kv, kvl[i]? = some kv → ∃ t, vs[i]? = some (.ref t) ∧ H t = some (.tup [kV kv.1, kv.2])) ∧ ∀ l, H l = none → Q (.ref l) (upd H l (.dK (dOf kvl)))) := by
  intro pins s σ H xs us Q I r h
  obtain ⟨p, vs, kvl, rfl, hp, hlen, hpr, q⟩ := h
  obtain ⟨u, rfl, rx⟩ := vals1 r
  cases rx
  obtain ⟨hz, its, rv, ob, hget, hcl, ⟨nn, hdt⟩, hdn⟩ := I.hok p _ hp
  have hl2 : its.length = kvl.length := by rw [← rv.length, hlen]
  have hpair : ∀ (j : Nat), ∃ u : Value, ∀ v, its.toArray[j]? = some v → ∃ t, v = .ref t ∧ DK.PairAt (mixKind X.prog X.w) s.heap t ((kvl[j]?.map (·.1)).getD (.inl none)) u ∧ ∃ y, kvl[j]? = some ((kvl[j]?.map (·.1)).getD (.inl none), y) ∧ RelV y u := fun j => by
    cases e : its.toArray[j]? with
    | none => exact ⟨.none, fun v e' => by cases e'⟩
    | some v =>
      have e' : its[j]? = some v := by simpa using e
      have hj : j < kvl.length := by rw [← hl2]; exact (List.getElem?_eq_some_iff.mp e').1
      obtain ⟨t, et, ht⟩ := hpr j _ (List.getElem?_eq_getElem hj)
      obtain ⟨ht1, its2, rt, hT⟩ := I.hok t _ ht
      obtain ⟨u1, u2, rfl, r1, r2⟩ := vals2 rt
      have ev : v = .ref t := by
        obtain ⟨v', e1, r'⟩ := Vals.get rv et
        rw [e'] at e1
        cases e1
        exact r'
      refine ⟨u2, fun v' ev' => ?_⟩
      cases ev'
      rw [List.getElem?_eq_getElem hj]
      exact ⟨t, ev, ⟨u1, hT.tup, kV_is r1⟩, kvl[j].2, rfl, r2⟩
  obtain ⟨val, hval⟩ := Classical.axiomOfChoice hpair
  refine DK.call_pairsT (knd := mixKind X.prog X.w) (o := ob) (I.ok.hd hc) hget hcl hdt hdn (fun j => (kvl[j]?.map (·.1)).getD (.inl none)) val (fun j v e => ?_) (by rw [List.size_toArray, ← rv.length]; exact hz) fun h' tk hD hk => ?_
  · obtain ⟨t, e1, e2, _⟩ := hval j v e
    exact ⟨t, e1, e2⟩
  · rw [show its.toArray.size = kvl.length from hl2] at hD
    have hkv := kv_fold (kvl := kvl) (n := kvl.length) (key := fun j => (kvl[j]?.map (·.1)).getD (.inl none)) (val := val) (fun i hi => by
      have hi2 : i < its.toArray.size := by rw [List.size_toArray, hl2]; exact hi
      obtain ⟨t, _, _, y, e1, e2⟩ := hval i _ (Array.getElem?_eq_getElem hi2)
      exact ⟨y, e1, e2⟩)
    rw [List.take_length] at hkv
    have hl3 := dOf_len kvl
    refine ⟨.ref s.heap.objs.size, _, I.laid (t' := tk) hk (Nat.le_refl _) (dk_new (by rw [hlen] at hz; exact Nat.le_trans hl3 hz) ?_ hkv hD), rfl, q _ (I.hok.fresh (Nat.le_refl _))⟩
    have := I.big
    exact beq_false_of_ne (Nat.ne_of_gt this)
/-- d.update(e), e another dict -/
def rDUpd : V → List V → Hp → VK → Prop := fun x vs H Q => ∃ a b kvs more, x = .ref a ∧ vs = [.ref b] ∧ a ≠ b ∧ H a = some (.dK kvs) ∧ H b = some (.dK more) ∧ kvs.length + more.length ≤ sizeLine ∧ Q .non (upd H a (.dK (mergeK kvs more)))
theorem mt_dupdate : MtM X "dict.update" rDUpd := by
  intro pins s σ H x vs v us Q I rx rv h
  obtain ⟨a, b, kvs, more, rfl, rfl, hab, ha, hb, hz, q⟩ := h
  cases rx
  obtain ⟨u, rfl, ru⟩ := rv.one
  cases ru
  obtain ⟨z1, hd1, vs1, rel1, dd1⟩ := dk_of I.hok ha
  obtain ⟨z2, hd2, vs2, rel2, dd2⟩ := dk_of I.hok hb
  refine call_meetsIn PySem.F.slot_dict_update dd1.typeIs PySem.F.entry_dict_update (PySem.F.args_dict_update_2 _ _) (meets_dict_update (mixKind X.prog X.w) a b hab hd2) ⟨vs1, vs2, dd1, dd2, by rw [← rel1.length, ← rel2.length]; exact hz, fun h' dd' dd2' hs => ⟨.non, _, ?_, rfl, q⟩⟩
  have he : ∃ q, h'.get? a = some q := let ⟨q, _, _, hq, _⟩ := dd'; ⟨q, hq⟩
  exact d_write (t' := s.toks) I (by rw [ha]; exact True.intro) hs he (dk_new (Nat.le_trans (length_mergeK more kvs) hz) hd1 (KV.merge rel2 rel1) dd')
end L2

set_option Elab.async false
set_option linter.all false
set_option maxRecDepth 100000
set_option maxHeartbeats 4000000
/-! list.insert; a comprehension over a tuple. Own work. -/
namespace L2
open PySem PySem.Spec PyProof.Rows
section
variable {X : Cx}
/-- // by a positive divisor that may be long -/
theorem op_fdivL : OpR X (binaryOp .FloorDiv) (rI (fun _ j => 0 < j ∧ j.natAbs.log2 < 9000) fun i j => .int (i / j)) := opI fun i j _ _ _ _ _ hc q => by
  have h1 : (0 : Int) < j := hc.1
  exact floordiv_int (by lia) (by rw [Int.fdiv_eq_ediv_of_nonneg i (by lia)]; exact q) (.inl (PyProof.noPylong_of_log2 hc.2))
end
end L2

set_option Elab.async false
set_option linter.all false
set_option maxRecDepth 100000
set_option maxHeartbeats 4000000
set_option exponentiation.threshold 3000
/-! k69: inner_cores, with_inner, cores_within. Own work. -/
namespace K69
open PySem L2 Builtin.Str MC
abbrev sInner : Stmt := top 1
abbrev sWith : Stmt := top 2
abbrev sWithin : Stmt := top 3
/-- the cores in a core -/
def ins : Core → List Core
  | .fn _ b => [b]
  | .call f as => f :: as.list
  | .pick a b c => [a, b, c]
  | .now c => [c]
  | _ => []
/-- a core with other cores in it -/
def wth : Core → List Core → Core
  | .fn ps b, ks => .fn ps (ks.headD b)
  | .call f as, ks => .call (ks.headD f) (Cores.of ks.tail)
  | .pick a b c, ks => match ks with
    | [x, y, z] => .pick x y z
    | _ => .pick a b c
  | .now c, ks => .now (ks.headD c)
  | c, _ => c
mutual
def pre : Core → List Core
  | .fn ps b => .fn ps b :: pre b
  | .call f as => .call f as :: (pre f ++ pres as)
  | .pick a b c => .pick a b c :: (pre a ++ (pre b ++ pre c))
  | .now c => .now c :: pre c
  | .num z => [.num z]
  | .free n => [.free n]
  | .seen p => [.seen p]
def pres : Cores → List Core
  | .nil => []
  | .cons c r => pre c ++ pres r
end
def preL (cs : List Core) : List Core := (cs.map pre).flatten
theorem preL_append (a b : List Core) : preL (a ++ b) = preL a ++ preL b := by unfold preL; rw [List.map_append, List.flatten_append]
theorem preL_cons (a : Core) (b : List Core) : preL (a :: b) = pre a ++ preL b := by unfold preL; rw [List.map_cons, List.flatten_cons]
theorem pres_list : ∀ as : Cores, pres as = preL as.list
  | .nil => by simp only [pres, Cores.list]; rfl
  | .cons c r => by simp only [pres, Cores.list]; rw [preL_cons, pres_list r]
theorem pre_ins (c : Core) : pre c = c :: preL (ins c) := by
  cases c with
  | fn ps b => simp only [pre, ins, preL_cons]; simp [preL]
  | call f as => simp only [pre, ins, preL_cons]; rw [pres_list]
  | pick a b c => simp only [pre, ins, preL_cons]; simp [preL]
  | now c => simp only [pre, ins, preL_cons]; simp [preL]
  | num z => simp [pre, ins, preL]
  | free z => simp [pre, ins, preL]
  | seen z => simp [pre, ins, preL]
def szL (cs : List Core) : Nat := (preL cs).length
theorem szL_append (a b : List Core) : szL (a ++ b) = szL a + szL b := by unfold szL; rw [preL_append, List.length_append]
theorem szL_reverse : ∀ a : List Core, szL a.reverse = szL a
  | [] => rfl
  | a :: r => by
    rw [List.reverse_cons, szL_append, szL_reverse r]
    unfold szL
    rw [preL_cons, preL_cons, List.length_append, List.length_append]
    simp [preL]; lia
theorem szL_cons (a : Core) (b : List Core) : szL (a :: b) = (pre a).length + szL b := by unfold szL; rw [preL_cons, List.length_append]
theorem pre_pos (c : Core) : 1 ≤ (pre c).length := by rw [pre_ins]; simp
theorem len_szL : ∀ cs : List Core, cs.length ≤ szL cs
  | [] => Nat.zero_le _
  | c :: r => by
    have h1 := len_szL r
    have h2 := pre_pos c
    rw [szL_cons, List.length_cons]; lia
theorem unsnoc {α : Type} {R : α → V → Prop} {xs : List α} {vs : List V} {a : α} (h : Al R (xs ++ [a]) vs) : ∃ vs' v, vs = vs' ++ [v] ∧ R a v ∧ Al R xs vs' := by
  obtain ⟨vs', v, e, h1, h2⟩ := h.cut
  exact ⟨vs', v, e, h2, h1⟩
theorem alrev {α : Type} {R : α → V → Prop} : ∀ {xs : List α} {vs : List V}, Al R xs vs → Al R xs.reverse vs.reverse
  | [], vs, h => by rw [h.nil_of]; exact Al.nil
  | a :: r, vs, h => by
    obtain ⟨v, vs', rfl, h1, h2⟩ := h.uncons
    rw [List.reverse_cons, List.reverse_cons]
    exact (alrev h2).snoc h1
theorem tuplst {H : Hp} {D : Addr} {xs ys : List V} (h : H D = some (.lst xs)) : Tup H (upd H D (.lst ys)) := fun e zs q => by rw [upd_ne (kind_ne q h (fun z => nomatch z))]; exact q
theorem last_ref {xs : List V} {v : V} : atI (xs ++ [v]) (-1) = some v := by
  unfold atI ixN
  rw [if_neg (by decide), if_pos (by rw [List.length_append, List.length_singleton]; lia)]
  show (xs ++ [v])[(-1 + ((xs ++ [v]).length : Int)).toNat]? = some v
  rw [show (-1 + ((xs ++ [v]).length : Int)).toNat = xs.length by rw [List.length_append, List.length_singleton]; lia, List.getElem?_append_right (Nat.le_refl _), Nat.sub_self]
  rfl
theorem cut_tail (x : V) (xs : List V) : cutV (x :: xs) (some 1) none = xs := by
  unfold cutV
  rw [HT.sIx_none]
  have e : HT.sIx (x :: xs).length 0 (some 1) = 1 := by
    have := HT.sIx_nat (x :: xs).length 0 1
    rw [List.length_cons] at this ⊢
    rw [show (some (1 : Int)) = some (((1 : Nat) : Int)) from rfl, this]
    lia
  rw [e, List.length_cons, Nat.add_sub_cancel]
  show xs.take xs.length = xs
  exact List.take_length
theorem cut_no (x : V) (xs : List V) : ¬ (HT.sIx (x :: xs).length 0 (some 1) = 0 ∧ HT.sIx (x :: xs).length (x :: xs).length none = (x :: xs).length) := fun h => by
  have := HT.sIx_nat (x :: xs).length 0 1
  rw [List.length_cons] at this
  have h1 := h.1
  rw [show (some (1 : Int)) = some (((1 : Nat) : Int)) from rfl, List.length_cons, this] at h1
  lia
/-- what lies in it -/
def InR (H : Hp) : Core → V → List V → Prop
  | .fn _ _, v, xs => ∃ t p b, v = .ref t ∧ H t = some (.tup [.str "fn", p, b]) ∧ xs = [b]
  | .call _ _, v, xs => ∃ t f a l, v = .ref t ∧ H t = some (.tup [.str "call", f, .ref a]) ∧ H a = some (.tup l) ∧ xs = f :: l
  | .pick _ _ _, v, xs => ∃ t x y z, v = .ref t ∧ H t = some (.tup [.str "pick", x, y, z]) ∧ xs = [x, y, z]
  | .now _, v, xs => ∃ t x, v = .ref t ∧ H t = some (.tup [.str "now", x]) ∧ xs = [x]
  | _, _, xs => xs = []
theorem InR.tup {H H' : Hp} (s : Tup H H') : ∀ {c : Core} {v : V} {xs : List V}, InR H c v xs → InR H' c v xs
  | .fn _ _, v, xs, h => by obtain ⟨t, p, b, e, h1, e2⟩ := h; exact ⟨t, p, b, e, s _ _ h1, e2⟩
  | .call _ _, v, xs, h => by obtain ⟨t, f, a, l, e, h1, h2, e2⟩ := h; exact ⟨t, f, a, l, e, s _ _ h1, s _ _ h2, e2⟩
  | .pick _ _ _, v, xs, h => by obtain ⟨t, x, y, z, e, h1, e2⟩ := h; exact ⟨t, x, y, z, e, s _ _ h1, e2⟩
  | .now _, v, xs, h => by obtain ⟨t, x, e, h1, e2⟩ := h; exact ⟨t, x, e, s _ _ h1, e2⟩
  | .num _, v, xs, h => h
  | .free _, v, xs, h => h
  | .seen _, v, xs, h => h
/-- it with these in it, laid -/
def WtR (H : Hp) : Core → V → List V → V → Prop
  | .fn _ _, v, xs, u => ∃ t p b r x, v = .ref t ∧ H t = some (.tup [.str "fn", p, b]) ∧ u = .ref r ∧ H r = some (.tup [.str "fn", p, x]) ∧ xs = [x]
  | .call _ _, v, xs, u => ∃ r x a l, u = .ref r ∧ H r = some (.tup [.str "call", x, .ref a]) ∧ H a = some (.tup l) ∧ xs = x :: l
  | .pick _ _ _, v, xs, u => ∃ r x y z, u = .ref r ∧ H r = some (.tup [.str "pick", x, y, z]) ∧ xs = [x, y, z]
  | .now _, v, xs, u => ∃ r x, u = .ref r ∧ H r = some (.tup [.str "now", x]) ∧ xs = [x]
  | _, v, _, u => u = v
def spInner : Sp := fun vs H Q _ => ∃ (v : V) (c : Core), vs = [v] ∧ CoreIn H c v ∧ (ins c).length ≤ 100000 ∧ ∀ (H' : Hp) (D : Addr) (xs : List V), Same H H' → H D = none → H' D = some (.lst xs) → Al (CoreIn H') (ins c) xs → InR H' c v xs → Q (.ref D) H'
def spWithin : Sp := fun vs H Q _ => ∃ (v : V) (c : Core), vs = [v] ∧ CoreIn H c v ∧ (pre c).length ≤ 100000 ∧ ∀ (H' : Hp) (D : Addr) (xs : List V), Same H H' → H D = none → H' D = some (.lst xs) → Al (CoreIn H') (pre c) xs → Q (.ref D) H'
section
variable {P : Program} {w : World} {K : PySem.W.Frag} {mg : Str → Option Value} {base : Heap} {C op : Addr}
theorem scInner : FnScope ["core"] ["core"] (defScope sInner) := ⟨rfl, rfl, rfl, by decide +kernel, rfl, by decide +kernel, by decide +kernel⟩
theorem ok_inner {f : Addr} {fd : FuncData} (F : Fun K "inner_cores" "inner_cores" sInner f fd) (T : MT K mg C op) : FnOk P w K mg base CX0 1 f fd ["core"] spInner := by
  refine F.ok scInner (fun vs H Q E h => ?_) (fun cdv A outer s H vs Q E hr h => ?_)
  · obtain ⟨v, c, rfl, _⟩ := h; rfl
  · obtain ⟨v, c, rfl, hc, hk, q⟩ := h
    have z1 : 1 ≤ sizeLine := by rw [sizeLine_eq]; decide
    have z2 : 2 ≤ sizeLine := by rw [sizeLine_eq]; decide
    refine ⟨_, pss_cons (ps_if (pt_cmpR op_eq (pe_ixT 0) pe_str (nomark _))
      (pss_one (ps_ret (pe_lst (pa_cons (pe_iwT 0) pa_nil))))
      pss_nil)
      (pss_cons (ps_if (pt_cmpR op_eq (pe_ixT 0) pe_str (nomark _))
      (pss_one (ps_ret (pe_op op_cat (pe_lst (pa_cons (pe_iwT 0) pa_nil)) (pe_callTy call_list_of (by rfl) T.list bt_list (pa_cons (pe_iwT 0) pa_nil)))))
      pss_nil)
      (pss_cons (ps_if (pt_cmpR op_in_seq (pe_iwT 0) (pe_tup (pa_cons pe_str (pa_cons pe_str pa_nil))) rfl)
      (pss_one (ps_ret (pe_callTy call_list_of (by rfl) T.list bt_list (pa_cons (pe_slice sl_tup (pw 0) (po_some pe_int) po_none) pa_nil))))
      pss_nil)
      (pss_one (ps_ret (pe_lst pa_nil))))), ?_⟩
    cases c with
    | num z =>
      obtain ⟨a, rfl, ha⟩ := hc
      refine ify_ne rfl ha rfl rfl (ify_ne rfl ha rfl rfl ?_)
      refine ⟨_, ha, z2, fun p hp => ?_⟩
      refine ⟨p, _, rfl, .inr (SqT.of upd_same), rfl, rfl, false, rfl, iteF ⟨Nat.zero_le _, fun D hD => ?_⟩⟩
      have s2 := (same_upd (o := .tup [.str "pick", .str "now"]) hp).trans (same_upd (o := .lst []) hD)
      exact q _ D [] s2 ((same_upd hp).free hD) upd_same Al.nil rfl
    | free z =>
      obtain ⟨a, rfl, ha⟩ := hc
      refine ify_ne rfl ha rfl rfl (ify_ne rfl ha rfl rfl ?_)
      refine ⟨_, ha, z2, fun p hp => ?_⟩
      refine ⟨p, _, rfl, .inr (SqT.of upd_same), rfl, rfl, false, rfl, iteF ⟨Nat.zero_le _, fun D hD => ?_⟩⟩
      have s2 := (same_upd (o := .tup [.str "pick", .str "now"]) hp).trans (same_upd (o := .lst []) hD)
      exact q _ D [] s2 ((same_upd hp).free hD) upd_same Al.nil rfl
    | seen z =>
      obtain ⟨a, rfl, ha⟩ := hc
      refine ify_ne rfl ha rfl rfl (ify_ne rfl ha rfl rfl ?_)
      refine ⟨_, ha, z2, fun p hp => ?_⟩
      refine ⟨p, _, rfl, .inr (SqT.of upd_same), rfl, rfl, false, rfl, iteF ⟨Nat.zero_le _, fun D hD => ?_⟩⟩
      have s2 := (same_upd (o := .tup [.str "pick", .str "now"]) hp).trans (same_upd (o := .lst []) hD)
      exact q _ D [] s2 ((same_upd hp).free hD) upd_same Al.nil rfl
    | fn ps bb =>
      obtain ⟨a, u, xs, b, rfl, ha, hu, hp, hb⟩ := hc
      refine ify_eq rfl ha rfl ?_
      refine ⟨_, ha, z1, fun D hD => ?_⟩
      exact q _ D [b] (same_upd hD) hD upd_same (Al.one (hb.tup (Tup.of (same_upd hD)))) ⟨a, _, _, rfl, same_upd hD _ _ ha, rfl⟩
    | call ff as' =>
      obtain ⟨a, f', u, as, rfl, ha, hu, hf, has⟩ := hc
      have hal := has.al
      refine ify_ne rfl ha rfl rfl (ify_eq rfl ha rfl ?_)
      refine ⟨_, ha, z1, fun l hl => ?_⟩
      have s1 := same_upd (o := .lst [f']) hl
      refine ⟨_, (s1 _ _ ha), u, as, rfl, .inr (SqT.of (s1 _ _ hu)), fun l2 hl2 => ?_⟩
      have s2 := same_upd (o := .lst as) hl2
      have hlen : as.length = as'.list.length := hal.1
      have hk' : as'.list.length + 1 ≤ 100000 := hk
      refine ⟨l, l2, [f'], as, rfl, rfl, s2 _ _ upd_same, upd_same, by rw [sizeLine_eq]; show 1 + as.length ≤ _; lia, fun D hD => ?_⟩
      have s3 := same_upd (o := .lst ([f'] ++ as)) hD
      have s := (s1.trans s2).trans s3
      exact q _ D (f' :: as) s ((s1.trans s2).free hD) upd_same (Al.cons (hf.tup (Tup.of s)) (hal.mono fun _ _ r => r.tup (Tup.of s))) ⟨a, f', u, as, rfl, s _ _ ha, s _ _ hu, rfl⟩
    | pick c1 c2 c3 =>
      obtain ⟨a, x, y, z, rfl, ha, hx, hy, hz⟩ := hc
      refine ify_ne rfl ha rfl rfl (ify_ne rfl ha rfl rfl ?_)
      refine ⟨_, ha, z2, fun p hp => ?_⟩
      have s1 := same_upd (o := .tup [.str "pick", .str "now"]) hp
      refine ⟨p, _, rfl, .inr (SqT.of upd_same), rfl, rfl, true, rfl, iteT ?_⟩
      refine ⟨_, rfl, a, _, rfl, SqT.of (s1 _ _ ha), cut_no _ _, fun p2 hp2 => ?_⟩
      have s2 := same_upd (o := .tup [x, y, z]) hp2
      refine ⟨p2, [x, y, z], rfl, .inr (SqT.of upd_same), fun D hD => ?_⟩
      have s := (s1.trans s2).trans (same_upd (o := .lst [x, y, z]) hD)
      exact q _ D [x, y, z] s ((s1.trans s2).free hD) upd_same (Al.cons (hx.tup (Tup.of s)) (Al.cons (hy.tup (Tup.of s)) (Al.one (hz.tup (Tup.of s))))) ⟨a, x, y, z, rfl, s _ _ ha, rfl⟩
    | now c1 =>
      obtain ⟨a, x, rfl, ha, hx⟩ := hc
      refine ify_ne rfl ha rfl rfl (ify_ne rfl ha rfl rfl ?_)
      refine ⟨_, ha, z2, fun p hp => ?_⟩
      have s1 := same_upd (o := .tup [.str "pick", .str "now"]) hp
      refine ⟨p, _, rfl, .inr (SqT.of upd_same), rfl, rfl, true, rfl, iteT ?_⟩
      refine ⟨_, rfl, a, _, rfl, SqT.of (s1 _ _ ha), cut_no _ _, fun p2 hp2 => ?_⟩
      have s2 := same_upd (o := .tup [x]) hp2
      refine ⟨p2, [x], rfl, .inr (SqT.of upd_same), fun D hD => ?_⟩
      have s := (s1.trans s2).trans (same_upd (o := .lst [x]) hD)
      exact q _ D [x] s ((s1.trans s2).free hD) upd_same (Al.one (hx.tup (Tup.of s))) ⟨a, x, rfl, s _ _ ha, rfl⟩
/-- the walk's state -/
def WithinW (H : Hp) (c : Core) (v0 : V) (D1 D2 : Addr) (m : Nat) (σ : St) (H5 : Hp) : Prop := ∃ (v3 : Option V) (xs ls : List V) (done st : List Core), σ = [some v0, some (.ref D1), some (.ref D2), v3] ∧ Same H H5 ∧ H5 D1 = some (.lst xs) ∧ H5 D2 = some (.lst ls) ∧
  Al (CoreIn H5) done xs ∧ Al (CoreIn H5) st ls ∧ pre c = done ++ preL st.reverse ∧ m = szL st
abbrev NWithin : List Str := ["core", "found", "left", "inner"]
theorem scWithin : FnScope NWithin ["core"] (defScope sWithin) := ⟨rfl, rfl, rfl, by decide +kernel, rfl, by decide +kernel, by decide +kernel⟩
theorem ok_within {f fI : Addr} {fd fdI : FuncData} (F : Fun K "cores_within" "cores_within" sWithin f fd) (T : MT K mg C op)
    (FI : Fun K "inner_cores" "inner_cores" sInner fI fdI) (bI : Binds K fdI ["core"] []) (mI : mg "inner_cores" = some (.ref fI)) : FnOk P w K mg base CX0 2 f fd ["core"] spWithin := by
  have GI : FnOk P w K mg base CX0 1 fI fdI ["core"] spInner := ok_inner FI T
  refine F.ok scWithin (fun vs H Q E h => ?_) (fun cdv A outer s H vs Q E hr h => ?_)
  · obtain ⟨v, c, rfl, _⟩ := h; rfl
  · obtain ⟨v0, c, rfl, hc, hsz, q⟩ := h
    have nd := scWithin.nd
    have z1 : 1 ≤ sizeLine := by rw [sizeLine_eq]; decide
    refine ⟨_, pss_cons (ps_set (i := 1) nd rfl (Or.inl rfl) (pe_lst pa_nil))
      (pss_cons (ps_set (i := 2) nd rfl (Or.inl rfl) (pe_lst (pa_cons (pw 0) pa_nil)))
      (pss_cons (ps_while PassesOwn.never (pt_cmpR op_gtW (pe_callB call_len_seq (by rfl) T.len bt_len (pa_cons (pw 2) pa_nil)) pe_int (nomark _))
      (pss_cons (ps_expr (pe_bm PySem.F.plainAttrs_list PySem.F.slot_list_append PySem.F.type_list_append mt_appW (pw 1) (pa_cons (pe_bm0 PySem.F.plainAttrs_list PySem.F.slot_list_pop PySem.F.type_list_pop mt_pop (pw 2)) pa_nil)))
        (pss_one (ps_for PassesOwn.never rfl (pi_rev (by rfl) T.rev (pe_call GI hr (by rfl) mI FI.kp bI .nil pass0 (pa_cons (pe_ix ix_list (pw 1) (pe_un un_neg pe_int) (fun _ _ => rfl)) pa_nil))) (pg_name (i := 3) nd rfl (Or.inl rfl))
        (pss_one (ps_expr (pe_bm PySem.F.plainAttrs_list PySem.F.slot_list_append PySem.F.type_list_append mt_appW (pw 2) (pa_cons (pw 3) pa_nil))))))))
      (pss_one (ps_ret (pw 1))))), ?_⟩
    refine ⟨Nat.zero_le _, fun D1 hD1 => ⟨z1, fun D2 hD2 => ?_⟩⟩
    have s1 := same_upd (o := .lst []) hD1
    have s2 := same_upd (o := .lst [v0]) hD2
    have n12 : D1 ≠ D2 := ne_of_none (H := upd H D1 (.lst [])) upd_same hD2
    have hD2H : H D2 = none := s1.free hD2
    have s12 := s1.trans s2
    have lenpre : (pre c).length ≤ 100000 := hsz
    refine ⟨WithinW H c v0 D1 D2, ⟨_, none, [], [v0], [], [c], rfl, s12, s2 _ _ upd_same, upd_same, Al.nil, Al.cons (hc.tup (Tup.of s12)) Al.nil, by simp [preL], rfl⟩, ?_⟩
    rintro m σ H5 ⟨v3, xs, ls, done, st, rfl, sH, h1, h2, hx, hl, hpre, rfl⟩
    have hlen := congrArg List.length hpre
    rw [List.length_append, show (preL st.reverse).length = szL st from szL_reverse st] at hlen
    have hst := len_szL st
    refine ⟨D2, _, rfl, .inl (SqL.of h2), _, rfl, ite2 (fun c1 => ?_) (fun c1 => ?_)⟩
    · have hpos : 0 < ls.length := by have := of_decide_eq_true c1; lia
      have hne : st ≠ [] := fun e => by rw [e] at hl; rw [hl.1] at hpos; simp at hpos
      obtain ⟨st', k, rfl⟩ : ∃ st' k, st = st' ++ [k] := ⟨_, _, (List.dropLast_concat_getLast hne).symm⟩
      obtain ⟨ls', v, rfl, hv, hl'⟩ := unsnoc hl
      obtain ⟨ks, eks⟩ : ∃ ks, ks = ins k := ⟨_, rfl⟩
      have hks : szL [k] = szL ks + 1 := by rw [szL_cons, pre_ins, ← eks]; simp [szL, preL]
      refine ⟨fun σ' H' => ∃ m', m' < szL (st' ++ [k]) ∧ WithinW H c v0 D1 D2 m' σ' H', fun _ _ z => z, ?_⟩
      rw [szL_append, hks] at hlen ⊢
      refine ⟨.inl ⟨rfl, _, SqL.of h1⟩, .inl ⟨rfl, _, SqL.of h2⟩, D2, _, v, rfl, rfl, h2, last_at ls' v, ?_⟩
      rw [List.dropLast_concat]
      have t6 : Tup H5 (upd H5 D2 (.lst ls')) := tuplst h2
      have h16 : upd H5 D2 (.lst ls') D1 = some (.lst xs) := by rw [upd_ne n12]; exact h1
      refine ⟨xs, h16, by rw [hx.1, sizeLine_eq]; lia, ?_⟩
      have t7 := t6.trans (tuplst (ys := xs ++ [v]) h16)
      have h17 : upd (upd H5 D2 (.lst ls')) D1 (.lst (xs ++ [v])) D1 = some (.lst (xs ++ [v])) := upd_same
      have h27 : upd (upd H5 D2 (.lst ls')) D1 (.lst (xs ++ [v])) D2 = some (.lst ls') := by rw [upd_ne (Ne.symm n12), upd_same]
      have s7 : Same H (upd (upd H5 D2 (.lst ls')) D1 (.lst (xs ++ [v]))) := fun e o qe => by rw [upd_ne (ne_of_none qe hD1), upd_ne (ne_of_none qe hD2H)]; exact sH _ _ qe
      generalize upd (upd H5 D2 (.lst ls')) D1 (.lst (xs ++ [v])) = H7 at t7 h17 h27 s7 ⊢
      have hv7 := hv.tup t7
      refine ⟨_, rfl, D1, _, _, v, rfl, rfl, SqL.of h17, last_ref, v, k, rfl, hv7, by rw [← eks]; have := len_szL ks; lia, fun H8 D3 ys s8 hD3 h38 hal8 _ => ?_⟩
      rw [← eks] at hal8
      have h18 := s8 _ _ h17
      have h28 := s8 _ _ h27
      have t8 := t7.trans (Tup.of s8)
      have n32 : D3 ≠ D2 := Ne.symm (ne_of_none h27 hD3)
      have n31 : D3 ≠ D1 := Ne.symm (ne_of_none h17 hD3)
      refine ⟨D3, ys, rfl, SqL.of h38, for_rev (K := K) (a := D3) (xs := ys) (fun i σ' H' => (∃ v3, σ' = [some v0, some (.ref D1), some (.ref D2), v3]) ∧ Same H H' ∧ Tup H8 H' ∧ H' D1 = some (.lst (xs ++ [v])) ∧ H' D3 = some (.lst ys) ∧ H' D2 = some (.lst (ls' ++ ys.reverse.take i)))
        ⟨⟨_, rfl⟩, s7.trans s8, Tup.refl _, h18, h38, by rw [List.take_zero, List.append_nil]; exact h28⟩ (fun i σ' H' _ hP => SqL.of hP.2.2.2.2.1) ?_ ?_⟩
      · rintro i x σ' H' hx' hi ⟨⟨v3', rfl⟩, sH', tH', g1, g3, g2⟩
        have hyl : ys.length = ks.length := hal8.1
        have hkl := len_szL ks
        refine ⟨.inl ⟨rfl, _, SqL.of g2⟩, _, g2, by rw [List.length_append, List.length_take, hl'.1, List.length_reverse, sizeLine_eq]; have := len_szL st'; lia, ⟨_, rfl⟩, fun e o qe => ?_, tH'.trans (tuplst g2), ?_, ?_, ?_⟩
        · rw [upd_ne (ne_of_none qe hD2H)]; exact sH' _ _ qe
        · rw [upd_ne n12]; exact g1
        · rw [upd_ne n32]; exact g3
        · have ex : ys.reverse[i]? = some x := by rw [List.getElem?_reverse hi]; exact hx'
          rw [upd_same, List.take_succ, ex, ← List.append_assoc]; rfl
      · rintro σ' H' ⟨⟨v3', rfl⟩, sH', tH', g1, g3, g2⟩
        rw [← List.length_reverse (as := ys), List.take_length] at g2
        refine ⟨szL (st' ++ ks.reverse), by rw [szL_append, szL_reverse]; lia, v3', xs ++ [v], ls' ++ ys.reverse, done ++ [k], st' ++ ks.reverse, rfl, sH', g1, g2, ?_, ?_, ?_, rfl⟩
        · exact (hx.mono fun _ _ r => r.tup (t8.trans tH')).snoc (hv.tup (t8.trans tH'))
        · exact (hl'.mono fun _ _ r => r.tup (t8.trans tH')).append (alrev (hal8.mono fun _ _ r => r.tup tH'))
        · rw [hpre, List.reverse_append, List.reverse_append, List.reverse_reverse, preL_append, preL_append, List.append_assoc]
          rw [show ([k] : List Core).reverse = [k] from rfl, preL_cons, pre_ins, ← eks]
          simp [preL]
    · have hz : ls.length = 0 := by
        have : ¬ (0 : Int) < (ls.length : Int) := fun z => c1 (decide_eq_true z)
        lia
      have est : st = [] := List.length_eq_zero_iff.mp (by rw [← hl.1]; exact hz)
      subst est
      refine (q H5 D1 xs sH hD1 h1 ?_)
      rw [hpre]
      simpa [preL] using hx
end
end K69

set_option Elab.async false
set_option linter.all false
set_option maxRecDepth 100000
set_option maxHeartbeats 4000000
set_option exponentiation.threshold 3000
/-! k69: with_inner. Own work. -/
namespace K69
open PySem L2 Builtin.Str MC
/-- a tuple and a tuple: theirs lies somewhere -/
def rCatTA (K : PySem.W.Frag) : R2 := fun x y H Q => ∃ a b xs ys, x = .ref a ∧ y = .ref b ∧ H a = some (.tup xs) ∧ SqT K H b ys ∧ xs ≠ [] ∧ xs.length + ys.length ≤ sizeLine ∧ ∀ (p : Addr) (H' : Hp), Same H H' → H' p = some (.tup (xs ++ ys)) → Q (.ref p) H'
theorem op_catTA {X : Cx} : OpR X (binaryOp .Add) (rCatTA X.K) := by
  intro pins s σ H x y v u Q I rx ry h
  obtain ⟨a, b, xs, ys, rfl, rfl, ha, hb, hx, hz, q⟩ := h
  exact op_catT pins s σ H _ _ v u Q I rx ry ⟨a, b, xs, ys, rfl, rfl, SqT.of ha, hb, hx, hz, (fun e => q a H (Same.refl H) (by rw [e, List.append_nil]; exact ha)), fun _ p hp => q p _ (same_upd hp) upd_same⟩
theorem three_of {α : Type} {xs : List α} (h : xs.length = 3) : ∃ a b c, xs = [a, b, c] := by
  cases xs with
  | nil => cases h
  | cons a r => cases r with
    | nil => cases h
    | cons b r => cases r with
      | nil => cases h
      | cons c r => cases r with
        | nil => exact ⟨a, b, c, rfl⟩
        | cons d r => cases h
theorem bt_tuple' : bootBuiltins "tuple" = some (.type "tuple") := by decide +kernel
def spWith : Sp := fun vs H Q _ => ∃ (v : V) (c : Core) (l : Addr) (ks : List Core) (xs : List V), vs = [v, .ref l] ∧ CoreIn H c v ∧ H l = some (.lst xs) ∧ Al (CoreIn H) ks xs ∧ ks.length = (ins c).length ∧ ks.length ≤ 100000 ∧
  ∀ (H' : Hp) (u : V), Same H H' → CoreIn H' (wth c ks) u → WtR H' c v xs u → Q u H'
section
variable {P : Program} {w : World} {K : PySem.W.Frag} {mg : Str → Option Value} {base : Heap} {C op : Addr}
theorem scWith : FnScope ["core", "inner"] ["core", "inner"] (defScope sWith) := ⟨rfl, rfl, rfl, by decide +kernel, rfl, by decide +kernel, by decide +kernel⟩
theorem ok_with {f : Addr} {fd : FuncData} (F : Fun K "with_inner" "with_inner" sWith f fd) (T : MT K mg C op) : FnOk P w K mg base CX0 1 f fd ["core", "inner"] spWith := by
  refine F.ok scWith (fun vs H Q E h => ?_) (fun cdv A outer s H vs Q E hr h => ?_)
  · obtain ⟨v, c, l, ks, xs, rfl, _⟩ := h; rfl
  · obtain ⟨v, c, l, ks, xs, rfl, hc, hl, hks, hkl, hk, q⟩ := h
    have z1 : 1 ≤ sizeLine := by rw [sizeLine_eq]; decide
    have z2 : 2 ≤ sizeLine := by rw [sizeLine_eq]; decide
    have z3 : 3 ≤ sizeLine := by rw [sizeLine_eq]; decide
    refine ⟨_, pss_cons (ps_if (pt_cmpR op_eq (pe_ixT 0) pe_str (nomark _))
      (pss_one (ps_ret (pe_tup (pa_cons pe_str (pa_cons (pe_iwT 0) (pa_cons (pe_iwL 1) pa_nil))))))
      pss_nil)
      (pss_cons (ps_if (pt_cmpR op_eq (pe_ixT 0) pe_str (nomark _))
      (pss_one (ps_ret (pe_tup (pa_cons pe_str (pa_cons (pe_iwL 1) (pa_cons (pe_callTy call_tuple_of (by rfl) T.tuple bt_tuple' (pa_cons (pe_slice sl_list (pw 1) (po_some pe_int) po_none) pa_nil)) pa_nil))))))
      pss_nil)
      (pss_cons (ps_if (pt_cmpR op_in_seq (pe_iwT 0) (pe_tup (pa_cons pe_str (pa_cons pe_str pa_nil))) rfl)
      (pss_one (ps_ret (pe_op op_catTA (pe_tup (pa_cons (pe_iwT 0) pa_nil)) (pe_callTy call_tuple_of (by rfl) T.tuple bt_tuple' (pa_cons (pw 1) pa_nil)))))
      pss_nil)
      (pss_one (ps_ret (pw 0))))), ?_⟩
    cases c with
    | num z =>
      have hc' := hc
      obtain ⟨a, rfl, ha⟩ := hc'
      refine ify_ne rfl ha rfl rfl (ify_ne rfl ha rfl rfl ?_)
      refine ⟨_, ha, z2, fun p hp => ?_⟩
      have s1 := same_upd (o := .tup [.str "pick", .str "now"]) hp
      exact ⟨p, _, rfl, .inr (SqT.of upd_same), rfl, rfl, false, rfl, iteF (q _ _ s1 (hc.tup (Tup.of s1)) rfl)⟩
    | free z =>
      have hc' := hc
      obtain ⟨a, rfl, ha⟩ := hc'
      refine ify_ne rfl ha rfl rfl (ify_ne rfl ha rfl rfl ?_)
      refine ⟨_, ha, z2, fun p hp => ?_⟩
      have s1 := same_upd (o := .tup [.str "pick", .str "now"]) hp
      exact ⟨p, _, rfl, .inr (SqT.of upd_same), rfl, rfl, false, rfl, iteF (q _ _ s1 (hc.tup (Tup.of s1)) rfl)⟩
    | seen z =>
      have hc' := hc
      obtain ⟨a, rfl, ha⟩ := hc'
      refine ify_ne rfl ha rfl rfl (ify_ne rfl ha rfl rfl ?_)
      refine ⟨_, ha, z2, fun p hp => ?_⟩
      have s1 := same_upd (o := .tup [.str "pick", .str "now"]) hp
      exact ⟨p, _, rfl, .inr (SqT.of upd_same), rfl, rfl, false, rfl, iteF (q _ _ s1 (hc.tup (Tup.of s1)) rfl)⟩
    | fn ps bb =>
      obtain ⟨a, u, vs, b, rfl, ha, hu, hp, hb⟩ := hc
      obtain ⟨k1, rfl⟩ : ∃ k1, ks = [k1] := List.length_eq_one_iff.mp hkl
      obtain ⟨x1, xs', rfl, h1, h2⟩ := hks.uncons
      have e0 := h2.nil_of
      subst e0
      refine ify_eq rfl ha rfl ?_
      refine ⟨_, ha, _, hl, z3, fun D hD => ?_⟩
      have s1 := same_upd (o := .tup [.str "fn", .ref u, x1]) hD
      exact q _ _ s1 (core_fn upd_same (s1 _ _ hu) (hp.mono fun _ _ r => r.tup (Tup.of s1)) (h1.tup (Tup.of s1))) ⟨a, _, _, D, x1, rfl, s1 _ _ ha, rfl, upd_same, rfl⟩
    | call ff as' =>
      obtain ⟨a, f', u, as, rfl, ha, hu, hf, has⟩ := hc
      obtain ⟨k1, kr, rfl⟩ : ∃ k1 kr, ks = k1 :: kr := by
        cases ks with
        | nil => exact absurd hkl (by simp [ins])
        | cons k1 kr => exact ⟨k1, kr, rfl⟩
      obtain ⟨x1, xs', rfl, h1, h2⟩ := hks.uncons
      refine ify_ne rfl ha rfl rfl (ify_eq rfl ha rfl ?_)
      have i0 : atI (x1 :: xs') 0 = some x1 := atI_nat (j := 0) rfl
      refine ⟨_, hl, ax_of i0 ⟨_, rfl, l, _, rfl, SqL.of hl, fun p2 hp2 => ?_⟩⟩
      rw [cut_tail]
      have s1 := same_upd (o := .lst xs') hp2
      have f1 : upd H p2 (.lst xs') p2 = some (.lst xs') := upd_same
      generalize upd H p2 (.lst xs') = H1 at s1 f1 ⊢
      refine ⟨p2, _, rfl, .inl ⟨SqL.of f1, fun t2 ht2 => ⟨z3, fun D hD => ?_⟩⟩⟩
      have s2 := same_upd (o := .tup xs') ht2
      have f2 : upd H1 t2 (.tup xs') t2 = some (.tup xs') := upd_same
      generalize upd H1 t2 (.tup xs') = H2 at s2 f2 hD ⊢
      have s3 := same_upd (o := .tup [.str "call", x1, .ref t2]) hD
      have st := (s1.trans s2).trans s3
      exact q _ _ st (core_call upd_same (s3 _ _ f2) (h1.tup (Tup.of st)) (h2.mono fun _ _ r => r.tup (Tup.of st))) ⟨D, x1, t2, xs', rfl, upd_same, s3 _ _ f2, rfl⟩
    | pick c1 c2 c3 =>
      obtain ⟨a, x, y, z, rfl, ha, hx, hy, hz⟩ := hc
      obtain ⟨k1, k2, k3, rfl⟩ := three_of hkl
      obtain ⟨x1, xs1, rfl, h1, hks⟩ := hks.uncons
      obtain ⟨x2, xs2, rfl, h2, hks⟩ := hks.uncons
      obtain ⟨x3, xs3, rfl, h3, hks⟩ := hks.uncons
      have e0 := hks.nil_of
      subst e0
      refine ify_ne rfl ha rfl rfl (ify_ne rfl ha rfl rfl ?_)
      refine ⟨_, ha, z2, fun p hp => ?_⟩
      have s1 := same_upd (o := .tup [.str "pick", .str "now"]) hp
      refine ⟨p, _, rfl, .inr (SqT.of upd_same), rfl, rfl, true, rfl, iteT ?_⟩
      generalize upd H p (.tup [.str "pick", .str "now"]) = H1 at s1 ⊢
      refine ⟨_, (s1 _ _ ha), z1, fun p2 hp2 => ?_⟩
      have s2 := same_upd (o := .tup [.str "pick"]) hp2
      have f2 : upd H1 p2 (.tup [.str "pick"]) p2 = some (.tup [.str "pick"]) := upd_same
      generalize upd H1 p2 (.tup [.str "pick"]) = H2 at s2 f2 ⊢
      refine ⟨l, _, rfl, .inl ⟨SqL.of ((s1.trans s2) _ _ hl), fun t2 ht2 => ?_⟩⟩
      have s3 := same_upd (o := .tup [x1, x2, x3]) ht2
      have f3 : upd H2 t2 (.tup [x1, x2, x3]) t2 = some (.tup [x1, x2, x3]) := upd_same
      generalize upd H2 t2 (.tup [x1, x2, x3]) = H3 at s3 f3 ⊢
      refine ⟨p2, t2, _, _, rfl, rfl, s3 _ _ f2, SqT.of f3, by simp, by rw [sizeLine_eq]; show 1 + 3 ≤ _; lia, fun D H4 s4 hD => ?_⟩
      have st := ((s1.trans s2).trans s3).trans s4
      exact q _ _ st (core_pick hD (h1.tup (Tup.of st)) (h2.tup (Tup.of st)) (h3.tup (Tup.of st))) ⟨D, x1, x2, x3, rfl, hD, rfl⟩
    | now c1 =>
      obtain ⟨a, x, rfl, ha, hx⟩ := hc
      obtain ⟨k1, rfl⟩ : ∃ k1, ks = [k1] := List.length_eq_one_iff.mp hkl
      obtain ⟨x1, xs1, rfl, h1, hks⟩ := hks.uncons
      have e0 := hks.nil_of
      subst e0
      refine ify_ne rfl ha rfl rfl (ify_ne rfl ha rfl rfl ?_)
      refine ⟨_, ha, z2, fun p hp => ?_⟩
      have s1 := same_upd (o := .tup [.str "pick", .str "now"]) hp
      refine ⟨p, _, rfl, .inr (SqT.of upd_same), rfl, rfl, true, rfl, iteT ?_⟩
      generalize upd H p (.tup [.str "pick", .str "now"]) = H1 at s1 ⊢
      refine ⟨_, (s1 _ _ ha), z1, fun p2 hp2 => ?_⟩
      have s2 := same_upd (o := .tup [.str "now"]) hp2
      have f2 : upd H1 p2 (.tup [.str "now"]) p2 = some (.tup [.str "now"]) := upd_same
      generalize upd H1 p2 (.tup [.str "now"]) = H2 at s2 f2 ⊢
      refine ⟨l, _, rfl, .inl ⟨SqL.of ((s1.trans s2) _ _ hl), fun t2 ht2 => ?_⟩⟩
      have s3 := same_upd (o := .tup [x1]) ht2
      have f3 : upd H2 t2 (.tup [x1]) t2 = some (.tup [x1]) := upd_same
      generalize upd H2 t2 (.tup [x1]) = H3 at s3 f3 ⊢
      refine ⟨p2, t2, _, _, rfl, rfl, s3 _ _ f2, SqT.of f3, by simp, by rw [sizeLine_eq]; show 1 + 1 ≤ _; lia, fun D H4 s4 hD => ?_⟩
      have st := ((s1.trans s2).trans s3).trans s4
      exact q _ _ st (core_now hD (h1.tup (Tup.of st))) ⟨D, x1, rfl, hD, rfl⟩
end
end K69

set_option Elab.async false
set_option linter.all false
set_option maxRecDepth 100000
set_option maxHeartbeats 4000000
/-! k69: what a dict that was updated knows; parameters as pairs. Own work. -/
namespace K69
open PySem L2 Builtin.Str MC
def Has (kvs : List (Key × V)) (k : Key) : Prop := ∃ v, valV kvs k = some v
theorem has_put {kvs : List (Key × V)} {k j : Key} {y : V} : Has (putK kvs k y) j ↔ j = k ∨ Has kvs j := by
  unfold Has
  rw [valV_put]
  by_cases e : j = k
  · rw [if_pos e]; exact ⟨fun _ => .inl e, fun _ => ⟨y, rfl⟩⟩
  · rw [if_neg e]; exact ⟨fun h => .inr h, fun h => h.resolve_left e⟩
theorem has_fold (j : Key) : ∀ (more kvs : List (Key × V)), Has (more.foldl (fun a p => putK a p.1 p.2) kvs) j ↔ j ∈ more.map (·.1) ∨ Has kvs j
  | [], kvs => by simp
  | p :: r, kvs => by
    rw [List.foldl_cons, has_fold j r, has_put, List.map_cons, List.mem_cons]
    constructor
    · rintro (h | h | h)
      · exact .inl (.inr h)
      · exact .inl (.inl h)
      · exact .inr h
    · rintro ((h | h) | h)
      · exact .inr (.inl h)
      · exact .inl h
      · exact .inr (.inr h)
theorem has_mem {kvs : List (Key × V)} {k : Key} : Has kvs k ↔ k ∈ kvs.map (·.1) := by
  unfold Has valV
  constructor
  · rintro ⟨v, h⟩
    obtain ⟨p, hp, _⟩ := Option.map_eq_some_iff.mp h
    have h1 := List.mem_of_find?_eq_some hp
    have h2 := List.find?_some hp
    exact List.mem_map.mpr ⟨p, h1, of_decide_eq_true h2⟩
  · intro h
    obtain ⟨p, hp, e⟩ := List.mem_map.mp h
    cases hf : kvs.find? (fun kv => decide (kv.1 = k)) with
    | some q => exact ⟨q.2, rfl⟩
    | none =>
      have := List.find?_eq_none.mp hf p hp
      rw [e] at this
      simp at this
theorem has_dOf {kvl : List (Key × V)} {k : Key} : Has (dOf kvl) k ↔ k ∈ kvl.map (·.1) := by
  unfold dOf
  rw [has_fold]
  constructor
  · rintro (h | ⟨v, h⟩)
    · exact h
    · exact nomatch h
  · exact .inl
theorem has_merge {kvs kvl : List (Key × V)} {k : Key} : Has (mergeK kvs (dOf kvl)) k ↔ k ∈ kvl.map (·.1) ∨ Has kvs k := by
  unfold mergeK
  rw [has_fold, ← has_mem, has_dOf]
/-- the parameters as pairs of a dict -/
theorem pairs_of {H : Hp} : ∀ {ps : List Int} {xs : List V}, Al (PIn H) ps xs → ∃ kvl : List (Key × V), xs.length = kvl.length ∧ (∀ (i : Nat) kv, kvl[i]? = some kv → ∃ t, xs[i]? = some (.ref t) ∧ H t = some (.tup [kV kv.1, kv.2])) ∧ kvl.map (·.1) = ps.map (fun p => (.inl (some p) : Key))
  | [], xs, h => by
    rw [h.nil_of]
    exact ⟨[], rfl, fun i kv e => by simp at e, rfl⟩
  | p :: r, xs, h => by
    obtain ⟨v, xs', rfl, ⟨t, w, rfl, ht⟩, h2⟩ := h.uncons
    obtain ⟨kvl, e1, e2, e3⟩ := pairs_of h2
    refine ⟨(.inl (some p), w) :: kvl, by rw [List.length_cons, List.length_cons, e1], fun i kv e => ?_, by rw [List.map_cons, List.map_cons, e3]⟩
    cases i with
    | zero =>
      have e' : ((.inl (some p) : Key), w) = kv := by simpa using e
      subst e'
      exact ⟨t, rfl, ht⟩
    | succ i => simpa using e2 i kv (by simpa using e)
end K69

set_option Elab.async false
set_option linter.all false
set_option maxRecDepth 100000
set_option maxHeartbeats 4000000
/-! any(a list of bools); try, where nothing is raised. Own work. -/
namespace L2
open PySem PySem.Spec PyProof.Rows SI
theorem bt_any' : bootBuiltins "any" = some (.builtin "any") := by decide +kernel
theorem call_anyB {X : Cx} (hc : X.calm = true) : CallR X (.builtin "any") (fun xs H Q => ∃ (p : Addr) (bs : List Bool), xs = [.ref p] ∧ SqL X.K H p (bs.map V.bl) ∧ Q (.bl (bs.any id)) H) := by
  intro pins s σ H xs us Q I r h
  obtain ⟨p, bs, rfl, hq, q⟩ := h
  obtain ⟨u, rfl, rx⟩ := vals1 r
  cases rx
  obtain ⟨its, rv, pl, hz⟩ := I.list hq
  have hlen : bs.length = its.length := by have := rv.length; rw [List.length_map] at this; exact this
  have hp : p < s.heap.objs.size := by obtain ⟨o, ho, _⟩ := pl.isList; exact Heap.lt_size ho
  refine call_any_walk (wpAny_pyIter_list pl.isList ?_)
  refine ⟨s.heap.objs.size, _, _, _, _, _, fun i => bs.getD i true, rfl, Walks.list (by simpa using I.ok.hd hc) s.heap.objs.size p (Nat.ne_of_lt hp) its.toArray, ⟨⟨_, Heap.get?_push_size _ rfl, rfl, rfl⟩, pl.isList.push _⟩, ?_, fun h' tk hk => ?_⟩
  · intro i v s' Q' E' hv hq'
    have hv' : its[i]? = some v := by simpa using hv
    have hb : bs[i]? = some (bs.getD i true) := by
      have hi : i < its.length := (List.getElem?_eq_some_iff.mp hv').1
      have hi' : i < bs.length := by lia
      simp [List.getD, hi']
    obtain ⟨u, hu, ru⟩ := rv.get (i := i) (x := .bl (bs.getD i true)) (by rw [List.getElem?_map, hb]; rfl)
    rw [hv'] at hu
    cases hu
    cases (show v = Value.bool (bs.getD i true) from ru)
    exact wpAny_truthy_bool hq'
  · have hf := I.fpOk (H' := H) (Nat.le_refl s.heap.objs.size) (I.hok.fresh (Nat.le_refl _))
    have I1 : Inv X pins σ H { s with heap := h', toks := tk } := I.turned (it := s.heap.objs.size) (fun b o hb e => hk b o (by simpa using hb) (Heap.get?_push_of_some _ e)) hf.1 hf.2.1 (.inr I.sz) hf.2.2.2.2.1 hf.2.2.2.2.2
    refine ⟨.bl (bs.any id), H, I1, ?_, q⟩
    show Value.bool _ = Value.bool _
    congr 1
    have e : (List.range its.toArray.size).map (fun i => bs.getD i true) = bs := by
      apply List.ext_getElem?
      intro i
      rw [List.getElem?_map, List.size_toArray]
      by_cases hi : i < bs.length
      · have hi2 : i < its.length := by lia
        simp [hi, hi2]
      · have hi2 : ¬ i < its.length := by lia
        simp [hi, hi2]
    conv => rhs; rw [← e]
    rw [List.any_map]
    rfl
end L2

set_option Elab.async false
set_option linter.all false
set_option maxRecDepth 100000
set_option maxHeartbeats 4000000
set_option exponentiation.threshold 3000
/-! k69: sees_outside, where it sees nothing outside. Own work. -/
namespace K69
open PySem L2 Builtin.Str MC
abbrev sSees : Stmt := top 18
/-- all that it sees is told in it -/
def Shut (c : Core) : Prop := ∀ p, Core.seen p ∈ pre c → ∃ ps b, Core.fn ps b ∈ pre c ∧ p ∈ ps
def spSees : Sp := fun vs H Q _ => ∃ (v : V) (c : Core), vs = [v] ∧ CoreIn H c v ∧ (pre c).length ≤ 10000 ∧ (∀ ps b, Core.fn ps b ∈ pre c → ps.length ≤ 100) ∧ Shut c ∧ ∀ H', Same H H' → Q (.bl false) H'
section
variable {P : Program} {w : World} {K : PySem.W.Frag} {mg : Str → Option Value} {base : Heap} {C op : Addr}
abbrev NSees : List Str := ["core", "cores", "inside", "inner"]
theorem scSees : FnScope NSees ["core"] (defScope sSees) := ⟨rfl, rfl, rfl, by decide +kernel, rfl, by decide +kernel, by decide +kernel⟩
theorem lcSees1 : LcS (defScope sSees).names [(".0", .local), ("inner", .local), ("inside", .free)] NSees [false, false, true, false] := ⟨by decide +kernel, by decide +kernel, by decide +kernel, by decide +kernel, by decide +kernel, rfl⟩
/-- the walk's state -/
def SeW (c : Core) (v : V) (D d : Addr) (xs : List V) (H H2 : Hp) (i : Nat) (σ : St) (H' : Hp) : Prop := ∃ (v3 : Option V) (kvs : List (Key × V)), σ = [some v, some (.ref D), some (.ref d), v3] ∧ Same H H' ∧ Tup H2 H' ∧ H' D = some (.lst xs) ∧ H' d = some (.dK kvs) ∧ kvs.length ≤ 100 * i ∧ ∀ j ps b, j < i → (pre c)[j]? = some (.fn ps b) → ∀ p ∈ ps, Has kvs (.inl (some p))
theorem ok_sees {f fW : Addr} {fd fdW : FuncData} (F : Fun K "sees_outside" "sees_outside" sSees f fd) (T : MT K mg C op) (hany : mg "any" = none)
    (kW : PySem.W.keepIn K (.ref fW) = true) (bW : Binds K fdW ["core"] []) (mW : mg "cores_within" = some (.ref fW)) (GW : FnOk P w K mg base CX0 2 fW fdW ["core"] spWithin) : FnOk P w K mg base CX0 3 f fd ["core"] spSees := by
  refine F.ok scSees (fun vs H Q E h => ?_) (fun cdv A outer s H vs Q E hr h => ?_)
  · obtain ⟨v, c, rfl, _⟩ := h; rfl
  · obtain ⟨v, c, rfl, hc, hsz, hps, hsh, q⟩ := h
    have nd := scSees.nd
    have hu := hu_of hr
    refine ⟨_, pss_cons (ps_set (i := 1) nd rfl (Or.inl rfl) (pe_call GW hr (by rfl) mW kW bW .nil pass0 (pa_cons (pw 0) pa_nil)))
      (pss_cons (ps_set (i := 2) nd rfl (Or.inr rfl) pe_dnewK)
      (pss_cons (ps_for PassesOwn.never rfl (pi_list (pw 1)) (pg_name (i := 3) nd rfl (Or.inl rfl))
        (pss_one (ps_if (pt_cmpR op_eq (pe_ixT 3) pe_str (nomark _))
          (pss_one (ps_expr (pe_bm PySem.F.plainAttrs_dict PySem.F.slot_dict_update PySem.F.type_dict_update mt_dupdate (pw 2) (pa_cons (pe_callTy (call_dpairsT rfl) (by rfl) T.dict bt_dict' (pa_cons (pe_iwT 3) pa_nil)) pa_nil))))
          pss_nil)))
      (pss_one (ps_ret (pe_callB (call_anyB rfl) (by rfl) hany bt_any' (pa_cons (pe_lc (ext := []) lcSees1 rfl (pi_list (pw 1))
        ⟨fun _ _ _ _ _ => (pg_name (i := 3) nd rfl (Or.inl rfl) (.inr rfl)), fun _ _ _ _ _ => pts_nil, fun _ _ _ _ _ => (pe_and (pe_cmpR op_eq (pe_ixT 3) pe_str (nomark _)) (pe_one (pe_cmp (pc_dnotin hu (pe_iwT 3) (pw 2)))))⟩) pa_nil)))))), ?_⟩
    refine ⟨v, c, rfl, hc, by lia, fun H1 D xs s1 hD f1 hal => ?_⟩
    refine fun d hd => ?_
    have s2 := same_upd (o := .dK []) hd
    have f2 : upd H1 d (.dK []) d = some (.dK []) := upd_same
    have hdH : H d = none := s1.free hd
    generalize upd H1 d (.dK []) = H2 at s2 f2 ⊢
    have f12 := s2 _ _ f1
    have nDd : D ≠ d := kind_ne f12 f2 (fun z => nomatch z)
    refine ⟨D, rfl, ⟨_, SqL.of f12⟩, for_list (xs := xs) (SeW c v D d xs H H2)
      ⟨none, [], rfl, s1.trans s2, Tup.refl _, f12, f2, Nat.zero_le _, fun j ps b h => absurd h (Nat.not_lt_zero _)⟩ ?_ ?_ ?_⟩
    · rintro i σ H' _ ⟨v3, kvs, _, _, _, e, _⟩
      exact SqL.of e
    · rintro i x σ H' hx ⟨v3, kvs, rfl, sH', tH', g1, g2, hkl, hin⟩
      obtain ⟨k, ek, hk⟩ := (hal.mono fun _ _ r => r.tup ((Tup.of s2).trans tH')).at hx
      have hi : i < (pre c).length := (List.getElem?_eq_some_iff.mp ek).1
      have skip : (∀ ps b, k ≠ .fn ps b) → SeW c v D d xs H H2 (i + 1) [some v, some (.ref D), some (.ref d), some x] H' := fun hne =>
        ⟨_, kvs, rfl, sH', tH', g1, g2, by lia, fun j ps b hj ej => by
          by_cases e : j = i
          · subst e; rw [ek] at ej; exact absurd (Option.some.inj ej) (hne ps b)
          · exact hin j ps b (by lia) ej⟩
      cases k with
      | num z => obtain ⟨t, rfl, ht⟩ := hk; exact ify_ne rfl ht rfl rfl (skip fun _ _ e => nomatch e)
      | free z => obtain ⟨t, rfl, ht⟩ := hk; exact ify_ne rfl ht rfl rfl (skip fun _ _ e => nomatch e)
      | seen z => obtain ⟨t, rfl, ht⟩ := hk; exact ify_ne rfl ht rfl rfl (skip fun _ _ e => nomatch e)
      | now z => obtain ⟨t, w', rfl, ht, _⟩ := hk; exact ify_ne rfl ht rfl rfl (skip fun _ _ e => nomatch e)
      | pick z1 z2 z3 => obtain ⟨t, x1, x2, x3, rfl, ht, _⟩ := hk; exact ify_ne rfl ht rfl rfl (skip fun _ _ e => nomatch e)
      | call z1 z2 => obtain ⟨t, x1, u, ys, rfl, ht, _⟩ := hk; exact ify_ne rfl ht rfl rfl (skip fun _ _ e => nomatch e)
      | fn ps b =>
        obtain ⟨t, u, ys, w', rfl, ht, hu', hP, hb⟩ := hk
        obtain ⟨kvl, e1, e2, e3⟩ := pairs_of hP
        have hpl := hps ps b (List.mem_of_getElem? ek)
        have hkvl : kvl.length = ps.length := by rw [← e1, hP.1]
        refine ify_eq rfl ht rfl ?_
        refine ⟨.inr (.inr (.inl ⟨rfl, .inl ⟨_, g2⟩⟩)), _, ht, u, ys, kvl, rfl, hu', e1, e2, fun l hl => ?_⟩
        have s3 := same_upd (o := .dK (dOf kvl)) hl
        have f3 : upd H' l (.dK (dOf kvl)) l = some (.dK (dOf kvl)) := upd_same
        have ndl : d ≠ l := ne_of_none g2 hl
        have hlH : H l = none := sH'.free hl
        generalize upd H' l (.dK (dOf kvl)) = H3 at s3 f3 ⊢
        have hdl := dOf_len kvl
        refine ⟨d, l, kvs, dOf kvl, rfl, rfl, ndl, s3 _ _ g2, f3, by rw [sizeLine_eq]; lia, _, mergeK kvs (dOf kvl), rfl, ?_, ?_, ?_, upd_same, ?_, ?_⟩
        · exact fun e o qe => by rw [upd_ne (ne_of_none qe hdH)]; exact s3 _ _ (sH' _ _ qe)
        · exact fun e zs qe => by
            have q3 := s3 _ _ (tH' _ _ qe)
            rw [upd_ne (kind_ne q3 (s3 _ _ g2) (fun z => nomatch z))]; exact q3
        · rw [upd_ne nDd]; exact s3 _ _ g1
        · have := length_mergeK (dOf kvl) kvs
          lia
        · intro j ps' b' hj ej p hp
          rw [has_merge]
          by_cases e : j = i
          · subst e
            rw [ek] at ej
            cases ej
            left
            rw [e3]
            exact List.mem_map.mpr ⟨p, hp, rfl⟩
          · exact .inr (hin j ps' b' (by lia) ej p hp)
    · rintro σ H' ⟨v3, kvs, rfl, sH', tH', g1, g2, hkl, hin⟩
      have hal' := hal.mono fun _ _ r => r.tup ((Tup.of s2).trans tH')
      refine ⟨D, rfl, ⟨_, SqL.of g1⟩, fun D2 hD2 => ?_⟩
      have sD : ∀ ys', Same H' (upd H' D2 (.lst ys')) := fun ys' => same_upd hD2
      refine lc_list (K := K) (a := D) (i := 3) (xs := xs) (fun _ => true) (fun _ => .bl false) (fun ys' => SqL.of (sD ys' _ _ g1)) (by rw [hal.1, sizeLine_eq]; lia) (fun k' x v ys' R hk' hR' => hR' _ rfl) ?_ ?_
      · intro i x v' ys' R hx _ hR'
        have hR2 := hR' _ rfl
        obtain ⟨k, ek, hk⟩ := hal'.at hx
        have hk := hk.tup (Tup.of (sD ys'))
        have g2' := sD ys' _ _ g2
        generalize upd H' D2 (.lst ys') = H6 at hk g2' hR2 ⊢
        cases k with
        | num z => obtain ⟨t, rfl, ht⟩ := hk; exact ⟨t, _, _, rfl, ht, rfl, rfl, false, rfl, iteF hR2⟩
        | free z => obtain ⟨t, rfl, ht⟩ := hk; exact ⟨t, _, _, rfl, ht, rfl, rfl, false, rfl, iteF hR2⟩
        | fn ps b => obtain ⟨t, u, ys, w', rfl, ht, _⟩ := hk; exact ⟨t, _, _, rfl, ht, rfl, rfl, false, rfl, iteF hR2⟩
        | now z => obtain ⟨t, w', rfl, ht, _⟩ := hk; exact ⟨t, _, _, rfl, ht, rfl, rfl, false, rfl, iteF hR2⟩
        | pick z1 z2 z3 => obtain ⟨t, x1, x2, x3, rfl, ht, _⟩ := hk; exact ⟨t, _, _, rfl, ht, rfl, rfl, false, rfl, iteF hR2⟩
        | call z1 z2 => obtain ⟨t, x1, u, ys, rfl, ht, _⟩ := hk; exact ⟨t, _, _, rfl, ht, rfl, rfl, false, rfl, iteF hR2⟩
        | seen p =>
          obtain ⟨t, rfl, ht⟩ := hk
          obtain ⟨ps, b, hm, hp⟩ := hsh p (List.mem_of_getElem? ek)
          obtain ⟨j, ej⟩ := List.getElem?_of_mem hm
          have hj : j < xs.length := by rw [hal.1]; exact (List.getElem?_eq_some_iff.mp ej).1
          obtain ⟨pv', epv⟩ := hin j ps b hj ej p hp
          exact ⟨t, _, _, rfl, ht, rfl, rfl, true, rfl, iteT ⟨_, ht, d, some pv', rfl, .inl ⟨kvs, .inl (some p), .inl g2', rfl, epv.symm⟩, hR2⟩⟩
      · intro H5 e5
        subst e5
        refine ⟨D2, List.replicate xs.length false, rfl, ?_, ?_⟩
        · have e : (xs.filter (fun _ => true)).map (fun _ => V.bl false) = (List.replicate xs.length false).map V.bl := by
            rw [List.filter_eq_self.mpr (fun _ _ => rfl), List.map_replicate]
            exact List.map_const' ..
          rw [e]
          exact SqL.of upd_same
        · have e : (List.replicate xs.length false).any id = false := by
            rw [List.any_eq_false]
            intro x hx
            rw [List.eq_of_mem_replicate hx]
            simp
          rw [e]
          exact q _ (sH'.trans (sD _))
end
end K69

set_option Elab.async false
set_option linter.all false
set_option maxRecDepth 100000
set_option maxHeartbeats 4000000
set_option exponentiation.threshold 3000
/-! k69: number_of, where it tells one. Own work. -/
namespace K69
open PySem L2 Builtin.Str MC
abbrev sNum : Stmt := top 17
/-- a statement that is not come to -/
theorem ps_no {X : Cx} {st : Stmt} : PS X st (fun _ _ _ => False) := fun _ _ _ _ _ _ h => h.elim
abbrev kn0 : Kn := fun _ => none
def spNum : Sp := fun vs H Q _ => ∃ (v : V) (c : Core) (fu : Nat) (z : Int) (fu' : Nat), vs = [v, .int (fu : Int)] ∧ CoreIn H c v ∧ (pre c).length ≤ 10000 ∧ (∀ ps b, Core.fn ps b ∈ pre c → ps.length ≤ 100) ∧ Shut c ∧ c.sz ≤ 2000 ∧ fu ≤ 1000 ∧
  ev kn0 1000 fu .nil c = .val (.num z) fu' ∧ z.natAbs < 10 ^ 60 ∧ ∀ H', Same H H' → Q (.int z) H'
section
variable {P : Program} {w : World} {K : PySem.W.Frag} {mg : Str → Option Value} {base : Heap} {C op : Addr}
abbrev NNum : List Str := ["core", "fuel", "answer"]
theorem bt_abs' : bootBuiltins "abs" = some (.builtin "abs") := by decide +kernel
theorem scNum : FnScope NNum ["core", "fuel"] (defScope sNum) := ⟨rfl, rfl, rfl, by decide +kernel, rfl, by decide +kernel, by decide +kernel⟩
theorem ok_num {f fS fR : Addr} {fd fdS fdR : FuncData} (F : Fun K "number_of" "number_of" sNum f fd) (T : MT K mg C op) (habs : mg "abs" = none)
    (kS : PySem.W.keepIn K (.ref fS) = true) (bS : Binds K fdS ["core"] []) (mS : mg "sees_outside" = some (.ref fS)) (GS3 : FnOk P w K mg base CX0 3 fS fdS ["core"] spSees)
    (kR : PySem.W.keepIn K (.ref fR) = true) (bR : Binds K fdR ["items", "fuel"] []) (mR : mg "run" = some (.ref fR)) (GR : FnOk P w K mg base CX0 5 fR fdR ["items", "fuel"] spRun) : FnOk P w K mg base CX0 6 f fd ["core", "fuel"] spNum := by
  have GS : FnOk P w K mg base CX0 5 fS fdS ["core"] spSees := GS3.mono (by decide)
  refine F.ok scNum (fun vs H Q E h => ?_) (fun cdv A outer s H vs Q E hr h => ?_)
  · obtain ⟨v, c, fu, z, fu', rfl, _⟩ := h; rfl
  · obtain ⟨v, c, fu, z, fu', rfl, hc, hpl, hps, hsh, hsz, hfu, hev, hz, q⟩ := h
    have nd := scNum.nd
    have z1 : 1 ≤ sizeLine := by rw [sizeLine_eq]; decide
    have z2 : 2 ≤ sizeLine := by rw [sizeLine_eq]; decide
    refine ⟨_, pss_cons (ps_if (pt_val (pe_call GS hr (by rfl) mS kS bS .nil pass0 (pa_cons (pw 0) pa_nil))) (pss_one ps_no) pss_nil)
      (pss_cons (ps_set (i := 2) nd rfl (Or.inl rfl) (pe_ix ix_list (pe_call GR hr (by rfl) mR kR bR .nil pass0 (pa_cons (pe_lst (pa_cons (pe_tup (pa_cons pe_str (pa_cons (pw 0) pa_nil))) pa_nil)) (pa_cons (pw 1) pa_nil))) pe_int (fun _ _ => rfl)))
      (pss_cons (ps_if (pt_cmpR op_ne (pe_ixT 2) pe_str (nomark _)) (pss_one ps_no) pss_nil)
      (pss_cons (ps_if (pt_cmpR op_geW (pe_callB call_abs (by rfl) habs bt_abs' (pa_cons (pe_iwT 2) pa_nil)) (pe_op op_powW pe_int pe_int) (nomark _)) (pss_one ps_no) pss_nil)
      (pss_one (ps_ret (pe_iwT 2)))))), ?_⟩
    refine ⟨v, c, rfl, hc, hpl, hps, hsh, fun H1 s1 => ?_⟩
    refine ⟨false, rfl, iteF ?_⟩
    refine ⟨z2, fun t ht => ⟨z1, fun l hl => ?_⟩⟩
    have s2 := same_upd (o := .tup [.str "show", v]) ht
    have f2 : upd H1 t (.tup [.str "show", v]) t = some (.tup [.str "show", v]) := upd_same
    generalize upd H1 t (.tup [.str "show", v]) = H2 at s2 f2 hl ⊢
    have s3 := same_upd (o := .lst [.ref t]) hl
    have f3 : upd H2 l (.lst [.ref t]) l = some (.lst [.ref t]) := upd_same
    generalize upd H2 l (.lst [.ref t]) = H3 at s3 f3 ⊢
    have s13 := (s1.trans s2).trans s3
    have hrun : RunI kn0 fu [(none, c)] [.val (.num z) 0] := by
      have h := evI_run (M := 2000) (g := 1000) (its := [(none, c)]) (kn := kn0) (fu := fu) (fun p v e => nomatch e) hfu (fun it hit => by rw [List.mem_singleton.mp hit]; exact hsz) (by lia)
      simp only [evI, hev] at h
      exact h
    refine ⟨l, fu, [(none, c)], [.ref t], [.val (.num z) 0], rfl, f3, Al.one ?_, (by show 1 ≤ 1000000; decide), hrun, fun H4 D rs s4 hD f4 hrs => ?_⟩
    · exact ⟨t, v, rfl, s3 _ _ f2, hc.tup (Tup.of s13)⟩
    obtain ⟨r1, rr, rfl, ⟨tr, rfl, hr1⟩, hrr⟩ := hrs.uncons
    have i0 : atI (V.ref tr :: rr) 0 = some (.ref tr) := atI_nat (j := 0) rfl
    have hr2 : H4 tr = some (.tup [.str "num", .int z]) := hr1
    refine ⟨D, _, _, _, rfl, rfl, SqL.of f4, i0, ?_⟩
    have st := s13.trans s4
    refine ⟨tr, _, _, rfl, hr2, rfl, rfl, false, rfl, iteF ?_⟩
    refine ⟨_, hr2, z, rfl, ⟨by decide, by decide, by decide⟩, false, ?_, iteF ?_⟩
    · refine congrArg V.bl (decide_eq_false ?_)
      show ¬ ((10 : Int) ^ 60 ≤ if z < 0 then -z else z)
      have hz' : (z.natAbs : Int) < (10 : Int) ^ 60 := by
        have := Int.ofNat_lt.mpr hz
        simpa using this
      generalize (10 : Int) ^ 60 = B at hz' ⊢
      by_cases h0 : z < 0
      · rw [if_pos h0]; lia
      · rw [if_neg h0]; lia
    · exact ⟨_, hr2, q _ st⟩
end
end K69

set_option Elab.async false
set_option linter.all false
set_option maxRecDepth 100000
set_option maxHeartbeats 4000000
set_option exponentiation.threshold 3000
/-! k69: what comes of a core ahead. Own work. -/
namespace K69
open PySem L2 Builtin.Str MC
def numO : Out → Int
  | .val (.num z) _ => z
  | _ => 0
mutual
def ahC (fu : Nat) : Core → Core
  | .fn ps b => .fn ps (ahC fu b)
  | .call f as => .call (ahC fu f) (ahCs fu as)
  | .pick a b c => .pick (ahC fu a) (ahC fu b) (ahC fu c)
  | .now c => .num (numO (ev kn0 1000 fu .nil (ahC fu c)))
  | .num z => .num z
  | .free n => .free n
  | .seen p => .seen p
def ahCs (fu : Nat) : Cores → Cores
  | .nil => .nil
  | .cons c r => .cons (ahC fu c) (ahCs fu r)
end
theorem ahCs_list (fu : Nat) : ∀ as : Cores, (ahCs fu as).list = as.list.map (ahC fu)
  | .nil => by simp only [ahCs, Cores.list]; rfl
  | .cons c r => by simp only [ahCs, Cores.list]; rw [ahCs_list fu r, List.map_cons]
/-- a number can be told of it -/
def NumOk (fu : Nat) (c : Core) : Prop := (pre c).length ≤ 10000 ∧ (∀ ps b, Core.fn ps b ∈ pre c → ps.length ≤ 100) ∧ Shut c ∧ c.sz ≤ 2000 ∧ ∃ z fu', ev kn0 1000 fu .nil c = .val (.num z) fu' ∧ z.natAbs < 10 ^ 60
mutual
def dp : Core → Nat
  | .fn _ b => dp b + 1
  | .now c => dp c + 1
  | .pick a b c => max (dp a) (max (dp b) (dp c)) + 1
  | .call f as => max (dp f) (dps as) + 1
  | _ => 0
def dps : Cores → Nat
  | .nil => 0
  | .cons c r => max (dp c) (dps r)
end
theorem dps_mem : ∀ (as : Cores) (c : Core), c ∈ as.list → dp c ≤ dps as
  | .nil, c, h => by simp [Cores.list] at h
  | .cons a r, c, h => by
    simp only [Cores.list, List.mem_cons] at h
    simp only [dps]
    rcases h with rfl | h
    · exact Nat.le_max_left _ _
    · exact Nat.le_trans (dps_mem r c h) (Nat.le_max_right _ _)
theorem dp_ins (c k : Core) (h : k ∈ ins c) : dp k < dp c := by
  cases c with
  | fn ps b => simp only [ins, List.mem_singleton] at h; subst h; simp only [dp]; lia
  | now b => simp only [ins, List.mem_singleton] at h; subst h; simp only [dp]; lia
  | pick a b c =>
    simp only [ins, List.mem_cons, List.not_mem_nil, or_false] at h
    simp only [dp]
    rcases h with rfl | rfl | rfl <;> lia
  | call f as =>
    simp only [ins, List.mem_cons] at h
    simp only [dp]
    rcases h with rfl | h
    · lia
    · have := dps_mem as k h; lia
  | num z => simp [ins] at h
  | free z => simp [ins] at h
  | seen z => simp [ins] at h
/-- all its nows can be told -/
def OkA (fu : Nat) (c : Core) : Prop := ∀ b, Core.now b ∈ pre c → NumOk fu (ahC fu b)
theorem pre_mem_ins {c k j : Core} (h : k ∈ ins c) (hj : j ∈ pre k) : j ∈ pre c := by
  rw [pre_ins]
  refine List.mem_cons_of_mem _ ?_
  unfold preL
  exact List.mem_flatten.mpr ⟨pre k, List.mem_map.mpr ⟨k, h, rfl⟩, hj⟩
theorem pre_self (c : Core) : c ∈ pre c := by rw [pre_ins]; exact List.mem_cons_self
theorem OkA.ins {fu : Nat} {c k : Core} (h : OkA fu c) (hk : k ∈ ins c) : OkA fu k := fun b hb => h b (pre_mem_ins hk hb)
theorem of_map : ∀ as : Cores, Cores.of as.list = as
  | .nil => rfl
  | .cons c r => by simp only [Cores.list, Cores.of]; rw [of_map r]
theorem wth_ah (fu : Nat) (c : Core) (h : ∀ b, c ≠ .now b) : wth c ((ins c).map (ahC fu)) = ahC fu c := by
  cases c with
  | fn ps b => simp [wth, ins, ahC]
  | now b => exact absurd rfl (h b)
  | pick a b c => simp [wth, ins, ahC]
  | call f as =>
    simp only [wth, ins, ahC, List.map_cons, List.headD_cons, List.tail_cons]
    rw [← ahCs_list, of_map]
  | num z => simp [wth, ins, ahC]
  | free z => simp [wth, ins, ahC]
  | seen z => simp [wth, ins, ahC]
theorem ins_len (c : Core) : (ins c).length ≤ (pre c).length := by
  rw [pre_ins, List.length_cons]
  have := len_szL (ins c)
  unfold szL at this
  lia
theorem pre_len_ins {c k : Core} (h : k ∈ ins c) : (pre k).length ≤ (pre c).length := by
  rw [pre_ins c, List.length_cons]
  obtain ⟨a, b, e⟩ := List.append_of_mem h
  rw [e, preL_append, preL_cons, List.length_append, List.length_append]
  lia
end K69

set_option Elab.async false
set_option linter.all false
set_option maxRecDepth 100000
set_option maxHeartbeats 4000000
set_option exponentiation.threshold 3000
/-! k69: ahead_in. Own work. -/
namespace K69
open PySem L2 Builtin.Str MC
abbrev sAh : Stmt := top 16
mutual
/-- u is what ahead makes of v -/
def AhR (fu : Nat) (H : Hp) : Core → V → V → Prop
  | .fn _ b, v, u => ∃ t p bv r x, v = .ref t ∧ H t = some (.tup [.str "fn", p, bv]) ∧ u = .ref r ∧ H r = some (.tup [.str "fn", p, x]) ∧ (∃ q, p = .ref q) ∧ AhR fu H b bv x
  | .call f as, v, u => ∃ t fv a l r x b l', v = .ref t ∧ H t = some (.tup [.str "call", fv, .ref a]) ∧ H a = some (.tup l) ∧ u = .ref r ∧ H r = some (.tup [.str "call", x, .ref b]) ∧ H b = some (.tup l') ∧ AhR fu H f fv x ∧ AhRs fu H as l l'
  | .pick a b c, v, u => ∃ t x1 x2 x3 r y1 y2 y3, v = .ref t ∧ H t = some (.tup [.str "pick", x1, x2, x3]) ∧ u = .ref r ∧ H r = some (.tup [.str "pick", y1, y2, y3]) ∧ AhR fu H a x1 y1 ∧ AhR fu H b x2 y2 ∧ AhR fu H c x3 y3
  | .now c, _, u => ∃ r, u = .ref r ∧ H r = some (.tup [.str "num", .int (numO (ev kn0 1000 fu .nil (ahC fu c)))])
  | .num _, v, u => u = v
  | .free _, v, u => u = v
  | .seen _, v, u => u = v
def AhRs (fu : Nat) (H : Hp) : Cores → List V → List V → Prop
  | .nil, l, l' => l = [] ∧ l' = []
  | .cons c r, l, l' => ∃ x xs y ys, l = x :: xs ∧ l' = y :: ys ∧ AhR fu H c x y ∧ AhRs fu H r xs ys
end
mutual
theorem AhR.tup {fu : Nat} {H H' : Hp} (s : Tup H H') : ∀ {c : Core} {v u : V}, AhR fu H c v u → AhR fu H' c v u
  | .fn _ b, v, u, h => by
    obtain ⟨t, p, bv, r, x, e1, h1, e2, h2, e3, h3⟩ := h
    exact ⟨t, p, bv, r, x, e1, s _ _ h1, e2, s _ _ h2, e3, AhR.tup s h3⟩
  | .call f as, v, u, h => by
    obtain ⟨t, fv, a, l, r, x, b, l', e1, h1, h2, e2, h3, h4, h5, h6⟩ := h
    exact ⟨t, fv, a, l, r, x, b, l', e1, s _ _ h1, s _ _ h2, e2, s _ _ h3, s _ _ h4, AhR.tup s h5, AhRs.tup s h6⟩
  | .pick a b c, v, u, h => by
    obtain ⟨t, x1, x2, x3, r, y1, y2, y3, e1, h1, e2, h2, h3, h4, h5⟩ := h
    exact ⟨t, x1, x2, x3, r, y1, y2, y3, e1, s _ _ h1, e2, s _ _ h2, AhR.tup s h3, AhR.tup s h4, AhR.tup s h5⟩
  | .now c, v, u, h => by
    obtain ⟨r, e, h1⟩ := h
    exact ⟨r, e, s _ _ h1⟩
  | .num _, v, u, h => by exact h
  | .free _, v, u, h => by exact h
  | .seen _, v, u, h => by exact h
theorem AhRs.tup {fu : Nat} {H H' : Hp} (s : Tup H H') : ∀ {as : Cores} {l l' : List V}, AhRs fu H as l l' → AhRs fu H' as l l'
  | .nil, l, l', h => by exact h
  | .cons c r, l, l', h => by
    obtain ⟨x, xs, y, ys, e1, e2, h1, h2⟩ := h
    exact ⟨x, xs, y, ys, e1, e2, AhR.tup s h1, AhRs.tup s h2⟩
end
theorem ahrs_of {fu : Nat} {H : Hp} : ∀ (as : Cores) (l l' : List V), l.length = as.list.length → l'.length = as.list.length → (∀ (j : Nat) (k : Core) (x y : V), as.list[j]? = some k → l[j]? = some x → l'[j]? = some y → AhR fu H k x y) → AhRs fu H as l l'
  | .nil, l, l', h1, h2, h => by
    exact ⟨List.length_eq_zero_iff.mp h1, List.length_eq_zero_iff.mp h2⟩
  | .cons c r, l, l', h1, h2, h => by
    simp only [Cores.list, List.length_cons] at h1 h2
    cases l with
    | nil => exact absurd h1 (by simp)
    | cons x xs => cases l' with
      | nil => exact absurd h2 (by simp)
      | cons y ys =>
        exact ⟨x, xs, y, ys, rfl, rfl, h 0 c x y rfl rfl rfl, ahrs_of r xs ys (by simpa using h1) (by simpa using h2) fun j k x y e1 e2 e3 => h (j + 1) k x y (by simpa [Cores.list] using e1) (by simpa using e2) (by simpa using e3)⟩
/-- what with_inner makes of inner ones that were reckoned -/
theorem ahr_of {fu : Nat} {H : Hp} {c : Core} {v u : V} {xs ys : List V} (hc : CoreIn H c v) (hi : InR H c v xs) (hw : WtR H c v ys u) (hx : xs.length = (ins c).length) (hy : ys.length = (ins c).length) (h : ∀ (j : Nat) (k : Core) (x y : V), (ins c)[j]? = some k → xs[j]? = some x → ys[j]? = some y → AhR fu H k x y) (hn : ∀ b, c ≠ .now b) : AhR fu H c v u := by
  cases c with
  | fn ps b =>
    obtain ⟨t, u', l0, w0, rfl, ht0, _⟩ := hc
    obtain ⟨t1, p1, b1, e1, g1, rfl⟩ := hi
    obtain ⟨t2, p2, b2, r, x, e2, g2, rfl, g3, rfl⟩ := hw
    cases e1
    cases e2
    rw [ht0] at g1 g2
    cases g1
    cases g2
    exact ⟨t, _, _, r, x, rfl, ht0, rfl, g3, ⟨_, rfl⟩, h 0 b _ x rfl rfl rfl⟩
  | call f as =>
    obtain ⟨t, fv, a, l, rfl, g1, g2, rfl⟩ := hi
    obtain ⟨r, x, b, l', rfl, g3, g4, rfl⟩ := hw
    simp only [ins, List.length_cons] at hx hy
    exact ⟨t, fv, a, l, r, x, b, l', rfl, g1, g2, rfl, g3, g4, h 0 f fv x rfl rfl rfl, ahrs_of as l l' (by simpa using hx) (by simpa using hy) fun j k x y e1 e2 e3 => h (j + 1) k x y (by simpa [ins] using e1) (by simpa using e2) (by simpa using e3)⟩
  | pick a b c =>
    obtain ⟨t, x1, x2, x3, rfl, g1, rfl⟩ := hi
    obtain ⟨r, y1, y2, y3, rfl, g3, rfl⟩ := hw
    exact ⟨t, x1, x2, x3, r, y1, y2, y3, rfl, g1, rfl, g3, h 0 a x1 y1 rfl rfl rfl, h 1 b x2 y2 rfl rfl rfl, h 2 c x3 y3 rfl rfl rfl⟩
  | now b => exact absurd rfl (hn b)
  | num z => exact hw
  | free z => exact hw
  | seen z => exact hw
def spAh (d : Nat) : Sp := fun vs H Q _ => ∃ (v : V) (c : Core) (fu : Nat), vs = [v, .int (fu : Int)] ∧ CoreIn H c v ∧ dp c ≤ d ∧ (pre c).length ≤ 10000 ∧ OkA fu c ∧ fu ≤ 1000 ∧ ∀ (H' : Hp) (u : V), Same H H' → CoreIn H' (ahC fu c) u → AhR fu H' c v u → Q u H'
section
variable {P : Program} {w : World} {K : PySem.W.Frag} {mg : Str → Option Value} {base : Heap} {C op : Addr}
abbrev NAh : List Str := ["core", "fuel", "reckoned"]
theorem scAh : FnScope NAh ["core", "fuel"] (defScope sAh) := ⟨rfl, rfl, rfl, by decide +kernel, rfl, by decide +kernel, by decide +kernel⟩
theorem lcAh1 : LcS (defScope sAh).names [(".0", .local), ("inner", .local), ("ahead_in", .globalImplicit), ("fuel", .free)] NAh [false, true, false] := ⟨by decide +kernel, by decide +kernel, by decide +kernel, by decide +kernel, by decide +kernel, rfl⟩
theorem ndAh1 : (["core", "fuel", "reckoned", "inner"] : List Str).Nodup := by decide +kernel
/-- the inner ones: their state -/
def AhW (fu : Nat) (c : Core) (D : Addr) (xs : List V) (H1 : Hp) (i : Nat) (ys : List V) (σ' : St) (H' : Hp) : Prop := (∃ v3, σ' = [none, some (.int (fu : Int)), none, v3]) ∧ Same H1 H' ∧ H' D = some (.lst ys) ∧ Al (CoreIn H') (((ins c).take i).map (ahC fu)) ys ∧ ∀ (j : Nat) (k : Core) (x y : V), (ins c)[j]? = some k → xs[j]? = some x → ys[j]? = some y → AhR fu H' k x y
theorem ah_step {f fI fT fN : Addr} {fd fdI fdT fdN : FuncData} {k d : Nat} {spA : Sp} (F : Fun K "ahead_in" "ahead_in" sAh f fd) (T : MT K mg C op) (hk6 : 6 ≤ k)
    (kI : PySem.W.keepIn K (.ref fI) = true) (bI : Binds K fdI ["core"] []) (mI : mg "inner_cores" = some (.ref fI)) (GI1 : FnOk P w K mg base CX0 1 fI fdI ["core"] spInner)
    (kT : PySem.W.keepIn K (.ref fT) = true) (bT : Binds K fdT ["core", "inner"] []) (mT : mg "with_inner" = some (.ref fT)) (GT1 : FnOk P w K mg base CX0 1 fT fdT ["core", "inner"] spWith)
    (kN : PySem.W.keepIn K (.ref fN) = true) (bN : Binds K fdN ["core", "fuel"] []) (mN : mg "number_of" = some (.ref fN)) (GN6 : FnOk P w K mg base CX0 6 fN fdN ["core", "fuel"] spNum)
    (bA : Binds K fd ["core", "fuel"] []) (mA : mg "ahead_in" = some (.ref f)) (GA : FnOk P w K mg base CX0 k f fd ["core", "fuel"] spA) (hA : ∀ e, d = e + 1 → spA = spAh e) : FnOk P w K mg base CX0 (k + 1) f fd ["core", "fuel"] (spAh d) := by
  have GI : FnOk P w K mg base CX0 k fI fdI ["core"] spInner := GI1.mono (by lia)
  have GT : FnOk P w K mg base CX0 k fT fdT ["core", "inner"] spWith := GT1.mono (by lia)
  have GN : FnOk P w K mg base CX0 k fN fdN ["core", "fuel"] spNum := GN6.mono hk6
  refine F.ok scAh (fun vs H Q E h => ?_) (fun cdv A outer s H vs Q E hr h => ?_)
  · obtain ⟨v, c, fu, rfl, _⟩ := h; rfl
  · obtain ⟨v, c, fu, rfl, hc, hdp, hpl, hok, hfu, q⟩ := h
    have nd := scAh.nd
    have z2 : 2 ≤ sizeLine := by rw [sizeLine_eq]; decide
    refine ⟨_, pss_cons (ps_set (i := 2) nd rfl (Or.inl rfl) (pe_call GT hr (by rfl) mT kT bT .nil pass0 (pa_cons (pw 0) (pa_cons (pe_lc (ext := ["inner"]) lcAh1 rfl (pi_list (pe_call GI hr (by rfl) mI kI bI .nil pass0 (pa_cons (pw 0) pa_nil)))
        ⟨fun _ _ _ _ _ => (pg_name (i := 3) ndAh1 rfl (Or.inl rfl) (.inr rfl)), fun _ _ _ _ _ => pts_nil, fun _ _ _ _ _ => (pe_call GA hr (by rfl) mA F.kp bA .nil pass0 (pa_cons (pw 3) (pa_cons (pw 1) pa_nil)))⟩) pa_nil))))
      (pss_cons (ps_if (pt_cmpR op_eq (pe_ixT 0) pe_str (nomark _)) (pss_one (ps_ret (pe_tup (pa_cons pe_str (pa_cons (pe_call GN hr (by rfl) mN kN bN .nil pass0 (pa_cons (pe_iwT 2) (pa_cons (pw 1) pa_nil))) pa_nil))))) pss_nil)
      (pss_one (ps_ret (pw 2)))), ?_⟩
    have hil := ins_len c
    refine ⟨v, c, rfl, hc, by lia, fun H1 L xs s1 hL f1 hal hin => ?_⟩
    refine ⟨L, rfl, ⟨_, SqL.of f1⟩, fun D hD => ?_⟩
    refine lc_lst (K := K) (a := L) (xs := xs) (AhW fu c D xs H1)
      ⟨⟨_, rfl⟩, same_upd hD, upd_same, Al.nil, fun j k x y _ _ e => by simp at e⟩ (fun i ys σ' H' _ hP => SqL.of (hP.2.1 _ _ f1)) ?_ ?_
    · rintro i x ys σ' H' hx ⟨⟨v3, rfl⟩, sH, hDy, hal', hah⟩
      unfold gName
      refine yes_if ?_
      obtain ⟨k', ek, hk'⟩ := hal.at hx
      have hi : i < (ins c).length := (List.getElem?_eq_some_iff.mp ek).1
      have hmem := List.mem_of_getElem? ek
      have hdk := dp_ins c k' hmem
      obtain ⟨e, he⟩ : ∃ e, d = e + 1 := ⟨d - 1, by lia⟩
      rw [hA e he]
      have hyl : ys.length = i := by rw [hal'.1, List.length_map, List.length_take]; lia
      refine ⟨x, k', fu, rfl, hk'.tup (Tup.of sH), by lia, Nat.le_trans (pre_len_ins hmem) hpl, hok.ins hmem, hfu, fun H2 u s2 hu hau => ?_⟩
      refine ⟨s2 _ _ hDy, by rw [hyl, sizeLine_eq]; lia, Beh.of (by rw [hal.1]; exact hi) ⟨⟨_, rfl⟩, fun c o e => ?_, upd_same, ?_, ?_⟩⟩
      · rw [upd_ne (ne_of_none e hD)]; exact s2 _ _ (sH _ _ e)
      · have t3 : Tup H2 (upd H2 D (.lst (ys ++ [u]))) := tuplst (s2 _ _ hDy)
        rw [List.take_succ, ek, List.map_append]
        exact (hal'.mono fun _ _ r => r.tup ((Tup.of s2).trans t3)).snoc (hu.tup t3)
      · have t3 : Tup H2 (upd H2 D (.lst (ys ++ [u]))) := tuplst (s2 _ _ hDy)
        intro j k0 x0 y0 e1 e2 e3
        by_cases hj : j < ys.length
        · rw [List.getElem?_append_left hj] at e3
          exact (hah j k0 x0 y0 e1 e2 e3).tup ((Tup.of s2).trans t3)
        · have hj2 : j = i := by
            have := (List.getElem?_eq_some_iff.mp e3).1
            rw [List.length_append, List.length_singleton] at this
            lia
          subst hj2
          rw [ek] at e1
          rw [hx] at e2
          rw [← hyl, List.getElem?_append_right (Nat.le_refl _), Nat.sub_self] at e3
          cases e1
          cases e2
          cases e3
          exact hau.tup t3
    · rintro ys σ' H2 ⟨_, s2, hDy, hal', hah⟩
      rw [show xs.length = (ins c).length from hal.1, List.take_length] at hal'
      have s12 := s1.trans s2
      refine ⟨v, c, D, _, ys, rfl, hc.tup (Tup.of s12), hDy, hal', by rw [List.length_map], by rw [List.length_map]; lia, fun H3 u s3 hu hwt => ?_⟩
      have st := s12.trans s3
      have fin : (∀ b, c ≠ .now b) → Q u H3 := fun hn => q _ _ st (by rw [← wth_ah fu c hn]; exact hu) (ahr_of (hc.tup (Tup.of st)) (InR.tup (Tup.of (s2.trans s3)) hin) hwt hal.1 (by rw [hal'.1, List.length_map]) (fun j k x y e1 e2 e3 => (hah j k x y e1 e2 e3).tup (Tup.of s3)) hn)
      cases c with
      | num z =>
        have hc' := hc
        obtain ⟨t, rfl, ht⟩ := hc'
        exact ify_ne rfl (st _ _ ht) rfl rfl (fin fun _ e => nomatch e)
      | free z =>
        have hc' := hc
        obtain ⟨t, rfl, ht⟩ := hc'
        exact ify_ne rfl (st _ _ ht) rfl rfl (fin fun _ e => nomatch e)
      | seen z =>
        have hc' := hc
        obtain ⟨t, rfl, ht⟩ := hc'
        exact ify_ne rfl (st _ _ ht) rfl rfl (fin fun _ e => nomatch e)
      | fn ps b =>
        have hc' := hc
        obtain ⟨t, u', xs', w', rfl, ht, _⟩ := hc'
        exact ify_ne rfl (st _ _ ht) rfl rfl (fin fun _ e => nomatch e)
      | pick a1 a2 a3 =>
        have hc' := hc
        obtain ⟨t, x1, x2, x3, rfl, ht, _⟩ := hc'
        exact ify_ne rfl (st _ _ ht) rfl rfl (fin fun _ e => nomatch e)
      | call a1 a2 =>
        have hc' := hc
        obtain ⟨t, x1, u', xs', rfl, ht, _⟩ := hc'
        exact ify_ne rfl (st _ _ ht) rfl rfl (fin fun _ e => nomatch e)
      | now b =>
        have hc' := hc
        obtain ⟨t, w', rfl, ht, _⟩ := hc'
        refine ify_eq rfl (st _ _ ht) rfl ?_
        have hu2 : CoreIn H3 (.now (ahC fu b)) u := hu
        obtain ⟨t2, w2, rfl, ht2, hw2⟩ := hu2
        obtain ⟨n1, n2, n3, n4, z, fu', hev, hz⟩ := hok b (pre_self _)
        refine ⟨_, ht2, w2, ahC fu b, fu, z, fu', rfl, hw2, n1, n2, n3, n4, hfu, hev, hz, fun H4 s4 => ⟨z2, fun D2 hD2 => ?_⟩⟩
        refine q _ _ ((st.trans s4).trans (same_upd hD2)) ?_ ?_
        · simp only [ahC, hev, numO]
          exact core_num upd_same
        · exact ⟨D2, rfl, by rw [hev]; exact upd_same⟩
def spNo : Sp := fun _ _ _ _ => False
theorem fn_no {k : Nat} {f : Addr} {fd : FuncData} {ps : List Str} : FnOk P w K mg base CX0 k f fd ps spNo := ⟨fun _ _ _ _ h => h.elim, fun _ _ _ _ _ _ _ _ _ _ _ _ _ h => h.elim⟩
/-- ahead_in, of any depth -/
theorem ok_ah {f fI fT fN : Addr} {fd fdI fdT fdN : FuncData} (F : Fun K "ahead_in" "ahead_in" sAh f fd) (T : MT K mg C op)
    (kI : PySem.W.keepIn K (.ref fI) = true) (bI : Binds K fdI ["core"] []) (mI : mg "inner_cores" = some (.ref fI)) (GI1 : FnOk P w K mg base CX0 1 fI fdI ["core"] spInner)
    (kT : PySem.W.keepIn K (.ref fT) = true) (bT : Binds K fdT ["core", "inner"] []) (mT : mg "with_inner" = some (.ref fT)) (GT1 : FnOk P w K mg base CX0 1 fT fdT ["core", "inner"] spWith)
    (kN : PySem.W.keepIn K (.ref fN) = true) (bN : Binds K fdN ["core", "fuel"] []) (mN : mg "number_of" = some (.ref fN)) (GN6 : FnOk P w K mg base CX0 6 fN fdN ["core", "fuel"] spNum)
    (bA : Binds K fd ["core", "fuel"] []) (mA : mg "ahead_in" = some (.ref f)) : ∀ d, FnOk P w K mg base CX0 (d + 7) f fd ["core", "fuel"] (spAh d)
  | 0 => ah_step (k := 6) (spA := spNo) F T (Nat.le_refl _) kI bI mI GI1 kT bT mT GT1 kN bN mN GN6 bA mA fn_no (fun e h => by lia)
  | d + 1 => ah_step (k := d + 7) (spA := spAh d) F T (by lia) kI bI mI GI1 kT bT mT GT1 kN bN mN GN6 bA mA (ok_ah F T kI bI mI GI1 kT bT mT GT1 kN bN mN GN6 bA mA d) (fun e h => by rw [Nat.add_right_cancel h])
end
end K69

set_option Elab.async false
set_option linter.all false
set_option maxRecDepth 100000
set_option maxHeartbeats 4000000
set_option exponentiation.threshold 3000
/-! k69: ahead. Own work. -/
namespace K69
open PySem L2 Builtin.Str MC
abbrev sAhead : Stmt := top 15
/-- an item: what stands before its core, and the core -/
def ItA (H : Hp) (it : List V × Core) (v : V) : Prop := ∃ t x, v = .ref t ∧ H t = some (.tup (it.1 ++ [x])) ∧ CoreIn H it.2 x
/-- an item and what ahead makes of it -/
def AhIt (fu : Nat) (H : Hp) (it : List V × Core) (v r : V) : Prop := ∃ t x t' u, v = .ref t ∧ H t = some (.tup (it.1 ++ [x])) ∧ r = .ref t' ∧ H t' = some (.tup (it.1 ++ [u])) ∧ AhR fu H it.2 x u
theorem AhIt.tup {fu : Nat} {H H' : Hp} (s : Tup H H') {it : List V × Core} {v r : V} (h : AhIt fu H it v r) : AhIt fu H' it v r := by
  obtain ⟨t, x, t', u, e1, h1, e2, h2, h3⟩ := h
  exact ⟨t, x, t', u, e1, s _ _ h1, e2, s _ _ h2, h3.tup s⟩
theorem six_last (hs : List V) (x : V) : HT.sIx (hs ++ [x]).length (hs ++ [x]).length (some (-1)) = hs.length := by
  unfold HT.sIx
  simp
  lia
theorem cut_last (hs : List V) (x : V) (hn : hs ≠ []) : cutV (hs ++ [x]) none (some (-1)) = hs := by
  unfold cutV
  rw [HT.sIx_none]
  have e : HT.sIx (hs ++ [x]).length (hs ++ [x]).length (some (-1)) = hs.length := by
    unfold HT.sIx
    simp
    lia
  rw [e]
  simp
def spAhead : Sp := fun vs H Q _ => ∃ (l : Addr) (fu : Nat) (its : List (List V × Core)) (iv : List V), vs = [.ref l, .int (fu : Int)] ∧ H l = some (.lst iv) ∧ Al (ItA H) its iv ∧ its.length ≤ 1000 ∧ fu ≤ 1000 ∧
  (∀ it ∈ its, it.1 ≠ [] ∧ it.1.length ≤ 10 ∧ dp it.2 ≤ 30 ∧ (pre it.2).length ≤ 10000 ∧ OkA fu it.2) ∧
  ∀ (H' : Hp) (D : Addr) (rs : List V), Same H H' → H D = none → H' D = some (.lst rs) → rs.length = its.length → (∀ (j : Nat) (it : List V × Core) (v r : V), its[j]? = some it → iv[j]? = some v → rs[j]? = some r → AhIt fu H' it v r) → Q (.ref D) H'
section
variable {P : Program} {w : World} {K : PySem.W.Frag} {mg : Str → Option Value} {base : Heap} {C op : Addr}
abbrev NAhead : List Str := ["items", "fuel"]
theorem scAhead : FnScope NAhead ["items", "fuel"] (defScope sAhead) := ⟨rfl, rfl, rfl, by decide +kernel, rfl, by decide +kernel, by decide +kernel⟩
theorem lcAhead1 : LcS (defScope sAhead).names [(".0", .local), ("item", .local), ("ahead_in", .globalImplicit), ("fuel", .free)] NAhead [false, true] := ⟨by decide +kernel, by decide +kernel, by decide +kernel, by decide +kernel, by decide +kernel, rfl⟩
theorem ndAhead1 : (["items", "fuel", "item"] : List Str).Nodup := by decide +kernel
theorem ok_ahead {f fA T0 : Addr} {fd fdA : FuncData} (F : FunD K "ahead" "ahead" sAhead f fd T0) (T : MT K mg C op)
    (kA : PySem.W.keepIn K (.ref fA) = true) (bA : Binds K fdA ["core", "fuel"] []) (mA : mg "ahead_in" = some (.ref fA)) (GA : FnOk P w K mg base CX0 37 fA fdA ["core", "fuel"] (spAh 30)) : FnOk P w K mg base CX0 38 f fd ["items", "fuel"] spAhead := by
  refine F.ok scAhead (fun vs H Q E h => ?_) (fun cdv A outer s H vs Q E hr h => ?_)
  · obtain ⟨l, fu, its, iv, rfl, _⟩ := h; rfl
  · obtain ⟨l, fu, its, iv, rfl, hl, hal, hil, hfu, hit, q⟩ := h
    have nd := scAhead.nd
    have z1 : 1 ≤ sizeLine := by rw [sizeLine_eq]; decide
    refine ⟨_, pss_one (ps_ret (pe_lc (ext := ["item"]) lcAhead1 rfl (pi_list (pw 0))
        ⟨fun _ _ _ _ _ => (pg_name (i := 2) ndAhead1 rfl (Or.inl rfl) (.inr rfl)), fun _ _ _ _ _ => pts_nil, fun _ _ _ _ _ => (pe_op (op_catTA : OpR _ _ (rCatTA K)) (pe_slice (sl_tup : SlR _ (rSlT K)) (pw 2) po_none (po_some (pe_un un_neg pe_int))) (pe_tup (pa_cons (pe_call GA hr (by rfl) mA kA bA .nil pass0 (pa_cons (pe_ix (ix_tup : IxR _ (rIxT K)) (pw 2) (pe_un un_neg pe_int) (fun _ _ => rfl)) (pa_cons (pw 1) pa_nil))) pa_nil)))⟩)), ?_⟩
    refine ⟨l, rfl, ⟨_, SqL.of hl⟩, fun D hD => ?_⟩
    refine lc_lst (K := K) (a := l) (xs := iv) (fun i ys σ' H' => (∃ v2, σ' = [none, some (.int (fu : Int)), v2]) ∧ Same H H' ∧ H' D = some (.lst ys) ∧ ys.length = i ∧ ∀ (j : Nat) (it : List V × Core) (v r : V), its[j]? = some it → iv[j]? = some v → ys[j]? = some r → AhIt fu H' it v r)
      ⟨⟨_, rfl⟩, same_upd hD, upd_same, rfl, fun j k x y _ _ e => by simp at e⟩ (fun i ys σ' H' _ hP => SqL.of (hP.2.1 _ _ hl)) ?_ ?_
    · rintro i x ys σ' H' hx ⟨⟨v2, rfl⟩, sH, hDy, hyl, hah⟩
      unfold gName
      refine yes_if ?_
      obtain ⟨⟨hs, c⟩, ek, ⟨t, y, rfl, ht, hy⟩⟩ := hal.at hx
      obtain ⟨hne, hlen, hdp, hpl, hok⟩ := hit _ (List.mem_of_getElem? ek)
      have hi : i < its.length := (List.getElem?_eq_some_iff.mp ek).1
      have ht' := sH _ _ ht
      refine ⟨_, rfl, _, rfl, t, _, rfl, SqT.of ht', (fun h => ?_), fun p2 hp2 => ?_⟩
      · have h2 := h.2
        rw [six_last, List.length_append, List.length_singleton] at h2
        lia
      rw [cut_last _ _ hne]
      have s2 := same_upd (o := .tup hs) hp2
      have f2 : upd H' p2 (.tup hs) p2 = some (.tup hs) := upd_same
      generalize upd H' p2 (.tup hs) = H2 at s2 f2 ⊢
      refine ⟨_, rfl, t, _, _, _, rfl, rfl, SqT.of (s2 _ _ ht'), last_ref, y, c, fu, rfl, hy.tup (Tup.of (sH.trans s2)), hdp, hpl, hok, hfu, fun H4 u s4 hu hau => ⟨z1, fun t3 ht3 => ?_⟩⟩
      have s5 := same_upd (o := .tup [u]) ht3
      have f5 : upd H4 t3 (.tup [u]) t3 = some (.tup [u]) := upd_same
      generalize upd H4 t3 (.tup [u]) = H5 at s5 f5 ⊢
      refine ⟨p2, t3, hs, [u], rfl, rfl, s5 _ _ (s4 _ _ f2), SqT.of f5, hne, by rw [sizeLine_eq]; show hs.length + 1 ≤ _; have : hs.length ≤ 10 := hlen; lia, fun p H6 s6 hp6 => ?_⟩
      have s26 := ((s2.trans s4).trans s5).trans s6
      refine ⟨s26 _ _ hDy, by rw [hyl, sizeLine_eq]; lia, Beh.of (by rw [hal.1]; exact hi) ⟨⟨_, rfl⟩, fun c o e => ?_, upd_same, by rw [List.length_append, hyl]; rfl, ?_⟩⟩
      · rw [upd_ne (ne_of_none e hD)]; exact s26 _ _ (sH _ _ e)
      · have t7 : Tup H6 (upd H6 D (.lst (ys ++ [.ref p]))) := tuplst (s26 _ _ hDy)
        intro j it0 v0 r0 e1 e2 e3
        by_cases hj : j < ys.length
        · rw [List.getElem?_append_left hj] at e3
          exact (hah j it0 v0 r0 e1 e2 e3).tup ((Tup.of s26).trans t7)
        · have hj2 : j = i := by
            have := (List.getElem?_eq_some_iff.mp e3).1
            rw [List.length_append, List.length_singleton] at this
            lia
          subst hj2
          rw [ek] at e1
          rw [hx] at e2
          rw [← hyl, List.getElem?_append_right (Nat.le_refl _), Nat.sub_self] at e3
          cases e1
          cases e2
          cases e3
          exact ⟨t, y, p, u, rfl, t7 _ _ (s26 _ _ ht'), rfl, t7 _ _ hp6, hau.tup ((Tup.of (s5.trans s6)).trans t7)⟩
    · rintro ys σ' H2 ⟨_, s2, hDy, hyl, hah⟩
      exact q _ D ys s2 hD hDy (by rw [hyl, hal.1]) hah
end
end K69

set_option Elab.async false
set_option linter.all false
set_option maxRecDepth 100000
set_option maxHeartbeats 4000000
set_option exponentiation.threshold 3000
/-! k69: the law's sums come to their values. Own work. -/
namespace K69
open PySem L2 Builtin.Str MC
def fuN : Nat → Nat
  | 0 => 0
  | d + 1 => 4 * fuN d + 2
def szN : Nat → Nat
  | 0 => 1
  | d + 1 => 4 * szN d + 6
def exN : Nat → Nat
  | 0 => 0
  | d + 1 => 2 * exN d + 1
theorem szN_pos : ∀ d, 1 ≤ szN d
  | 0 => Nat.le_refl _
  | d + 1 => by show 1 ≤ 4 * szN d + 6; lia
theorem fuN_le : ∀ d, d ≤ 3 → fuN d ≤ 42
  | 0, _ => by decide
  | 1, _ => by decide
  | 2, _ => by decide
  | 3, _ => by decide
  | d + 4, h => absurd h (by lia)
theorem szN_le : ∀ d, d ≤ 3 → szN d ≤ 190
  | 0, _ => by decide
  | 1, _ => by decide
  | 2, _ => by decide
  | 3, _ => by decide
  | d + 4, h => absurd h (by lia)
theorem exN_le : ∀ d, d ≤ 3 → exN d ≤ 7
  | 0, _ => by decide
  | 1, _ => by decide
  | 2, _ => by decide
  | 3, _ => by decide
  | d + 4, h => absurd h (by lia)
def B18 : Nat := 10 ^ 18
/-- what is seen is known, or told within -/
def Seen (ks : List (Int × Int)) (c : Core) : Prop := ∀ p, Core.seen p ∈ pre c → p ∈ ks.map Prod.fst ∨ ∃ ps b, Core.fn ps b ∈ pre c ∧ p ∈ ps
def Few (c : Core) : Prop := ∀ ps b, Core.fn ps b ∈ pre c → ps.length ≤ 3
/-- a sum -/
structure Sm (d : Nat) (ks : List (Int × Int)) (c : Core) (v : Int) : Prop where
  szl : c.sz ≤ szN d
  dpl : dp c ≤ 4 * d
  bd : ∀ m, (∀ k ∈ ks, k.2.natAbs ≤ 2 ^ m * B18) → v.natAbs ≤ 2 ^ (m + exN d) * B18
  evs : ∀ fu, 120 ≤ fu → fu ≤ 1000 → ∀ g x e, fuN d ≤ x → x ≤ g → (∀ k ∈ ks, look kn0 e k.1 = some (.num k.2)) → ∃ x', evC kn0 (bdOf kn0 g) e (ahC fu c) x = .val (.num v) x' ∧ x ≤ x' + fuN d ∧ x' ≤ x
  sn : ∀ fu, Seen ks (ahC fu c)
  ps : ∀ fu, Few (ahC fu c)
  ok : ∀ fu, 120 ≤ fu → fu ≤ 1000 → OkA fu c
  org : ∀ (kn : Kn) g e, (∀ k ∈ ks, look kn e k.1 = some (.num k.2)) → ∀ x, evC kn (bdOf kn g) e c x = .stop "on" ∨ ∃ x', x' ≤ x ∧ evC kn (bdOf kn g) e c x = .val (.num v) x'
theorem pre_of {c j : Core} (h : j ∈ pre c) : j = c ∨ ∃ k ∈ ins c, j ∈ pre k := by
  rw [pre_ins] at h
  rcases List.mem_cons.mp h with h | h
  · exact .inl h
  · unfold preL at h
    obtain ⟨l, hl, hj⟩ := List.mem_flatten.mp h
    obtain ⟨k, hk, rfl⟩ := List.mem_map.mp hl
    exact .inr ⟨k, hk, hj⟩
theorem ok_of {fu : Nat} {c : Core} (hn : ∀ b, c ≠ .now b) (h : ∀ k ∈ ins c, OkA fu k) : OkA fu c := fun b hb => by
  rcases pre_of hb with e | ⟨k, hk, hj⟩
  · exact absurd e.symm (hn b)
  · exact h k hk b hj
theorem few_of {c : Core} (hn : ∀ ps b, c = .fn ps b → ps.length ≤ 3) (h : ∀ k ∈ ins c, Few k) : Few c := fun ps b hb => by
  rcases pre_of hb with e | ⟨k, hk, hj⟩
  · exact hn ps b e.symm
  · exact h k hk ps b hj
theorem seen_of {ks : List (Int × Int)} {c : Core} (hn : ∀ p, c ≠ .seen p) (h : ∀ k ∈ ins c, Seen ks k) : Seen ks c := fun p hb => by
  rcases pre_of hb with e | ⟨k, hk, hj⟩
  · exact absurd e.symm (hn p)
  · rcases h k hk p hj with h1 | ⟨ps, b, h1, h2⟩
    · exact .inl h1
    · exact .inr ⟨ps, b, pre_mem_ins hk h1, h2⟩
mutual
theorem sz_ah (fu : Nat) : ∀ c : Core, (ahC fu c).sz ≤ c.sz
  | .fn ps b => by simp only [ahC, Core.sz]; have := sz_ah fu b; lia
  | .call f as => by simp only [ahC, Core.sz]; have := sz_ah fu f; have := szs_ah fu as; lia
  | .pick a b c => by simp only [ahC, Core.sz]; have := sz_ah fu a; have := sz_ah fu b; have := sz_ah fu c; lia
  | .now c => by simp only [ahC, Core.sz]; lia
  | .num z => by simp only [ahC]; exact Nat.le_refl _
  | .free n => by simp only [ahC]; exact Nat.le_refl _
  | .seen p => by simp only [ahC]; exact Nat.le_refl _
theorem szs_ah (fu : Nat) : ∀ as : Cores, (ahCs fu as).sz ≤ as.sz
  | .nil => by simp only [ahCs]; exact Nat.le_refl _
  | .cons c r => by simp only [ahCs, Cores.sz]; have := sz_ah fu c; have := szs_ah fu r; lia
end
mutual
theorem pre_sz : ∀ c : Core, (pre c).length ≤ c.sz
  | .fn ps b => by simp only [pre, Core.sz, List.length_cons]; have := pre_sz b; lia
  | .call f as => by simp only [pre, Core.sz, List.length_cons, List.length_append]; have := pre_sz f; have := pres_sz as; lia
  | .pick a b c => by simp only [pre, Core.sz, List.length_cons, List.length_append]; have := pre_sz a; have := pre_sz b; have := pre_sz c; lia
  | .now c => by simp only [pre, Core.sz, List.length_cons]; have := pre_sz c; lia
  | .num z => by simp [pre, Core.sz]
  | .free n => by simp [pre, Core.sz]
  | .seen p => by simp [pre, Core.sz]
theorem pres_sz : ∀ as : Cores, (pres as).length ≤ as.sz
  | .nil => by simp [pres]
  | .cons c r => by simp only [pres, Cores.sz, List.length_append]; have := pre_sz c; have := pres_sz r; lia
end
theorem pow_le {a b : Nat} (h : a ≤ b) : 2 ^ a * B18 ≤ 2 ^ b * B18 := Nat.mul_le_mul_right _ (Nat.pow_le_pow_right (by decide) h)
theorem B_le (a : Nat) : B18 ≤ 2 ^ a * B18 := Nat.le_mul_of_pos_left _ (Nat.pow_pos (by decide))
theorem sm_num (d : Nat) (ks : List (Int × Int)) {z : Int} (h : z.natAbs ≤ B18) : Sm d ks (.num z) z := by
  refine ⟨by simp only [Core.sz]; exact szN_pos d, by simp [dp], fun m _ => Nat.le_trans h (B_le _), fun fu _ _ g x e _ _ _ => ⟨x, by simp only [ahC, evC], by lia, Nat.le_refl _⟩, fun fu p hp => ?_, fun fu ps b hb => ?_, fun fu _ _ b hb => ?_, fun kn g e _ x => .inr ⟨x, Nat.le_refl _, by simp only [evC]⟩⟩
  · simp [ahC, pre] at hp
  · simp [ahC, pre] at hb
  · simp [pre] at hb
theorem sm_seen (d : Nat) {ks : List (Int × Int)} {k : Int × Int} (h : k ∈ ks) : Sm d ks (.seen k.1) k.2 := by
  refine ⟨by simp only [Core.sz]; exact szN_pos d, by simp [dp], fun m hm => Nat.le_trans (hm k h) (pow_le (by lia)), fun fu _ _ g x e _ _ hk => ⟨x, by simp only [ahC, evC]; rw [hk k h], by lia, Nat.le_refl _⟩, fun fu p hp => ?_, fun fu ps b hb => ?_, fun fu _ _ b hb => ?_, fun kn g e hk x => .inr ⟨x, Nat.le_refl _, by simp only [evC]; rw [hk k h]⟩⟩
  · simp [ahC, pre] at hp
    subst hp
    exact .inl (List.mem_map.mpr ⟨k, h, rfl⟩)
  · simp [ahC, pre] at hb
  · simp [pre] at hb
theorem few_free (n : Str) : Few (.free n) := fun ps b hb => by simp [pre] at hb
theorem seen_free (ks : List (Int × Int)) (n : Str) : Seen ks (.free n) := fun p hb => by simp [pre] at hb
theorem ok_free (fu : Nat) (n : Str) : OkA fu (.free n) := fun b hb => by simp [pre] at hb
theorem cal_le {n : Str} {x y : Int} {M : Nat} (hx : x.natAbs ≤ M) (hy : y.natAbs ≤ M) (hM : 1 ≤ M) : (cal n x y).natAbs ≤ 2 * M := by
  unfold cal
  by_cases h1 : n = "add"
  · rw [if_pos h1]; omega
  · rw [if_neg h1]
    by_cases h2 : n = "sub"
    · rw [if_pos h2]; omega
    · rw [if_neg h2]
      by_cases h3 : x < y
      · rw [if_pos h3]; simp; omega
      · rw [if_neg h3]; simp
theorem sm_op {d : Nat} {ks : List (Int × Int)} {a b : Core} {x y : Int} {n : Str} (hn : n ∈ OPS) (ha : Sm d ks a x) (hb : Sm d ks b y) : Sm (d + 1) ks (.call (.free n) (Cores.of [a, b])) (cal n x y) := by
  have hins : ins (.call (.free n) (Cores.of [a, b])) = [.free n, a, b] := rfl
  have hinsA : ∀ fu, ins (ahC fu (.call (.free n) (Cores.of [a, b]))) = [.free n, ahC fu a, ahC fu b] := fun fu => by simp only [ahC, ins, Cores.of, ahCs, Cores.list]
  refine ⟨?_, ?_, fun m hm => ?_, fun fu h1 h2 g x0 e hx0 hg hk => ?_, fun fu => ?_, fun fu => ?_, fun fu h1 h2 => ?_, fun kn g e hk x0 => ?_⟩
  · simp only [Core.sz, Cores.of, Cores.sz, szN]
    have := ha.szl; have := hb.szl; lia
  · simp only [dp, Cores.of, dps]
    have := ha.dpl; have := hb.dpl; lia
  · have h1 := ha.bd m hm
    have h2 := hb.bd m hm
    refine Nat.le_trans (cal_le h1 h2 (Nat.le_trans (by decide) (B_le _))) ?_
    have e : 2 * (2 ^ (m + exN d) * B18) = 2 ^ (m + exN d + 1) * B18 := by rw [Nat.pow_succ, Nat.mul_comm _ 2, ← Nat.mul_assoc]
    rw [e]
    refine pow_le ?_
    show m + exN d + 1 ≤ m + (2 * exN d + 1)
    lia
  · have hd : fuN (d + 1) = 4 * fuN d + 2 := rfl
    obtain ⟨x1, e1, l1, l1'⟩ := ha.evs fu h1 h2 g x0 e (by lia) hg hk
    obtain ⟨x2, e2, l2, l2'⟩ := hb.evs fu h1 h2 g x1 e (by lia) (by lia) hk
    refine ⟨x2, ?_, by lia, by lia⟩
    simp only [ahC, Cores.of, ahCs, evC, evCs, if_pos hn, e1, e2, entO]
    rfl
  · refine seen_of (fun p e => by simp [ahC] at e) fun k hk => ?_
    rw [hinsA] at hk
    simp only [List.mem_cons, List.not_mem_nil, or_false] at hk
    rcases hk with rfl | rfl | rfl
    · exact seen_free _ _
    · exact ha.sn fu
    · exact hb.sn fu
  · refine few_of (fun ps b e => by simp [ahC] at e) fun k hk => ?_
    rw [hinsA] at hk
    simp only [List.mem_cons, List.not_mem_nil, or_false] at hk
    rcases hk with rfl | rfl | rfl
    · exact few_free _
    · exact ha.ps fu
    · exact hb.ps fu
  · refine ok_of (fun b e => nomatch e) fun k hk => ?_
    rw [hins] at hk
    simp only [List.mem_cons, List.not_mem_nil, or_false] at hk
    rcases hk with rfl | rfl | rfl
    · exact ok_free _ _
    · exact ha.ok fu h1 h2
    · exact hb.ok fu h1 h2
  · rcases ha.org kn g e hk x0 with e1 | ⟨x1, l1, e1⟩
    · exact .inl (by simp only [Cores.of, evC, evCs, if_pos hn, e1])
    · rcases hb.org kn g e hk x1 with e2 | ⟨x2, l2, e2⟩
      · exact .inl (by simp only [Cores.of, evC, evCs, if_pos hn, e1, e2])
      · exact .inr ⟨x2, by lia, by simp only [Cores.of, evC, evCs, if_pos hn, e1, e2, entO]; rfl⟩
theorem sm_pick {d : Nat} {ks : List (Int × Int)} {t a b : Core} {z x y : Int} (ht : Sm d ks t z) (ha : Sm d ks a x) (hb : Sm d ks b y) : Sm (d + 1) ks (.pick t a b) (if z = 0 then y else x) := by
  have hins : ins (.pick t a b) = [t, a, b] := rfl
  have hinsA : ∀ fu, ins (ahC fu (.pick t a b)) = [ahC fu t, ahC fu a, ahC fu b] := fun fu => by simp only [ahC, ins]
  refine ⟨?_, ?_, fun m hm => ?_, fun fu h1 h2 g x0 e hx0 hg hk => ?_, fun fu => ?_, fun fu => ?_, fun fu h1 h2 => ?_, fun kn g e hk x0 => ?_⟩
  · simp only [Core.sz, szN]
    have := ha.szl; have := hb.szl; have := ht.szl; lia
  · simp only [dp]
    have := ha.dpl; have := hb.dpl; have := ht.dpl; lia
  · have h1 := ha.bd m hm
    have h2 := hb.bd m hm
    have h3 : 2 ^ (m + exN d) * B18 ≤ 2 ^ (m + exN (d + 1)) * B18 := pow_le (by show m + exN d ≤ m + (2 * exN d + 1); lia)
    by_cases hz : z = 0
    · rw [if_pos hz]; exact Nat.le_trans h2 h3
    · rw [if_neg hz]; exact Nat.le_trans h1 h3
  · have hd : fuN (d + 1) = 4 * fuN d + 2 := rfl
    obtain ⟨x1, e1, l1, l1'⟩ := ht.evs fu h1 h2 g x0 e (by lia) hg hk
    by_cases hz : z = 0
    · obtain ⟨x2, e2, l2, l2'⟩ := hb.evs fu h1 h2 g x1 e (by lia) (by lia) hk
      refine ⟨x2, ?_, by lia, by lia⟩
      simp only [ahC, evC, e1, if_pos hz, e2]
    · obtain ⟨x2, e2, l2, l2'⟩ := ha.evs fu h1 h2 g x1 e (by lia) (by lia) hk
      refine ⟨x2, ?_, by lia, by lia⟩
      simp only [ahC, evC, e1, if_neg hz, e2]
  · refine seen_of (fun p e => by simp [ahC] at e) fun k hk => ?_
    rw [hinsA] at hk
    simp only [List.mem_cons, List.not_mem_nil, or_false] at hk
    rcases hk with rfl | rfl | rfl
    · exact ht.sn fu
    · exact ha.sn fu
    · exact hb.sn fu
  · refine few_of (fun ps b e => by simp [ahC] at e) fun k hk => ?_
    rw [hinsA] at hk
    simp only [List.mem_cons, List.not_mem_nil, or_false] at hk
    rcases hk with rfl | rfl | rfl
    · exact ht.ps fu
    · exact ha.ps fu
    · exact hb.ps fu
  · refine ok_of (fun b e => nomatch e) fun k hk => ?_
    rw [hins] at hk
    simp only [List.mem_cons, List.not_mem_nil, or_false] at hk
    rcases hk with rfl | rfl | rfl
    · exact ht.ok fu h1 h2
    · exact ha.ok fu h1 h2
    · exact hb.ok fu h1 h2
  · rcases ht.org kn g e hk x0 with e1 | ⟨x1, l1, e1⟩
    · exact .inl (by simp only [evC, e1])
    · by_cases hz : z = 0
      · rcases hb.org kn g e hk x1 with e2 | ⟨x2, l2, e2⟩
        · exact .inl (by simp only [evC, e1, if_pos hz, e2])
        · exact .inr ⟨x2, by lia, by simp only [evC, e1, if_pos hz, e2]⟩
      · rcases ha.org kn g e hk x1 with e2 | ⟨x2, l2, e2⟩
        · exact .inl (by simp only [evC, e1, if_neg hz, e2])
        · exact .inr ⟨x2, by lia, by simp only [evC, e1, if_neg hz, e2]⟩
/-- of a sum that knows nothing a number can be told -/
theorem Sm.told {d : Nat} (hd : d ≤ 3) {c : Core} {v : Int} (h : Sm d [] c v) {fu : Nat} (h1 : 120 ≤ fu) (h2 : fu ≤ 1000) : NumOk fu (ahC fu c) ∧ numO (ev kn0 1000 fu .nil (ahC fu c)) = v := by
  have hf := fuN_le d hd
  have hs := szN_le d hd
  obtain ⟨x', e, _, _⟩ := h.evs fu h1 h2 1000 fu .nil (by lia) h2 (fun k hk => nomatch hk)
  have hsz := sz_ah fu c
  have hps := pre_sz (ahC fu c)
  have hsc := h.szl
  have hb := h.bd 0 (fun k hk => nomatch hk)
  refine ⟨⟨by lia, fun ps b hm => Nat.le_trans (h.ps fu ps b hm) (by decide), fun p hp => ?_, by lia, v, x', by rw [ev_eq]; exact e, ?_⟩, by rw [ev_eq, e]; rfl⟩
  · rcases h.sn fu p hp with q | q
    · simp at q
    · exact q
  · refine Nat.lt_of_le_of_lt hb (Nat.lt_of_le_of_lt (pow_le (show 0 + exN d ≤ 7 by have := exN_le d hd; lia)) (by unfold B18; decide))
theorem sm_now {d : Nat} (hd : d ≤ 3) {ks : List (Int × Int)} {c : Core} {v : Int} (h : Sm d [] c v) : Sm (d + 1) ks (.now c) v := by
  refine ⟨?_, ?_, fun m hm => ?_, fun fu h1 h2 g x0 e hx0 hg hk => ?_, fun fu p hp => ?_, fun fu ps b hb => ?_, fun fu h1 h2 b hb => ?_, fun kn g e _ x => ?_⟩
  · simp only [Core.sz, szN]
    have := h.szl; lia
  · simp only [dp]
    have := h.dpl; lia
  · refine Nat.le_trans (h.bd 0 (fun k hk => nomatch hk)) (pow_le (by show 0 + exN d ≤ m + (2 * exN d + 1); lia))
  · obtain ⟨_, e2⟩ := h.told hd h1 h2
    refine ⟨x0, ?_, by lia, Nat.le_refl _⟩
    simp only [ahC, evC, e2]
  · simp [ahC, pre] at hp
  · simp [ahC, pre] at hb
  · rcases pre_of hb with e | ⟨k, hk, hj⟩
    · cases e
      exact (h.told hd h1 h2).1
    · simp only [ins, List.mem_singleton] at hk
      subst hk
      exact h.ok fu h1 h2 b hj
  · simp only [evC]
    exact h.org kn g e (fun k hk => nomatch hk) x
/-! ### bodies -/
theorem kz_none : ∀ {ps : List Int} {vs : List Val} {p : Int}, p ∉ ps → (kz ps vs).get p = none
  | [], vs, p, h => by simp [kz, Kvs.get]
  | q :: ps, [], p, h => by simp [kz, Kvs.get]
  | q :: ps, v :: vs, p, h => by
    simp only [List.mem_cons, not_or] at h
    simp only [kz, Kvs.get, kz_none h.2]
    rw [if_neg (fun e => h.1 e.symm)]
theorem kz_some : ∀ {ps : List Int} {vs : List Int}, ps.Nodup → ∀ k ∈ ps.zip vs, (kz ps (vs.map Val.num)).get k.1 = some (.num k.2)
  | [], vs, h, k, hk => by simp at hk
  | q :: ps, [], h, k, hk => by simp at hk
  | q :: ps, v :: vs, h, k, hk => by
    simp only [List.zip_cons_cons, List.mem_cons] at hk
    rw [List.nodup_cons] at h
    simp only [List.map_cons, kz, Kvs.get]
    rcases hk with rfl | hk
    · rw [kz_none h.1]; simp
    · rw [kz_some h.2 k hk]
inductive Sms (d : Nat) (ks : List (Int × Int)) : List Core → List Int → Prop where
  | nil : Sms d ks [] []
  | cons {c : Core} {v : Int} {cs : List Core} {vs : List Int} (h : Sm d ks c v) (t : Sms d ks cs vs) : Sms d ks (c :: cs) (v :: vs)
theorem Sms.len {d : Nat} {ks : List (Int × Int)} {cs : List Core} {vs : List Int} (h : Sms d ks cs vs) : cs.length = vs.length := by
  induction h with
  | nil => rfl
  | cons h t ih => exact congrArg (· + 1) ih
theorem Sms.mem {d : Nat} {ks : List (Int × Int)} {cs : List Core} {vs : List Int} (h : Sms d ks cs vs) : ∀ c ∈ cs, ∃ v, Sm d ks c v := by
  induction h with
  | nil => exact fun c h => nomatch h
  | cons h t ih =>
    intro c hc
    rcases List.mem_cons.mp hc with rfl | hc
    · exact ⟨_, h⟩
    · exact ih c hc
theorem Sms.vals {d : Nat} {ks : List (Int × Int)} {cs : List Core} {vs : List Int} (h : Sms d ks cs vs) : ∀ v ∈ vs, ∃ c, Sm d ks c v := by
  induction h with
  | nil => exact fun c h => nomatch h
  | cons h t ih =>
    intro c hc
    rcases List.mem_cons.mp hc with rfl | hc
    · exact ⟨_, h⟩
    · exact ih c hc
theorem Sms.szl {d : Nat} {ks : List (Int × Int)} {cs : List Core} {vs : List Int} (h : Sms d ks cs vs) : (Cores.of cs).sz ≤ cs.length * szN d := by
  induction h with
  | nil => exact Nat.zero_le _
  | cons h t ih =>
    simp only [Cores.of, Cores.sz, List.length_cons, Nat.succ_mul]
    have := h.szl; lia
theorem Sms.dpl {d : Nat} {ks : List (Int × Int)} {cs : List Core} {vs : List Int} (h : Sms d ks cs vs) : dps (Cores.of cs) ≤ 4 * d := by
  induction h with
  | nil => exact Nat.zero_le _
  | cons h t ih =>
    simp only [Cores.of, dps]
    have := h.dpl; lia
theorem Sms.evs {d : Nat} {ks : List (Int × Int)} {fu : Nat} (h1 : 120 ≤ fu) (h2 : fu ≤ 1000) {g : Nat} {e : Fr} (hk : ∀ k ∈ ks, look kn0 e k.1 = some (.num k.2)) {cs : List Core} {vs : List Int} (h : Sms d ks cs vs) : ∀ x, cs.length * fuN d ≤ x → x ≤ g → ∃ x', evCs kn0 (bdOf kn0 g) e (ahCs fu (Cores.of cs)) x = .vals (vs.map Val.num) x' ∧ x ≤ x' + cs.length * fuN d ∧ x' ≤ x := by
  induction h with
  | nil => exact fun x hx hg => ⟨x, rfl, by lia, Nat.le_refl _⟩
  | cons h t ih =>
    intro x hx hg
    rw [List.length_cons, Nat.succ_mul] at hx
    obtain ⟨x1, e1, l1, l1'⟩ := h.evs fu h1 h2 g x e (by lia) hg hk
    obtain ⟨x2, e2, l2, l2'⟩ := ih x1 (by lia) (by lia)
    refine ⟨x2, ?_, by rw [List.length_cons, Nat.succ_mul]; lia, by lia⟩
    simp only [Cores.of, ahCs, evCs, e1, e2, List.map_cons]
theorem Sms.org {d : Nat} {ks : List (Int × Int)} {kn : Kn} {g : Nat} {e : Fr} (hk : ∀ k ∈ ks, look kn e k.1 = some (.num k.2)) {cs : List Core} {vs : List Int} (h : Sms d ks cs vs) : ∀ x, evCs kn (bdOf kn g) e (Cores.of cs) x = .stop "on" ∨ ∃ x', x' ≤ x ∧ evCs kn (bdOf kn g) e (Cores.of cs) x = .vals (vs.map Val.num) x' := by
  induction h with
  | nil => exact fun x => .inr ⟨x, Nat.le_refl _, rfl⟩
  | cons h t ih =>
    intro x
    rcases h.org kn g e hk x with e1 | ⟨x1, l1, e1⟩
    · exact .inl (by simp only [Cores.of, evCs, e1])
    · rcases ih x1 with e2 | ⟨x2, l2, e2⟩
      · exact .inl (by simp only [Cores.of, evCs, e1, e2])
      · exact .inr ⟨x2, by lia, by simp only [Cores.of, evCs, e1, e2, List.map_cons]⟩
/-- a body entered, as it was told -/
theorem ent_org {kn : Kn} {g : Nat} {ps : List Int} {b : Core} {e : Fr} {vs : List Val} {v : Int} {x : Nat} (hl : ps.length = vs.length) (hb : ∀ g' x', evC kn (bdOf kn g') (.cons (kz ps vs) e) b x' = .stop "on" ∨ ∃ x2, x2 ≤ x' ∧ evC kn (bdOf kn g') (.cons (kz ps vs) e) b x' = .val (.num v) x2) :
    entO (bdOf kn g) x (.fn ps b e) vs = .stop "on" ∨ ∃ x2, x2 ≤ x ∧ entO (bdOf kn g) x (.fn ps b e) vs = .val (.num v) x2 := by
  simp only [entO, if_pos hl]
  cases x with
  | zero => exact .inl rfl
  | succ x =>
    simp only [burnO]
    cases g with
    | zero => exact .inl rfl
    | succ g =>
      show ev kn g x _ b = _ ∨ _
      rcases hb g x with e1 | ⟨x2, l2, e2⟩
      · exact .inl (by rw [ev_eq]; exact e1)
      · exact .inr ⟨x2, by lia, by show ev kn g x _ b = _; rw [ev_eq]; exact e2⟩
theorem look_two {kn : Kn} {ks : List (Int × Int)} {e : Fr} {ps : List Int} {vs : List Int} (hk : ∀ k ∈ ks, look kn e k.1 = some (.num k.2)) (hnd : ps.Nodup) (hdj : ∀ p ∈ ps, p ∉ ks.map Prod.fst) : ∀ k ∈ ks ++ ps.zip vs, look kn (.cons (kz ps (vs.map Val.num)) e) k.1 = some (.num k.2) := fun k hk0 => by
  simp only [look]
  rcases List.mem_append.mp hk0 with hk1 | hk1
  · rw [kz_none (fun hp => hdj k.1 hp (List.mem_map.mpr ⟨k, hk1, rfl⟩))]
    exact hk k hk1
  · rw [kz_some hnd k hk1]
theorem sm_fn {d : Nat} {ks : List (Int × Int)} {ps : List Int} {b : Core} {v : Int} {cs : List Core} {vs : List Int} (hcs : Sms d ks cs vs) (hb : Sm d (ks ++ ps.zip vs) b v) (hl : ps.length = cs.length) (h3 : ps.length ≤ 3) (hnd : ps.Nodup) (hdj : ∀ p ∈ ps, p ∉ ks.map Prod.fst) : Sm (d + 1) ks (.call (.fn ps b) (Cores.of cs)) v := by
  have hins : ins (.call (.fn ps b) (Cores.of cs)) = .fn ps b :: cs := by simp only [ins, Cores.list_of]
  have hinsA : ∀ fu, ins (ahC fu (.call (.fn ps b) (Cores.of cs))) = .fn ps (ahC fu b) :: cs.map (ahC fu) := fun fu => by simp only [ahC, ins]; rw [ahCs_list, Cores.list_of]
  have hvl := hcs.len
  refine ⟨?_, ?_, fun m hm => ?_, fun fu h1 h2 g x0 e hx0 hg hk => ?_, fun fu => ?_, fun fu => ?_, fun fu h1 h2 => ?_, fun kn g e hk x => ?_⟩
  · simp only [Core.sz, szN]
    have := hb.szl
    have := hcs.szl
    have h4 : cs.length * szN d ≤ 3 * szN d := Nat.mul_le_mul_right _ (by lia)
    lia
  · simp only [dp]
    have := hb.dpl
    have := hcs.dpl
    lia
  · have hx : ∀ k ∈ ks ++ ps.zip vs, k.2.natAbs ≤ 2 ^ (m + exN d) * B18 := fun k hk => by
      rcases List.mem_append.mp hk with hk | hk
      · exact Nat.le_trans (hm k hk) (pow_le (by lia))
      · obtain ⟨c, hc⟩ := hcs.vals k.2 (List.of_mem_zip hk).2
        exact hc.bd m hm
    refine Nat.le_trans (hb.bd _ hx) (pow_le ?_)
    show m + exN d + exN d ≤ m + (2 * exN d + 1)
    lia
  · have hd : fuN (d + 1) = 4 * fuN d + 2 := rfl
    have h4 : cs.length * fuN d ≤ 3 * fuN d := Nat.mul_le_mul_right _ (by lia)
    obtain ⟨x1, e1, l1, l1'⟩ := hcs.evs h1 h2 hk x0 (by lia) hg
    obtain ⟨x2, rfl⟩ : ∃ x2, x1 = x2 + 1 := ⟨x1 - 1, by lia⟩
    obtain ⟨g', rfl⟩ : ∃ g', g = g' + 1 := ⟨g - 1, by lia⟩
    have hk' := look_two (vs := vs) hk hnd hdj
    obtain ⟨x3, e3, l3, l3'⟩ := hb.evs fu h1 h2 g' x2 (.cons (kz ps (vs.map Val.num)) e) (by lia) (by lia) hk'
    refine ⟨x3, ?_, by lia, by lia⟩
    have e4 : entO (bdOf kn0 (g' + 1)) (x2 + 1) (.fn ps (ahC fu b) e) (vs.map Val.num) = .val (.num v) x3 := by
      simp only [entO, List.length_map, burnO]
      rw [if_pos (by lia)]
      show ev kn0 g' x2 _ _ = _
      rw [ev_eq]; exact e3
    simp only [ahC, evC, e1, e4]
  · intro p hp
    rcases pre_of hp with q | ⟨k, hk, hj⟩
    · simp [ahC] at q
    · have hk0 := hk
      rw [hinsA] at hk
      rcases List.mem_cons.mp hk with rfl | hk
      · rcases pre_of hj with q | ⟨k', hk', hj'⟩
        · exact nomatch q
        · simp only [ins, List.mem_singleton] at hk'
          subst hk'
          rcases hb.sn fu p hj' with q | ⟨qs, b', q1, q2⟩
          · rw [List.map_append, List.mem_append] at q
            rcases q with q | q
            · exact .inl q
            · obtain ⟨k', hk', rfl⟩ := List.mem_map.mp q
              exact .inr ⟨ps, ahC fu b, pre_mem_ins hk0 (pre_self _), (List.of_mem_zip hk').1⟩
          · exact .inr ⟨qs, b', pre_mem_ins hk0 (pre_mem_ins (by simp [ins]) q1), q2⟩
      · obtain ⟨c, hc, rfl⟩ := List.mem_map.mp hk
        obtain ⟨v', hv'⟩ := hcs.mem c hc
        rcases hv'.sn fu p hj with q | ⟨qs, b', q1, q2⟩
        · exact .inl q
        · exact .inr ⟨qs, b', pre_mem_ins hk0 q1, q2⟩
  · refine few_of (fun ps b e => by simp [ahC] at e) fun k hk => ?_
    rw [hinsA] at hk
    rcases List.mem_cons.mp hk with rfl | hk
    · refine few_of (fun ps' b' e => by cases e; exact h3) fun k hk => ?_
      simp only [ins, List.mem_singleton] at hk
      subst hk
      exact hb.ps fu
    · obtain ⟨c, hc, rfl⟩ := List.mem_map.mp hk
      obtain ⟨v', hv'⟩ := hcs.mem c hc
      exact hv'.ps fu
  · refine ok_of (fun b e => nomatch e) fun k hk => ?_
    rw [hins] at hk
    rcases List.mem_cons.mp hk with rfl | hk
    · refine ok_of (fun b e => nomatch e) fun k hk => ?_
      simp only [ins, List.mem_singleton] at hk
      subst hk
      exact hb.ok fu h1 h2
    · obtain ⟨v', hv'⟩ := hcs.mem k hk
      exact hv'.ok fu h1 h2
  · simp only [evC]
    rcases hcs.org (g := g) hk x with e1 | ⟨x1, l1, e1⟩
    · exact .inl (by rw [e1])
    · rw [e1]
      rcases ent_org (kn := kn) (g := g) (x := x1) (v := v) (vs := vs.map Val.num) (b := b) (e := e) (by rw [List.length_map]; lia) (fun g' x' => hb.org kn g' _ (look_two hk hnd hdj) x') with e2 | ⟨x2, l2, e2⟩
      · exact .inl e2
      · exact .inr ⟨x2, by lia, e2⟩

theorem sm_curry {d : Nat} {ks : List (Int × Int)} {p q : Int} {a1 a2 b : Core} {v1 v2 v : Int} (h1 : Sm d ks a1 v1) (h2 : Sm d ks a2 v2) (hb : Sm d ((ks ++ [(p, v1)]) ++ [(q, v2)]) b v) (hp : p ∉ ks.map Prod.fst) (hq : q ∉ ks.map Prod.fst) (hpq : p ≠ q) : Sm (d + 1) ks (.call (.call (.fn [p] (.fn [q] b)) (Cores.of [a1])) (Cores.of [a2])) v := by
  have hk1 : ∀ {kn : Kn} {e : Fr}, (∀ k ∈ ks, look kn e k.1 = some (.num k.2)) → ∀ k ∈ (ks ++ [(p, v1)]) ++ [(q, v2)], look kn (.cons (kz [q] [.num v2]) (.cons (kz [p] [.num v1]) e)) k.1 = some (.num k.2) := fun {kn e} hk => by
    have ha := look_two (kn := kn) (e := e) (ps := [p]) (vs := [v1]) hk (by simp) (fun r hr => by rw [List.mem_singleton.mp hr]; exact hp)
    exact look_two (ps := [q]) (vs := [v2]) ha (by simp) (fun r hr => by
      rw [List.mem_singleton.mp hr]
      show q ∉ (ks ++ [(p, v1)]).map Prod.fst
      rw [List.map_append, List.mem_append]
      rintro (z | z)
      · exact hq z
      · simp at z; exact hpq z.symm)
  refine ⟨?_, ?_, fun m hm => ?_, fun fu f1 f2 g x0 e hx0 hg hk => ?_, fun fu r hr => ?_, fun fu ps' b' hb' => ?_, fun fu f1 f2 => ?_, fun kn g e hk x0 => ?_⟩
  · simp only [Core.sz, Cores.of, Cores.sz, szN]
    have := h1.szl; have := h2.szl; have := hb.szl; lia
  · simp only [dp, Cores.of, dps]
    have := h1.dpl; have := h2.dpl; have := hb.dpl; lia
  · have g1 := h1.bd m hm
    have g2 := h2.bd m hm
    refine Nat.le_trans (hb.bd (m + exN d) fun k hk => ?_) (pow_le (by show m + exN d + exN d ≤ m + (2 * exN d + 1); lia))
    simp only [List.mem_append, List.mem_singleton] at hk
    rcases hk with (hk | rfl) | rfl
    · exact Nat.le_trans (hm k hk) (pow_le (by lia))
    · exact g1
    · exact g2
  · have hd : fuN (d + 1) = 4 * fuN d + 2 := rfl
    obtain ⟨x1, e1, l1, l1'⟩ := h1.evs fu f1 f2 g x0 e (by lia) hg hk
    obtain ⟨x2, rfl⟩ : ∃ x2, x1 = x2 + 1 := ⟨x1 - 1, by lia⟩
    obtain ⟨g', rfl⟩ : ∃ g', g = g' + 1 := ⟨g - 1, by lia⟩
    obtain ⟨x3, e3, l3, l3'⟩ := h2.evs fu f1 f2 (g' + 1) x2 e (by lia) (by lia) hk
    obtain ⟨x4, rfl⟩ : ∃ x4, x3 = x4 + 1 := ⟨x3 - 1, by lia⟩
    obtain ⟨x5, e5, l5, l5'⟩ := hb.evs fu f1 f2 g' x4 _ (by lia) (by lia) (hk1 hk)
    refine ⟨x5, ?_, by lia, by lia⟩
    have w1 : entO (bdOf kn0 (g' + 1)) (x2 + 1) (.fn [p] (.fn [q] (ahC fu b)) e) [.num v1] = .val (.fn [q] (ahC fu b) (.cons (kz [p] [.num v1]) e)) x2 := by
      simp only [entO, burnO, List.length_singleton, if_true]
      show ev kn0 g' x2 _ _ = _
      rw [ev_eq]; simp only [evC]
    have w2 : entO (bdOf kn0 (g' + 1)) (x4 + 1) (.fn [q] (ahC fu b) (.cons (kz [p] [.num v1]) e)) [.num v2] = .val (.num v) x5 := by
      simp only [entO, burnO, List.length_singleton, if_true]
      show ev kn0 g' x4 _ _ = _
      rw [ev_eq]; exact e5
    simp only [ahC, Cores.of, ahCs, evC, evCs, e1, w1, e3, w2]
  · rcases pre_of hr with z | ⟨k, hk, hj⟩
    · simp [ahC] at z
    · have hk0 := hk
      simp only [ahC, ins, Cores.of, ahCs, Cores.list, List.mem_cons, List.not_mem_nil, or_false] at hk
      rcases hk with rfl | rfl
      · rcases pre_of hj with z | ⟨k2, hk2, hj2⟩
        · exact nomatch z
        · have hk20 := hk2
          simp only [ins, Cores.list, List.mem_cons, List.not_mem_nil, or_false] at hk2
          rcases hk2 with rfl | rfl
          · rcases pre_of hj2 with z | ⟨k3, hk3, hj3⟩
            · exact nomatch z
            · have hk30 := hk3
              simp only [ins, List.mem_singleton] at hk3
              subst hk3
              rcases pre_of hj3 with z | ⟨k4, hk4, hj4⟩
              · exact nomatch z
              · have hk40 := hk4
                simp only [ins, List.mem_singleton] at hk4
                subst hk4
                rcases hb.sn fu r hj4 with z | ⟨qs, b', q1, q2⟩
                · simp only [List.map_append, List.mem_append, List.map_cons, List.map_nil, List.mem_singleton] at z
                  rcases z with (z | z) | z
                  · exact .inl z
                  · exact .inr ⟨[p], _, pre_mem_ins hk0 (pre_mem_ins hk20 (pre_self _)), by simp [z]⟩
                  · exact .inr ⟨[q], _, pre_mem_ins hk0 (pre_mem_ins hk20 (pre_mem_ins hk30 (pre_self _))), by simp [z]⟩
                · exact .inr ⟨qs, b', pre_mem_ins hk0 (pre_mem_ins hk20 (pre_mem_ins hk30 (pre_mem_ins hk40 q1))), q2⟩
          · rcases h1.sn fu r hj2 with z | ⟨qs, b', q1, q2⟩
            · exact .inl z
            · exact .inr ⟨qs, b', pre_mem_ins hk0 (pre_mem_ins hk20 q1), q2⟩
      · rcases h2.sn fu r hj with z | ⟨qs, b', q1, q2⟩
        · exact .inl z
        · exact .inr ⟨qs, b', pre_mem_ins hk0 q1, q2⟩
  · have hf : Few (ahC fu (.call (.call (.fn [p] (.fn [q] b)) (Cores.of [a1])) (Cores.of [a2]))) := by
      simp only [ahC, Cores.of, ahCs]
      refine few_of (fun ps b e => nomatch e) fun k hk => ?_
      simp only [ins, Cores.list, List.mem_cons, List.not_mem_nil, or_false] at hk
      rcases hk with rfl | rfl
      · refine few_of (fun ps b e => nomatch e) fun k hk => ?_
        simp only [ins, Cores.list, List.mem_cons, List.not_mem_nil, or_false] at hk
        rcases hk with rfl | rfl
        · refine few_of (fun ps b e => by cases e; simp) fun k hk => ?_
          simp only [ins, List.mem_singleton] at hk
          subst hk
          refine few_of (fun ps b e => by cases e; simp) fun k hk => ?_
          simp only [ins, List.mem_singleton] at hk
          subst hk
          exact hb.ps fu
        · exact h1.ps fu
      · exact h2.ps fu
    exact hf ps' b' hb'
  · refine ok_of (fun b e => nomatch e) fun k hk => ?_
    simp only [ins, Cores.of, Cores.list, List.mem_cons, List.not_mem_nil, or_false] at hk
    rcases hk with rfl | rfl
    · refine ok_of (fun b e => nomatch e) fun k hk => ?_
      simp only [ins, Cores.list, List.mem_cons, List.not_mem_nil, or_false] at hk
      rcases hk with rfl | rfl
      · refine ok_of (fun b e => nomatch e) fun k hk => ?_
        simp only [ins, List.mem_singleton] at hk
        subst hk
        refine ok_of (fun b e => nomatch e) fun k hk => ?_
        simp only [ins, List.mem_singleton] at hk
        subst hk
        exact hb.ok fu f1 f2
      · exact h1.ok fu f1 f2
    · exact h2.ok fu f1 f2
  · simp only [Cores.of, evC, evCs]
    rcases h1.org kn g e hk x0 with e1 | ⟨x1, l1, e1⟩
    · exact .inl (by rw [e1])
    · rw [e1]
      cases x1 with
      | zero => exact .inl rfl
      | succ x1 =>
        cases g with
        | zero => exact .inl rfl
        | succ g =>
          have w1 : entO (bdOf kn (g + 1)) (x1 + 1) (.fn [p] (.fn [q] b) e) [.num v1] = .val (.fn [q] b (.cons (kz [p] [.num v1]) e)) x1 := by
            simp only [entO, burnO, List.length_singleton, if_true]
            show ev kn g x1 _ _ = _
            rw [ev_eq]; simp only [evC]
          simp only [w1]
          rcases h2.org kn (g + 1) e hk x1 with e2 | ⟨x2, l2, e2⟩
          · exact .inl (by rw [e2])
          · rw [e2]
            simp only
            rcases ent_org (kn := kn) (g := g + 1) (x := x2) (v := v) (vs := [.num v2]) (ps := [q]) (b := b) (e := .cons (kz [p] [.num v1]) e) rfl (fun g' x' => hb.org kn g' _ (hk1 hk) x') with e3 | ⟨x3, l3, e3⟩
            · exact .inl e3
            · exact .inr ⟨x3, by lia, e3⟩
end K69

set_option Elab.async false
set_option linter.all false
set_option maxRecDepth 100000
set_option maxHeartbeats 4000000
set_option exponentiation.threshold 3000
/-! k69: what ahead makes and what is due are alike; cores and what is due of them. Own work. -/
namespace K69
open PySem L2 Builtin.Str MC
theorem paired_mono {α β : Type} {R S : α → β → Prop} (f : ∀ x y, R x y → S x y) {xs : List α} {ys : List β} (h : Paired R xs ys) : Paired S xs ys := by
  induction h with
  | nil => exact .nil
  | cons h t ih => exact .cons (f _ _ h) ih
theorem alk_succ {K : PySem.W.Frag} {H : Hp} : ∀ (d : Nat) {x y : V}, Alk K H d x y → Alk K H (d + 1) x y
  | 0, x, y, h => .inl h
  | d + 1, x, y, h => by
    rcases h with h | ⟨a, c, xs, ys, e1, e2, hs, hp⟩
    · exact .inl h
    · exact .inr ⟨a, c, xs, ys, e1, e2, hs, paired_mono (fun _ _ r => alk_succ d r) hp⟩
theorem alk_mono {K : PySem.W.Frag} {H : Hp} {d d' : Nat} {x y : V} (h : Alk K H d x y) (hd : d ≤ d') : Alk K H d' x y := by
  obtain ⟨k, rfl⟩ := Nat.exists_eq_add_of_le hd
  clear hd
  induction k with
  | zero => exact h
  | succ k ih => exact alk_succ _ ih
theorem alk_ref {K : PySem.W.Frag} {H : Hp} (d : Nat) (a : Addr) : Alk K H d (.ref a) (.ref a) := alk_mono (d := 0) ⟨rfl, .inr ⟨a, rfl⟩⟩ (Nat.zero_le _)
theorem alk_flat {K : PySem.W.Frag} {H : Hp} (d : Nat) {x : V} (h : flatV x = true) : Alk K H d x x := alk_mono (d := 0) ⟨rfl, .inl h⟩ (Nat.zero_le _)
/-! ### nows that can be told; what goes on ahead comes to the same -/
def NowOk (b : Core) : Prop := ∃ d v, d ≤ 3 ∧ Sm d [] b v
mutual
def Nw : Core → Prop
  | .now b => NowOk b
  | .fn _ b => Nw b
  | .call f as => Nw f ∧ Nws as
  | .pick a b c => Nw a ∧ Nw b ∧ Nw c
  | .num _ => True
  | .free _ => True
  | .seen _ => True
def Nws : Cores → Prop
  | .nil => True
  | .cons c r => Nw c ∧ Nws r
end
theorem Nws.of : ∀ {cs : List Core}, (∀ c ∈ cs, Nw c) → Nws (Cores.of cs)
  | [], _ => trivial
  | c :: r, h => by
    exact ⟨h c List.mem_cons_self, Nws.of fun k hk => h k (List.mem_cons_of_mem _ hk)⟩
theorem now_ok {fu : Nat} {b : Core} (h : NowOk b) (h1 : 120 ≤ fu) (h2 : fu ≤ 1000) : OkA fu (.now b) := fun k hk => by
  obtain ⟨d, v, hd, hs⟩ := h
  rcases pre_of hk with e | ⟨j, hj, hk'⟩
  · cases e
    exact (hs.told hd h1 h2).1
  · simp only [ins, List.mem_singleton] at hj
    subst hj
    exact hs.ok fu h1 h2 k hk'
mutual
theorem nw_ok {fu : Nat} (h1 : 120 ≤ fu) (h2 : fu ≤ 1000) : ∀ (c : Core), Nw c → OkA fu c
  | .now b, h => by exact now_ok h h1 h2
  | .fn ps b, h => by
    refine ok_of (fun b e => nomatch e) fun k hk => ?_
    simp only [ins, List.mem_singleton] at hk
    rw [hk]; exact nw_ok h1 h2 b h
  | .call f as, h => by
    refine ok_of (fun b e => nomatch e) fun k hk => ?_
    simp only [ins, List.mem_cons] at hk
    rcases hk with hk | hk
    · rw [hk]; exact nw_ok h1 h2 f h.1
    · exact nws_ok h1 h2 as h.2 k hk
  | .pick a b c, h => by
    refine ok_of (fun b e => nomatch e) fun k hk => ?_
    simp only [ins, List.mem_cons, List.not_mem_nil, or_false] at hk
    rcases hk with hk | hk | hk
    · rw [hk]; exact nw_ok h1 h2 a h.1
    · rw [hk]; exact nw_ok h1 h2 b h.2.1
    · rw [hk]; exact nw_ok h1 h2 c h.2.2
  | .num _, h => fun b hb => by simp [pre] at hb
  | .free _, h => fun b hb => by simp [pre] at hb
  | .seen _, h => fun b hb => by simp [pre] at hb
theorem nws_ok {fu : Nat} (h1 : 120 ≤ fu) (h2 : fu ≤ 1000) : ∀ (as : Cores), Nws as → ∀ k ∈ as.list, OkA fu k
  | .nil, h, k, hk => by simp [Cores.list] at hk
  | .cons c r, h, k, hk => by
    simp only [Cores.list, List.mem_cons] at hk
    rcases hk with hk | hk
    · rw [hk]; exact nw_ok h1 h2 c h.1
    · exact nws_ok h1 h2 r h.2 k hk
end
mutual
/-- a value and what it is ahead -/
def VR (fu : Nat) : Val → Val → Prop
  | .num z, w => w = .num z
  | .op n, w => w = .op n
  | .fn ps b e, w => Nw b ∧ ∃ e', w = .fn ps (ahC fu b) e' ∧ FR fu e e'
def FR (fu : Nat) : Fr → Fr → Prop
  | .nil, f => f = .nil
  | .cons d e, f => ∃ d' e', f = .cons d' e' ∧ KR fu d d' ∧ FR fu e e'
def KR (fu : Nat) : Kvs → Kvs → Prop
  | .nil, k => k = .nil
  | .cons p v r, k => ∃ v' r', k = .cons p v' r' ∧ VR fu v v' ∧ KR fu r r'
end
def OR (fu : Nat) (a b : Option Val) : Prop := (a = none ∧ b = none) ∨ ∃ v v', a = some v ∧ b = some v' ∧ VR fu v v'
def KnRl (fu : Nat) (kn kn' : Kn) : Prop := ∀ p, OR fu (kn p) (kn' p)
theorem KR.get {fu : Nat} : ∀ {d d' : Kvs}, KR fu d d' → ∀ p, OR fu (d.get p) (d'.get p)
  | .nil, d', h, p => by subst h; exact .inl ⟨by simp [Kvs.get], by simp [Kvs.get]⟩
  | .cons q v r, d', h, p => by
    obtain ⟨v', r', rfl, h1, h2⟩ := h
    simp only [Kvs.get]
    rcases KR.get h2 p with ⟨e1, e2⟩ | ⟨w, w', e1, e2, hw⟩
    · rw [e1, e2]
      by_cases hq : q = p
      · simp only [if_pos hq]; exact .inr ⟨v, v', rfl, rfl, h1⟩
      · simp only [if_neg hq]; exact .inl ⟨rfl, rfl⟩
    · rw [e1, e2]; exact .inr ⟨w, w', rfl, rfl, hw⟩
theorem look_R {fu : Nat} {kn kn' : Kn} (hk : KnRl fu kn kn') : ∀ {e e' : Fr}, FR fu e e' → ∀ p, OR fu (look kn e p) (look kn' e' p)
  | .nil, e', h, p => by subst h; exact hk p
  | .cons d e, e', h, p => by
    obtain ⟨d', e2, rfl, h1, h2⟩ := h
    simp only [look]
    rcases KR.get h1 p with ⟨e1, e3⟩ | ⟨w, w', e1, e3, hw⟩
    · rw [e1, e3]; exact look_R hk h2 p
    · rw [e1, e3]; exact .inr ⟨w, w', rfl, rfl, hw⟩
theorem kz_R {fu : Nat} : ∀ {ps : List Int} {vs vs' : List Val}, Paired (VR fu) vs vs' → KR fu (kz ps vs) (kz ps vs')
  | [], vs, vs', h => rfl
  | p :: ps, _, _, .nil => rfl
  | p :: ps, _, _, .cons h t => by
    exact ⟨_, _, rfl, h, kz_R t⟩
def SO (fu : Nat) (o o' : Out) : Prop := match o with
  | .val v x => ∃ v' y, o' = .val v' y ∧ VR fu v v' ∧ x ≤ y
  | .stop s => s = "on" ∨ o' = .stop s
def SOL (fu : Nat) (o o' : OutL) : Prop := match o with
  | .vals vs x => ∃ vs' y, o' = .vals vs' y ∧ Paired (VR fu) vs vs' ∧ x ≤ y
  | .stop s => s = "on" ∨ o' = .stop s
theorem reck_R {fu : Nat} {n : Str} {vs vs' : List Val} (h : Paired (VR fu) vs vs') : reckO (.op n) vs = reckO (.op n) vs' := by
  cases h with
  | nil => rfl
  | cons h1 t1 => cases t1 with
    | nil => rename_i a b; cases a <;> cases b <;> rfl
    | cons h2 t2 => cases t2 with
      | nil =>
        rename_i a1 b1 a2 b2
        cases a1 with
        | num z1 =>
          subst h1
          cases a2 with
          | num z2 => subst h2; rfl
          | op n => subst h2; rfl
          | fn ps b e => obtain ⟨_, e', rfl, _⟩ := h2; rfl
        | op n => subst h1; rfl
        | fn ps b e => obtain ⟨_, e', rfl, _⟩ := h1; rfl
      | cons h3 t3 =>
        rename_i a1 b1 a2 b2 a3 b3 l3 m3
        have e1 : reckO (.op n) (a1 :: a2 :: a3 :: l3) = none := by
          cases a1 <;> cases a2 <;> rfl
        have e2 : reckO (.op n) (b1 :: b2 :: b3 :: m3) = none := by
          cases b1 <;> cases b2 <;> rfl
        rw [e1, e2]
section
variable {fu : Nat} {kn kn' : Kn} {bd bd' : Nat → Fr → Core → Out}
theorem ent_sim (hbd : ∀ x y e e' c, x ≤ y → FR fu e e' → Nw c → SO fu (bd x e c) (bd' y e' (ahC fu c))) {f f' : Val} (hf : VR fu f f') {vs vs' : List Val} (hv : Paired (VR fu) vs vs') {x y : Nat} (hxy : x ≤ y) : SO fu (entO bd x f vs) (entO bd' y f' vs') := by
  have hl := Paired.length hv
  cases f with
  | num z => subst hf; exact .inr rfl
  | op n =>
    subst hf
    simp only [entO]
    rw [← reck_R hv]
    cases reckO (.op n) vs with
    | none => exact .inr rfl
    | some z => exact ⟨_, _, rfl, rfl, hxy⟩
  | fn ps b e =>
    obtain ⟨hb, e', rfl, he⟩ := hf
    simp only [entO]
    by_cases hp : ps.length = vs.length
    · rw [if_pos hp, if_pos (by lia)]
      cases x with
      | zero => exact .inl rfl
      | succ x =>
        obtain ⟨y', rfl⟩ : ∃ y', y = y' + 1 := ⟨y - 1, by lia⟩
        simp only [burnO]
        exact hbd x y' _ _ b (by lia) (by exact ⟨_, _, rfl, kz_R hv, he⟩) hb
    · rw [if_neg hp, if_neg (by lia)]
      exact .inr rfl
mutual
theorem sim_c (h1 : 120 ≤ fu) (h2 : fu ≤ 1000) (hk : KnRl fu kn kn') {g : Nat} (hbd : ∀ x y e e' c, x ≤ y → FR fu e e' → Nw c → SO fu (bdOf kn g x e c) (bd' y e' (ahC fu c))) {e e' : Fr} (he : FR fu e e') : ∀ (c : Core), Nw c → ∀ {x y : Nat}, x ≤ y → SO fu (evC kn (bdOf kn g) e c x) (evC kn' bd' e' (ahC fu c) y)
  | .num z, hn, x, y, hxy => by simp only [ahC, evC]; exact ⟨_, _, rfl, rfl, hxy⟩
  | .free n, hn, x, y, hxy => by
    simp only [ahC, evC]
    by_cases hm : n ∈ OPS
    · rw [if_pos hm, if_pos hm]; exact ⟨_, _, rfl, rfl, hxy⟩
    · rw [if_neg hm, if_neg hm]; exact .inr rfl
  | .seen p, hn, x, y, hxy => by
    simp only [ahC, evC]
    rcases look_R hk he p with ⟨e1, e2⟩ | ⟨v, v', e1, e2, hv⟩
    · rw [e1, e2]; exact .inr rfl
    · rw [e1, e2]; exact ⟨_, _, rfl, hv, hxy⟩
  | .fn ps b, hn, x, y, hxy => by
    simp only [ahC, evC]
    exact ⟨_, _, rfl, by exact ⟨hn, _, rfl, he⟩, hxy⟩
  | .now b, hn, x, y, hxy => by
    obtain ⟨d, v, hd, hs⟩ := hn
    simp only [ahC, evC]
    rw [(hs.told hd h1 h2).2]
    rcases hs.org kn g e (fun k hk => nomatch hk) x with e1 | ⟨x', l, e1⟩
    · rw [e1]; exact .inl rfl
    · rw [e1]; exact ⟨_, _, rfl, rfl, by lia⟩
  | .pick a b c, hn, x, y, hxy => by
    simp only [ahC, evC]
    have ha := sim_c h1 h2 hk hbd he a hn.1 hxy
    cases ho : evC kn (bdOf kn g) e a x with
    | stop s =>
      rw [ho] at ha
      rcases ha with rfl | ha
      · exact .inl rfl
      · rw [ha]; exact .inr rfl
    | val v x1 =>
      rw [ho] at ha
      obtain ⟨v', y1, e1, hv, hl⟩ := ha
      rw [e1]
      cases v with
      | num z =>
        subst hv
        dsimp only
        by_cases hz : z = 0
        · rw [if_pos hz, if_pos hz]; exact sim_c h1 h2 hk hbd he c hn.2.2 hl
        · rw [if_neg hz, if_neg hz]; exact sim_c h1 h2 hk hbd he b hn.2.1 hl
      | op n => subst hv; exact .inr rfl
      | fn ps b' e2 => obtain ⟨_, e3, rfl, _⟩ := hv; exact .inr rfl
  | .call f as, hn, x, y, hxy => by
    simp only [ahC, evC]
    have ha := sim_c h1 h2 hk hbd he f hn.1 hxy
    cases ho : evC kn (bdOf kn g) e f x with
    | stop s =>
      rw [ho] at ha
      rcases ha with rfl | ha
      · exact .inl rfl
      · rw [ha]; exact .inr rfl
    | val v x1 =>
      rw [ho] at ha
      obtain ⟨v', y1, e1, hv, hl⟩ := ha
      rw [e1]
      dsimp only
      have hb := sim_cs h1 h2 hk hbd he as hn.2 hl
      cases hos : evCs kn (bdOf kn g) e as x1 with
      | stop s =>
        rw [hos] at hb
        rcases hb with rfl | hb
        · exact .inl rfl
        · rw [hb]; exact .inr rfl
      | vals vs x2 =>
        rw [hos] at hb
        obtain ⟨vs', y2, e2, hvs, hl2⟩ := hb
        rw [e2]
        exact ent_sim hbd hv hvs hl2
theorem sim_cs (h1 : 120 ≤ fu) (h2 : fu ≤ 1000) (hk : KnRl fu kn kn') {g : Nat} (hbd : ∀ x y e e' c, x ≤ y → FR fu e e' → Nw c → SO fu (bdOf kn g x e c) (bd' y e' (ahC fu c))) {e e' : Fr} (he : FR fu e e') : ∀ (as : Cores), Nws as → ∀ {x y : Nat}, x ≤ y → SOL fu (evCs kn (bdOf kn g) e as x) (evCs kn' bd' e' (ahCs fu as) y)
  | .nil, hn, x, y, hxy => by simp only [ahCs, evCs]; exact ⟨_, _, rfl, .nil, hxy⟩
  | .cons c r, hn, x, y, hxy => by
    simp only [ahCs, evCs]
    have ha := sim_c h1 h2 hk hbd he c hn.1 hxy
    cases ho : evC kn (bdOf kn g) e c x with
    | stop s =>
      rw [ho] at ha
      rcases ha with rfl | ha
      · exact .inl rfl
      · rw [ha]; exact .inr rfl
    | val v x1 =>
      rw [ho] at ha
      obtain ⟨v', y1, e1, hv, hl⟩ := ha
      rw [e1]
      dsimp only
      have hb := sim_cs h1 h2 hk hbd he r hn.2 hl
      cases hos : evCs kn (bdOf kn g) e r x1 with
      | stop s =>
        rw [hos] at hb
        rcases hb with rfl | hb
        · exact .inl rfl
        · rw [hb]; exact .inr rfl
      | vals vs x2 =>
        rw [hos] at hb
        obtain ⟨vs', y2, e2, hvs, hl2⟩ := hb
        rw [e2]
        exact ⟨_, _, rfl, .cons hv hvs, hl2⟩
end
end
theorem sim_g {fu : Nat} {kn kn' : Kn} (h1 : 120 ≤ fu) (h2 : fu ≤ 1000) (hk : KnRl fu kn kn') : ∀ g x y e e' c, x ≤ y → FR fu e e' → Nw c → SO fu (bdOf kn g x e c) (bdOf kn' g y e' (ahC fu c))
  | 0, x, y, e, e', c, hxy, he, hn => .inl rfl
  | g + 1, x, y, e, e', c, hxy, he, hn => by
    show SO fu (ev kn g x e c) (ev kn' g y e' (ahC fu c))
    rw [ev_eq, ev_eq]
    exact sim_c h1 h2 hk (sim_g h1 h2 hk g) he c hn hxy
theorem row_R {fu : Nat} {v v' : Val} (h : VR fu v v') : rowVs (.val v 0) = rowVs (.val v' 0) := by
  cases v with
  | num z => subst h; rfl
  | op n => subst h; rfl
  | fn ps b e => obtain ⟨_, e', rfl, _⟩ := h; rfl
/-- the runs' rows -/
theorem sim_run {fu g : Nat} (h1 : 120 ≤ fu) (h2 : fu ≤ 1000) : ∀ (its : List Item) (kn kn' : Kn) (x y : Nat), KnRl fu kn kn' → x ≤ y → (∀ it ∈ its, Nw it.2) → (∃ p, evI g kn x its = p ++ [.stop "on"]) ∨ (evI g kn x its).map rowVs = (evI g kn' y (its.map fun it => (it.1, ahC fu it.2))).map rowVs
  | [], kn, kn', x, y, hk, hxy, hn => .inr rfl
  | (d, c) :: r, kn, kn', x, y, hk, hxy, hn => by
    have hs : SO fu (ev kn g x .nil c) (ev kn' g y .nil (ahC fu c)) := by
      rw [ev_eq, ev_eq]
      exact sim_c h1 h2 hk (sim_g h1 h2 hk g) (show FR fu .nil .nil from rfl) c (hn _ List.mem_cons_self) hxy
    have hr : ∀ it ∈ r, Nw it.2 := fun it hit => hn it (List.mem_cons_of_mem _ hit)
    simp only [evI, List.map_cons]
    cases ho : ev kn g x .nil c with
    | stop s =>
      rw [ho] at hs
      rcases hs with rfl | hs
      · exact .inl ⟨[], rfl⟩
      · rw [hs]; exact .inr rfl
    | val v x1 =>
      rw [ho] at hs
      obtain ⟨v', y1, e1, hv, hl⟩ := hs
      rw [e1]
      cases d with
      | some p =>
        dsimp only
        refine sim_run h1 h2 r (put kn p v) (put kn' p v') x1 y1 (fun q => ?_) hl hr
        unfold put
        by_cases hq : q = p
        · rw [if_pos hq, if_pos hq]; exact .inr ⟨v, v', rfl, rfl, hv⟩
        · rw [if_neg hq, if_neg hq]; exact hk q
      | none =>
        dsimp only
        rcases sim_run h1 h2 r kn kn' x1 y1 hk hl hr with ⟨p, e2⟩ | e2
        · exact .inl ⟨.val v 0 :: p, by rw [e2]; rfl⟩
        · exact .inr (by rw [List.map_cons, List.map_cons, e2, row_R hv])
theorem rows_alk2 {K : PySem.W.Frag} {H : Hp} : ∀ {os os' : List Out} {rs ds : List V}, os.map rowVs = os'.map rowVs → Al (RowIn H) os rs → Al (RowIn H) os' ds → Paired (Alk K H 1) rs ds
  | [], os', rs, ds, he, h1, h2 => by
    have e0 : os' = [] := List.map_eq_nil_iff.mp he.symm
    subst e0
    have e1 := h1.nil_of
    have e2 := h2.nil_of
    subst e1 e2
    exact .nil
  | o :: os, [], rs, ds, he, h1, h2 => by simp at he
  | o :: os, o' :: os', rs, ds, he, h1, h2 => by
    rw [List.map_cons, List.map_cons] at he
    injection he with he1 he2
    obtain ⟨v1, r1, rfl, ⟨t1, rfl, g1⟩, k1⟩ := h1.uncons
    obtain ⟨v2, r2, rfl, ⟨t2, rfl, g2⟩, k2⟩ := h2.uncons
    rw [← he1] at g2
    exact .cons (.inr ⟨t1, t2, _, _, rfl, rfl, .inl ⟨SqT.of g1, SqT.of g2⟩, self0 (row_flat o)⟩) (rows_alk2 he2 k1 k2)
end K69

set_option Elab.async false
set_option linter.all false
set_option maxRecDepth 100000
set_option maxHeartbeats 4000000
set_option exponentiation.threshold 3000
/-! k69: the law's draws, new places, leaves. Own work. -/
namespace K69
open PySem L2 Builtin.Str MC
abbrev sCell : Stmt := top 20
abbrev sDraws : Stmt := top 21
abbrev sNext : Stmt := top 22
abbrev sLeaf : Stmt := top 23
abbrev sNew : Stmt := top 24
abbrev sMany : Stmt := top 25
abbrev sFn : Stmt := top 26
abbrev sCalled : Stmt := top 27
abbrev sOdd : Stmt := top 28
abbrev sSum : Stmt := top 29
abbrev sItems : Stmt := top 30
abbrev sLaw : Stmt := top 32
def Kp1 (H H' : Hp) (a : Addr) : Prop := ∀ e o, e ≠ a → H e = some o → H' e = some o
/-- all stays but at these two -/
def Kp2 (H H' : Hp) (a b : Addr) : Prop := ∀ e o, e ≠ a → e ≠ b → H e = some o → H' e = some o
theorem Kp2.of {H H' : Hp} {a b : Addr} (s : Same H H') : Kp2 H H' a b := fun e o _ _ q => s _ _ q
theorem Kp2.trans {H H' H'' : Hp} {a b : Addr} (h : Kp2 H H' a b) (g : Kp2 H' H'' a b) : Kp2 H H'' a b := fun e o n1 n2 q => g e o n1 n2 (h e o n1 n2 q)
/-- what the makers work with: the draws, the count -/
structure Mk (H : Hp) (Dr Cn : Addr) (m : Nat) (z : Int) : Prop where
  dr : ∃ ms : List Int, H Dr = some (.lst (ms.map V.int)) ∧ ms.length = m
  cn : H Cn = some (.lst [.int z])
  n1 : Dr ≠ Cn
theorem Mk.tups {H H' : Hp} {Dr Cn : Addr} {m : Nat} {z : Int} (h : Mk H Dr Cn m z) (k : Kp2 H H' Dr Cn) : Tup H H' := fun e xs q => by
  obtain ⟨ms, h1, _⟩ := h.dr
  exact k e _ (kind_ne q h1 (fun z => nomatch z)) (kind_ne q h.cn (fun z => nomatch z)) q
theorem Mk.same {H H' : Hp} {Dr Cn : Addr} {m : Nat} {z : Int} (h : Mk H Dr Cn m z) (s : Same H H') : Mk H' Dr Cn m z := by
  obtain ⟨ms, h1, e1⟩ := h.dr
  exact ⟨⟨ms, s _ _ h1, e1⟩, s _ _ h.cn, h.n1⟩
theorem Mk.next {H H' : Hp} {Dr Cn : Addr} {m m' : Nat} {z : Int} (h : Mk H Dr Cn m z) (k : Kp1 H H' Dr) {ms : List Int} (hd : H' Dr = some (.lst (ms.map V.int))) (e : ms.length = m') : Mk H' Dr Cn m' z :=
  ⟨⟨ms, hd, e⟩, k _ _ (Ne.symm h.n1) h.cn, h.n1⟩
theorem Mk.newc {H H' : Hp} {Dr Cn : Addr} {m : Nat} {z z' : Int} (h : Mk H Dr Cn m z) (k : Kp1 H H' Cn) (hc : H' Cn = some (.lst [.int z'])) : Mk H' Dr Cn m z' := by
  obtain ⟨ms, h1, e1⟩ := h.dr
  exact ⟨⟨ms, k _ _ h.n1 h1, e1⟩, hc, h.n1⟩
theorem Mk.old {H : Hp} {Dr Cn : Addr} {m : Nat} {z : Int} (h : Mk H Dr Cn m z) {X : Addr} (hX : H X = none) : X ≠ Dr ∧ X ≠ Cn := by
  obtain ⟨ms, h1, _⟩ := h.dr
  exact ⟨Ne.symm (ne_of_none h1 hX), Ne.symm (ne_of_none h.cn hX)⟩
/-- a list that is not theirs changes -/
theorem Mk.keep {H H' : Hp} {Dr Cn X : Addr} {m : Nat} {z : Int} (h : Mk H Dr Cn m z) (n1 : X ≠ Dr) (n2 : X ≠ Cn) (k : Kp1 H H' X) : Mk H' Dr Cn m z := by
  obtain ⟨ms, h1, e1⟩ := h.dr
  exact ⟨⟨ms, k _ _ (Ne.symm n1) h1, e1⟩, k _ _ (Ne.symm n2) h.cn, h.n1⟩
theorem at_mod {α : Type} {xs : List α} (z : Int) {n : Nat} (hn : xs.length = n) (h : 0 < n) : ∃ c, atI xs (z % (n : Int)) = some c ∧ c ∈ xs := by
  have g0 := Int.emod_nonneg z (show (n : Int) ≠ 0 by lia)
  have g1 := Int.emod_lt_of_pos z (show (0 : Int) < n by lia)
  have hk : (z % (n : Int)).toNat < xs.length := by lia
  refine ⟨xs[(z % (n : Int)).toNat], ?_, List.getElem_mem hk⟩
  have e : ((z % (n : Int)).toNat : Int) = z % (n : Int) := by lia
  have := atI_nat (List.getElem?_eq_getElem hk)
  rw [e] at this
  exact this
theorem ops_at (z : Int) : ∃ n : Str, atI [V.str "add", V.str "sub", V.str "less"] (z % 3) = some (.str n) ∧ n ∈ OPS := by
  obtain ⟨c, ec, hc⟩ := at_mod (xs := OPS.map V.str) z (n := 3) rfl (by decide)
  obtain ⟨n, hn, rfl⟩ := List.mem_map.mp hc
  exact ⟨n, ec, hn⟩
theorem five_at (z : Int) : ∃ n : Str, atI [V.str "add", V.str "sub", V.str "less", V.str "adds", V.str "x"] (z % 5) = some (.str n) := by
  obtain ⟨c, ec, hc⟩ := at_mod (xs := (["add", "sub", "less", "adds", "x"] : List Str).map V.str) z (n := 5) rfl (by decide)
  obtain ⟨n, hn, rfl⟩ := List.mem_map.mp hc
  exact ⟨n, ec⟩
/-- new places -/
def newP (c : Int) (m : Nat) : List Int := (List.range m).map fun (j : Nat) => c + (0 + (j : Int))
theorem newP_len (c : Int) (m : Nat) : (newP c m).length = m := by unfold newP; simp
theorem newP_mem {c p : Int} {m : Nat} (h : p ∈ newP c m) : c ≤ p ∧ p < c + m := by
  unfold newP at h
  obtain ⟨j, hj, rfl⟩ := List.mem_map.mp h
  rw [List.mem_range] at hj
  lia
theorem newP_succ (c : Int) (k : Nat) : newP c (k + 1) = newP c k ++ [c + (0 + (k : Int))] := by unfold newP; rw [List.range_succ, List.map_append]; rfl
theorem newP_nodup (c : Int) (m : Nat) : (newP c m).Nodup := by
  unfold newP
  induction m with
  | zero => simp
  | succ k ih =>
    rw [List.range_succ, List.map_append, List.nodup_append]
    refine ⟨ih, by simp, fun a ha b hb => ?_⟩
    obtain ⟨j, hj, rfl⟩ := List.mem_map.mp ha
    rw [List.mem_range] at hj
    simp at hb
    lia
def spCell (K : PySem.W.Frag) : Sp := fun vs H Q _ => ∃ (a : Addr) (k : Int) (ns : List Int), vs = [.ref a, .int k] ∧ 0 ≤ k ∧ SqL K H a (ns.map V.int) ∧ ns.length ≤ 63 ∧ Q (.int (cellV ns k)) H
def spDraws (K : PySem.W.Frag) : Sp := fun vs H Q _ => ∃ (a : Addr) (ns : List Int) (B : Int), vs = [.ref a, .int 2, .int 59, .int B] ∧ SqL K H a (ns.map V.int) ∧ ns.length ≤ 63 ∧ 0 < B ∧ B.natAbs.log2 < 9000 ∧ ∀ (H' : Hp) (D : Addr) (ds : List Int), Same H H' → H' D = some (.lst (ds.map V.int)) → ds.length ≤ 63 → Q (.ref D) H'
def spNext : Sp := fun vs H Q _ => ∃ (dr : Addr) (ds : List Int), vs = [.ref dr] ∧ H dr = some (.lst (ds.map V.int)) ∧ ∀ (H' : Hp) (z : Int) (ds' : List Int), H' dr = some (.lst (ds'.map V.int)) → ds'.length = ds.length - 1 → Kp1 H H' dr → Q (.int z) H'
def spNew : Sp := fun vs H Q _ => ∃ (cn : Addr) (m : Nat) (c : Int), vs = [.ref cn, .int (m : Int)] ∧ H cn = some (.lst [.int c]) ∧ m ≤ 1000 ∧ ∀ (H' : Hp) (D : Addr), H' D = some (.lst ((newP c m).map V.int)) → H' cn = some (.lst [.int (c + (m : Int))]) → Kp1 H H' cn → H D = none → Q (.ref D) H'
/-- a number, or a place that is known -/
def LfOk (ks : List Int) (c : Core) : Prop := (∃ z : Int, c = .num z ∧ z.natAbs ≤ B18) ∨ ∃ p, p ∈ ks ∧ c = .seen p
def spLeaf : Sp := fun vs H Q _ => ∃ (c : Int) (kl : Addr) (ks : List Int), vs = [.int c, .ref kl] ∧ H kl = some (.lst (ks.map V.int)) ∧ ks.length ≤ 100000 ∧ ∀ (H' : Hp) (k : Core) (v : V), Same H H' → CoreIn H' k v → LfOk ks k → Q v H'
section
variable {P : Program} {w : World} {K : PySem.W.Frag} {mg : Str → Option Value} {base : Heap} {C op : Addr}
theorem scCell : FnScope ["_law_script", "_law_k"] ["_law_script", "_law_k"] (defScope sCell) := ⟨rfl, rfl, rfl, by decide +kernel, rfl, by decide +kernel, by decide +kernel⟩
theorem ok_cell {f : Addr} {fd : FuncData} (F : Fun K "_law_cell_at" "_law_cell_at" sCell f fd) (T : MT K mg C op) : FnOk P w K mg base CX0 1 f fd ["_law_script", "_law_k"] (spCell K) := by
  refine F.ok scCell (fun vs H Q E h => ?_) (fun cdv A outer s H vs Q E hr h => ?_)
  · obtain ⟨a, k, ns, rfl, _⟩ := h; rfl
  · obtain ⟨a, k, ns, rfl, hk, hS, hl, q⟩ := h
    refine ⟨_, pss_cons (ps_if (pt_cmpR op_ltW (pw 1) (pe_callB call_len_seq (by rfl) T.len bt_len (pa_cons (pw 0) pa_nil)) (nomark _))
      (pss_one (ps_ret (pe_ix ix_list (pw 0) (pw 1) (fun _ _ => rfl))))
      pss_nil)
      (pss_one (ps_ret pe_int)), ?_⟩
    refine ⟨a, _, rfl, .inl hS, _, rfl, ite2 (fun hlt => ?_) (fun hlt => ?_)⟩
    · rw [decide_eq_true_eq, List.length_map] at hlt
      exact ⟨a, _, _, _, rfl, rfl, hS, cellV_at hk hlt, q⟩
    · rw [decide_eq_true_eq, List.length_map] at hlt
      rw [cellV_out hlt] at q
      exact q
theorem scNext : FnScope ["_law_draws_here"] ["_law_draws_here"] (defScope sNext) := ⟨rfl, rfl, rfl, by decide +kernel, rfl, by decide +kernel, by decide +kernel⟩
theorem ok_next {f : Addr} {fd : FuncData} (F : Fun K "_law_next" "_law_next" sNext f fd) (T : MT K mg C op) : FnOk P w K mg base CX0 1 f fd ["_law_draws_here"] spNext := by
  refine F.ok scNext (fun vs H Q E h => ?_) (fun cdv A outer s H vs Q E hr h => ?_)
  · obtain ⟨dr, ds, rfl, _⟩ := h; rfl
  · obtain ⟨dr, ds, rfl, hdr, q⟩ := h
    refine ⟨_, pss_cons (ps_if (pt_cmpR op_gtW (pe_callB call_len_seq (by rfl) T.len bt_len (pa_cons (pw 0) pa_nil)) pe_int (nomark _))
      (pss_one (ps_ret (pe_bm0 PySem.F.plainAttrs_list PySem.F.slot_list_pop PySem.F.type_list_pop mt_pop (pw 0))))
      pss_nil)
      (pss_one (ps_ret pe_int)), ?_⟩
    refine ⟨dr, _, rfl, .inl (SqL.of hdr), _, rfl, ite2 (fun c1 => ?_) (fun c1 => ?_)⟩
    · have hpos : 0 < ds.length := by have := of_decide_eq_true c1; rw [List.length_map] at this; lia
      have hne : ds ≠ [] := fun e => by rw [e] at hpos; exact absurd hpos (by decide)
      obtain ⟨ds', z, rfl⟩ : ∃ ds' z, ds = ds' ++ [z] := ⟨_, _, (List.dropLast_concat_getLast hne).symm⟩
      rw [List.map_append] at hdr
      refine ⟨.inl ⟨rfl, _, SqL.of hdr⟩, dr, _, .int z, rfl, rfl, hdr, last_at _ _, ?_⟩
      rw [List.map_cons, List.map_nil, List.dropLast_concat]
      exact q _ z ds' upd_same (by rw [List.length_append]; rfl) (fun a o n e => by rw [upd_ne n]; exact e)
    · have hz : ds.length = 0 := by
        have : ¬ (0 : Int) < (((ds.map V.int).length : Nat) : Int) := fun z => c1 (decide_eq_true z)
        rw [List.length_map] at this
        lia
      exact q H 0 ds hdr (by lia) (fun _ _ _ e => e)
theorem scDraws : FnScope ["_law_script", "_law_at", "_law_many_here", "_law_base", "_law_way", "_law_cell", "_law_draws_here", "_law_k", "_law_state"] ["_law_script", "_law_at", "_law_many_here", "_law_base"] (defScope sDraws) := ⟨rfl, rfl, rfl, by decide +kernel, rfl, by decide +kernel, by decide +kernel⟩
theorem ok_draws {f fC : Addr} {fd fdC : FuncData} (F : Fun K "_law_draws" "_law_draws" sDraws f fd) (T : MT K mg C op)
    (FC : Fun K "_law_cell_at" "_law_cell_at" sCell fC fdC) (bC : Binds K fdC ["_law_script", "_law_k"] []) (mC : mg "_law_cell_at" = some (.ref fC)) : FnOk P w K mg base CX0 2 f fd ["_law_script", "_law_at", "_law_many_here", "_law_base"] (spDraws K) := by
  have GC : FnOk P w K mg base CX0 1 fC fdC ["_law_script", "_law_k"] (spCell K) := ok_cell FC T
  refine F.ok scDraws (fun vs H Q E h => ?_) (fun cdv A outer s H vs Q E hr h => ?_)
  · obtain ⟨a, ns, B, rfl, _⟩ := h; rfl
  · obtain ⟨a, ns, B, rfl, hS, hl, hB0, hBl, q⟩ := h
    have nd := scDraws.nd
    refine ⟨_, pss_cons (ps_set (i := 4) nd rfl (Or.inl rfl) (pe_op op_modW (pe_op op_modW (pe_op op_addW (pe_op op_mulW (pe_call GC hr (by rfl) mC FC.kp bC .nil pass0 (pa_cons (pw 0) (pa_cons pe_int pa_nil))) pe_int) pe_int) pe_int) pe_int))
      (pss_cons (ps_if (pt_cmpR op_eq (pw 4) pe_int (nomark _))
      (pss_one (ps_ret (pe_slice sl_list (pw 0) (po_some (pw 1)) (po_some (pe_op op_addW (pw 1) (pw 2))))))
      pss_nil)
      (pss_cons (ps_set (i := 5) nd rfl (Or.inl rfl) (pe_call GC hr (by rfl) mC FC.kp bC .nil pass0 (pa_cons (pw 0) (pa_cons (pw 1) pa_nil))))
      (pss_cons (ps_set (i := 6) nd rfl (Or.inl rfl) (pe_lst pa_nil))
      (pss_cons (ps_if (pt_cmpR op_eq (pw 4) pe_int (nomark _))
      (pss_cons (ps_for PassesOwn.never rfl (pi_range1 rfl T.range (pa_cons (pw 2) pa_nil)) (pg_name (i := 7) nd rfl (Or.inl rfl))
        (pss_cons (ps_expr (pe_bm PySem.F.plainAttrs_list PySem.F.slot_list_append PySem.F.type_list_append mt_appW (pw 6) (pa_cons (pe_op op_modW (pw 5) (pw 3)) pa_nil)))
          (pss_one (ps_set (i := 5) nd rfl (Or.inl rfl) (pe_op op_fdivL (pw 5) (pw 3))))))
        (pss_one (ps_ret (pw 6))))
      pss_nil)
      (pss_cons (ps_set (i := 8) nd rfl (Or.inl rfl) (pe_op op_modW (pw 5) pe_int))
      (pss_cons (ps_for PassesOwn.never rfl (pi_range1 rfl T.range (pa_cons (pe_op op_addW pe_int (pe_op op_modW (pw 5) (pw 2))) pa_nil)) (pg_name (i := 7) nd rfl (Or.inl rfl))
      (pss_cons (ps_set (i := 8) nd rfl (Or.inl rfl) (pe_op op_modW (pe_op op_addW (pe_op op_addW (pe_op op_mulW (pw 8) pe_int) pe_int) (pw 7)) pe_int))
        (pss_one (ps_expr (pe_bm PySem.F.plainAttrs_list PySem.F.slot_list_append PySem.F.type_list_append mt_appW (pw 6) (pa_cons (pe_op op_mulW (pe_op op_modW (pe_op op_mulW (pe_op op_fdivW (pw 8) pe_int) pe_int) pe_int) (pe_op op_addW pe_int (pe_op op_modW (pw 8) pe_int))) pa_nil))))))
      (pss_one (ps_ret (pw 6))))))))), ?_⟩
    refine ⟨a, 1, ns, rfl, by lia, hS, hl, .inr ⟨by decide, by decide⟩, (by show (0 : Int) < _; decide), (by show (0 : Int) < _; decide), ?_⟩
    refine ⟨rfl, _, rfl, ite2 (fun _ => ?_) (fun _ => ?_)⟩
    · obtain ⟨ms, ec, hms⟩ := cut_ints ns (some 2) (some (2 + 59))
      refine ⟨_, rfl, _, rfl, a, _, rfl, hS, fun p hp => ?_⟩
      exact q _ p ms (same_upd hp) (by rw [← ec]; exact upd_same) (by lia)
    refine ⟨a, 2, ns, rfl, by lia, hS, hl, ?_⟩
    generalize cellV ns 2 = z1
    refine ⟨Nat.zero_le _, fun L hL => ?_⟩
    have s1 := same_upd (o := .lst []) hL
    refine ⟨rfl, _, rfl, ite2 (fun _ => ?_) (fun _ => ?_)⟩
    · refine ⟨_, rfl, by decide, by decide, ?_⟩
      refine for_range (lo := 0) (n := 59) (fun i σ H' => ∃ (w4 : Option V) (zc : Int) (v7 : Option V) (ds : List Int), σ = [some (.ref a), some (.int 2), some (.int 59), some (.int B), w4, some (.int zc), some (.ref L), v7, none] ∧ Same H H' ∧ H' L = some (.lst (ds.map V.int)) ∧ ds.length = i)
        ⟨_, _, _, [], rfl, s1, upd_same, rfl⟩ ?_ ?_
      · rintro i σ H' hi ⟨w4, zc, v7, ds, rfl, sH, hLd, hdl⟩
        refine ⟨.inl ⟨rfl, _, SqL.of hLd⟩, hB0, _, hLd, by rw [List.length_map, hdl, sizeLine_eq]; lia, ?_⟩
        refine ⟨_, _, rfl, rfl, ⟨hB0, hBl⟩, ?_⟩
        refine ⟨_, _, _, ds ++ [zc % B], rfl, fun e o qe => ?_, ?_, by rw [List.length_append, hdl]; rfl⟩
        · rw [upd_ne (ne_of_none qe hL)]; exact sH _ _ qe
        · rw [upd_same, List.map_append]; rfl
      · rintro σ H' ⟨w4, zc, v7, ds, rfl, sH, hLd, hdl⟩
        exact (q H' L ds sH hLd (by lia))
    · refine ⟨(by show (0 : Int) < _; decide), ?_⟩
      have m0 := Int.emod_nonneg z1 (show (59 : Int) ≠ 0 by decide)
      have m1 := Int.emod_lt_of_pos z1 (show (0 : Int) < 59 by decide)
      refine ⟨(by show (0 : Int) < _; decide), _, rfl, by lia, by lia, ?_⟩
      refine for_range (lo := 0) (n := (1 + z1 % 59).toNat) (fun i σ H' => ∃ (w4 w5 : Option V) (v7 : Option V) (st : Int) (ds : List Int), σ = [some (.ref a), some (.int 2), some (.int 59), some (.int B), w4, w5, some (.ref L), v7, some (.int st)] ∧ Same H H' ∧ H' L = some (.lst (ds.map V.int)) ∧ ds.length = i)
        ⟨_, _, _, _, [], rfl, s1, upd_same, rfl⟩ ?_ ?_
      · rintro i σ H' hi ⟨w4, w5, v7, st, ds, rfl, sH, hLd, hdl⟩
        refine ⟨.inr ⟨by decide, by decide⟩, (by show (0 : Int) < _; decide), ?_⟩
        refine ⟨.inl ⟨rfl, _, SqL.of hLd⟩, ⟨by decide, by decide⟩, .inr ⟨by decide, by decide⟩, (by show (0 : Int) < _; decide), (by show (0 : Int) < _; decide), .inr ⟨?_, ?_⟩, _, hLd, by rw [List.length_map, hdl, sizeLine_eq]; lia, ?_⟩
        · show (-(2 ^ 64) : Int) < 1 + (st * 48271 + 11 + (0 + (i : Int))) % 2147483647 % 997; lia
        · show 1 + (st * 48271 + 11 + (0 + (i : Int))) % 2147483647 % 997 < (2 ^ 64 : Int); lia
        · refine ⟨_, _, _, _, ds ++ [((st * 48271 + 11 + (0 + (i : Int))) % 2147483647) / 64 * 69621 % 1000003 * (1 + ((st * 48271 + 11 + (0 + (i : Int))) % 2147483647) % 997)], rfl, fun e o qe => ?_, ?_, by rw [List.length_append, hdl]; rfl⟩
          · rw [upd_ne (ne_of_none qe hL)]; exact sH _ _ qe
          · rw [upd_same, List.map_append]; rfl
      · rintro σ H' ⟨w4, w5, v7, st, ds, rfl, sH, hLd, hdl⟩
        exact (q H' L ds sH hLd (by lia))
theorem scNew : FnScope ["_law_count", "_law_many_here", "_law_first"] ["_law_count", "_law_many_here"] (defScope sNew) := ⟨rfl, rfl, rfl, by decide +kernel, rfl, by decide +kernel, by decide +kernel⟩
theorem lcNew1 : LcS (defScope sNew).names [(".0", .local), ("_law_j", .local), ("_law_first", .free)] ["_law_count", "_law_many_here", "_law_first"] [false, false, true] := ⟨by decide +kernel, by decide +kernel, by decide +kernel, by decide +kernel, by decide +kernel, rfl⟩
theorem ndNew1 : (["_law_count", "_law_many_here", "_law_first", "_law_j"] : List Str).Nodup := by decide +kernel
theorem ok_new {f : Addr} {fd : FuncData} (F : Fun K "_law_new" "_law_new" sNew f fd) (T : MT K mg C op) : FnOk P w K mg base CX0 1 f fd ["_law_count", "_law_many_here"] spNew := by
  refine F.ok scNew (fun vs H Q E h => ?_) (fun cdv A outer s H vs Q E hr h => ?_)
  · obtain ⟨cn, m, c, rfl, _⟩ := h; rfl
  · obtain ⟨cn, m, c, rfl, hcn, hm, q⟩ := h
    have nd := scNew.nd
    refine ⟨_, pss_cons (ps_set (i := 2) nd rfl (Or.inr rfl) (pe_ix ix_list (pw 0) pe_int (fun _ _ => rfl)))
      (pss_cons (ps_asg (pe_op op_addW (pw 2) (pw 1)) (pg_sub (pw 0) pe_int set_list))
      (pss_one (ps_ret (pe_lc (ext := ["_law_j"]) lcNew1 rfl (pi_range1 rfl T.range (pa_cons (pw 1) pa_nil))
          ⟨fun _ _ _ _ _ => (pg_name (i := 3) ndNew1 rfl (Or.inl rfl) (.inr rfl)), fun _ _ _ _ _ => pts_nil, fun _ _ _ _ _ => (pe_op op_addW (pw 2) (pw 3))⟩)))), ?_⟩
    refine ⟨cn, _, _, _, rfl, rfl, SqL.of hcn, rfl, ?_⟩
    refine ⟨cn, _, _, 0, rfl, rfl, hcn, rfl, ?_⟩
    have h1 : upd H cn (.lst ([V.int c].set 0 (.int (c + (m : Int))))) cn = some (.lst [.int (c + (m : Int))]) := upd_same
    have k1 : Kp1 H (upd H cn (.lst ([V.int c].set 0 (.int (c + (m : Int)))))) cn := fun a o n e => by rw [upd_ne n]; exact e
    have f1 : ∀ D, upd H cn (.lst ([V.int c].set 0 (.int (c + (m : Int))))) D = none → H D = none ∧ D ≠ cn := fun D hD => by
      have n : D ≠ cn := fun e => by rw [e, h1] at hD; cases hD
      rw [upd_ne n] at hD
      exact ⟨hD, n⟩
    generalize upd H cn (.lst ([V.int c].set 0 (.int (c + (m : Int))))) = H1 at h1 k1 f1 ⊢
    refine ⟨_, rfl, by lia, by lia, fun D hD => ?_⟩
    refine lc_rng (lo := 0) (n := ((m : Nat) : Int).toNat) (fun k ys σ' H' => (∃ v, σ' = [none, none, some (.int c), v]) ∧ Same H1 H' ∧ H' D = some (.lst ys) ∧ ys = (newP c k).map V.int)
      ⟨⟨_, rfl⟩, same_upd hD, upd_same, rfl⟩ ?_ ?_
    · rintro k ys σ' H' hk ⟨⟨v, rfl⟩, sH, hDy, rfl⟩
      unfold gName
      refine yes_if ?_
      refine ⟨hDy, by rw [List.length_map, newP_len, sizeLine_eq]; lia, Beh.of hk ⟨⟨_, rfl⟩, fun e o qe => ?_, upd_same, by rw [newP_succ, List.map_append]; rfl⟩⟩
      rw [upd_ne (ne_of_none qe hD)]; exact sH _ _ qe
    · rintro ys σ' H' ⟨_, sH, hDy, rfl⟩
      exact q H' D hDy (sH _ _ h1) (fun e o n qe => sH _ _ (k1 _ _ n qe)) (f1 D hD).1
theorem scLeaf : FnScope ["_law_cell", "_law_known", "_law_number"] ["_law_cell", "_law_known"] (defScope sLeaf) := ⟨rfl, rfl, rfl, by decide +kernel, rfl, by decide +kernel, by decide +kernel⟩
theorem ok_leaf {f : Addr} {fd : FuncData} (F : Fun K "_law_leaf" "_law_leaf" sLeaf f fd) (T : MT K mg C op) : FnOk P w K mg base CX0 1 f fd ["_law_cell", "_law_known"] spLeaf := by
  refine F.ok scLeaf (fun vs H Q E h => ?_) (fun cdv A outer s H vs Q E hr h => ?_)
  · obtain ⟨c, kl, ks, rfl, _⟩ := h; rfl
  · obtain ⟨c, kl, ks, rfl, hkl, hks, q⟩ := h
    have nd := scLeaf.nd
    have z2 : 2 ≤ sizeLine := by rw [sizeLine_eq]; decide
    have R3 : ∃ t : TS, PSs (cxOf CX0 P w K mg base ["_law_cell", "_law_known", "_law_number"] "_law_leaf" (defScope sLeaf) f cdv A outer s H E).nox ((defBody sLeaf).drop 3) t ∧
        ∀ z : Int, z.natAbs ≤ B18 → t { nx := fun _ H' => Q .non H', rt := Q } [some (.int c), some (.ref kl), some (.int z)] H := by
      refine ⟨_, (pss_cons (ps_if (pt_cmpR op_eq (pe_op op_modW (pe_op op_fdivW (pw 0) pe_int) pe_int) pe_int (nomark _))
      (pss_one (ps_set (i := 2) nd rfl (Or.inl rfl) (pe_op op_subW pe_int (pw 2))))
      pss_nil)
      (pss_one (ps_ret (pe_tup (pa_cons pe_str (pa_cons (pw 2) pa_nil)))))), ?_⟩
      intro z hz
      refine ⟨⟨by decide, by decide⟩, (by show (0 : Int) < _; decide), rfl, _, rfl, ite2 (fun _ => ?_) (fun _ => ?_)⟩
      · refine ⟨z2, fun t ht => ?_⟩
        exact q _ _ _ (same_upd ht) (core_num upd_same) (.inl ⟨_, rfl, by show (0 - z).natAbs ≤ B18; lia⟩)
      · exact ⟨z2, fun t ht => q _ _ _ (same_upd ht) (core_num upd_same) (.inl ⟨_, rfl, hz⟩)⟩
    obtain ⟨t3, h3, r3⟩ := R3
    have R1 : ∃ t : TS, PSs (cxOf CX0 P w K mg base ["_law_cell", "_law_known", "_law_number"] "_law_leaf" (defScope sLeaf) f cdv A outer s H E).nox ((defBody sLeaf).drop 1) t ∧
        t { nx := fun _ H' => Q .non H', rt := Q } [some (.int c), some (.ref kl), none] H := by
      refine ⟨_, (pss_cons (ps_set (i := 2) nd rfl (Or.inl rfl) (pe_op op_modW (pe_op op_fdivW (pw 0) pe_int) (pe_op op_powW pe_int pe_int)))
      (pss_cons (ps_if (pt_cmpR op_eq (pe_op op_modW (pe_op op_fdivW (pw 0) pe_int) pe_int) pe_int (nomark _))
      (pss_one (ps_set (i := 2) nd rfl (Or.inl rfl) (pe_op op_modW (pw 2) pe_int)))
      pss_nil) h3)), ?_⟩
      refine ⟨⟨by decide, by decide⟩, ⟨by decide, by decide, by decide⟩, (by show (0 : Int) < _; decide), ?_⟩
      refine ⟨⟨by decide, by decide⟩, (by show (0 : Int) < _; decide), rfl, _, rfl, ite2 (fun _ => ?_) (fun _ => ?_)⟩
      · exact ⟨(by show (0 : Int) < _; decide), r3 _ (by
          have m0 := Int.emod_nonneg (c / 18 % 10 ^ (18 : Int).toNat) (show (3 : Int) ≠ 0 by decide)
          have m1 := Int.emod_lt_of_pos (c / 18 % 10 ^ (18 : Int).toNat) (show (0 : Int) < 3 by decide)
          have : 3 ≤ B18 := by decide
          lia)⟩
      · exact r3 _ (by
          have m0 := Int.emod_nonneg (c / 18) (show (10 : Int) ^ (18 : Int).toNat ≠ 0 by decide)
          have m1 := Int.emod_lt_of_pos (c / 18) (show (0 : Int) < (10 : Int) ^ (18 : Int).toNat by decide)
          have e : ((B18 : Nat) : Int) = (10 : Int) ^ (18 : Int).toNat := by decide
          show (c / 18 % 10 ^ (18 : Int).toNat).natAbs ≤ B18
          generalize (10 : Int) ^ (18 : Int).toNat = B at m0 m1 e
          lia)
    obtain ⟨t1, h1, r1⟩ := R1
    refine ⟨_, pss_cons (ps_if (PW.pt (pw_and (pt_cmpR op_gtW (pe_callB call_len_seq (by rfl) T.len bt_len (pa_cons (pw 1) pa_nil)) pe_int (nomark _)) (pw_and1 (pt_cmpR op_gtW (pe_op op_modW (pw 0) pe_int) pe_int (nomark _)))))
      (pss_one (ps_ret (pe_tup (pa_cons pe_str (pa_cons (pe_ix ix_list (pw 1) (pe_op op_modW (pe_op op_fdivW (pw 0) pe_int) (pe_callB call_len_seq (by rfl) T.len bt_len (pa_cons (pw 1) pa_nil))) (fun _ _ => rfl)) pa_nil)))))
      pss_nil) h1, ?_⟩
    refine ⟨kl, _, rfl, .inl (SqL.of hkl), _, rfl, ite2 (fun c1 => ?_) (fun c1 => iteF r1)⟩
    have hpos : 0 < ks.length := by have := of_decide_eq_true c1; rw [List.length_map] at this; lia
    refine ⟨(by show (0 : Int) < _; decide), _, rfl, ite2 (fun c2 => ?_) (fun c2 => r1)⟩
    obtain ⟨x, ex, hx⟩ := at_mod (xs := ks.map V.int) (c / 3) (n := (ks.map V.int).length) rfl (by rw [List.length_map]; exact hpos)
    obtain ⟨p, hp, rfl⟩ := List.mem_map.mp hx
    refine ⟨⟨by decide, by decide⟩, kl, _, rfl, .inl (SqL.of hkl), (by show (0 : Int) < _; rw [List.length_map]; lia), kl, _, _, _, rfl, rfl, SqL.of hkl, ex, z2, fun t ht => ?_⟩
    exact q _ _ _ (same_upd ht) (core_seen upd_same) (.inr ⟨p, hp, rfl⟩)
end
end K69

set_option Elab.async false
set_option linter.all false
set_option maxRecDepth 100000
set_option maxHeartbeats 4000000
set_option exponentiation.threshold 3000
/-! k69: what the makers promise of cores; fn, many. Own work. -/
namespace K69
open PySem L2 Builtin.Str MC
/-- a sum over these places, whatever they mean -/
def Sc (d : Nat) (ks : List Int) (c : Core) : Prop := ∀ r : Int → Int, ∃ v, Sm d (ks.map fun p => (p, r p)) c v
/-- closed, where there are no tops; else with nows that can be told -/
def Gd (tops : Option (List Nat)) (d : Nat) (ks : List Int) (c : Core) : Prop := c.sz ≤ szN d ∧ dp c ≤ 4 * d ∧ match tops with
  | none => Sc d ks c
  | some _ => Nw c
theorem sc_gd {d : Nat} {ks : List Int} {c : Core} (h : Sc d ks c) : Gd none d ks c := by
  obtain ⟨v, hv⟩ := h fun _ => 0
  exact ⟨hv.szl, hv.dpl, h⟩
theorem gd_leaf {tops : Option (List Nat)} {ks : List Int} {c : Core} (d : Nat) (h : LfOk ks c) : Gd tops d ks c := by
  have hs : Sc d ks c := fun r => by
    rcases h with ⟨z, rfl, hz⟩ | ⟨p, hp, rfl⟩
    · exact ⟨z, sm_num d _ hz⟩
    · exact ⟨r p, sm_seen d (List.mem_map.mpr ⟨p, hp, rfl⟩)⟩
  obtain ⟨g1, g2, _⟩ := sc_gd hs
  refine ⟨g1, g2, ?_⟩
  cases tops with
  | none => exact hs
  | some t =>
    rcases h with ⟨z, rfl, _⟩ | ⟨p, _, rfl⟩
    · trivial
    · trivial
theorem gd_op {tops : Option (List Nat)} {d : Nat} {ks : List Int} {n : Str} {a b : Core} (hn : n ∈ OPS) (ha : Gd tops d ks a) (hb : Gd tops d ks b) : Gd tops (d + 1) ks (.call (.free n) (Cores.of [a, b])) := by
  obtain ⟨a1, a2, a3⟩ := ha
  obtain ⟨b1, b2, b3⟩ := hb
  cases tops with
  | none =>
    refine sc_gd fun r => ?_
    obtain ⟨x, hx⟩ := a3 r
    obtain ⟨y, hy⟩ := b3 r
    exact ⟨_, sm_op hn hx hy⟩
  | some t =>
    refine ⟨?_, ?_, ?_⟩
    · simp only [Core.sz, Cores.of, Cores.sz, szN]; lia
    · simp only [dp, Cores.of, dps]; lia
    · exact ⟨trivial, a3, b3, trivial⟩
theorem gd_pick {tops : Option (List Nat)} {d : Nat} {ks : List Int} {t a b : Core} (ht : Gd tops d ks t) (ha : Gd tops d ks a) (hb : Gd tops d ks b) : Gd tops (d + 1) ks (.pick t a b) := by
  obtain ⟨t1, t2, t3⟩ := ht
  obtain ⟨a1, a2, a3⟩ := ha
  obtain ⟨b1, b2, b3⟩ := hb
  cases tops with
  | none =>
    refine sc_gd fun r => ?_
    obtain ⟨z, hz⟩ := t3 r
    obtain ⟨x, hx⟩ := a3 r
    obtain ⟨y, hy⟩ := b3 r
    exact ⟨_, sm_pick hz hx hy⟩
  | some t =>
    refine ⟨?_, ?_, ?_⟩
    · simp only [Core.sz, szN]; lia
    · simp only [dp]; lia
    · exact ⟨t3, a3, b3⟩
theorem gd_now {tops : Option (List Nat)} {d : Nat} {ks : List Int} {c : Core} (hd : d ≤ 3) (h : Gd none d [] c) : Gd tops (d + 1) ks (.now c) := by
  obtain ⟨a1, a2, a3⟩ := h
  obtain ⟨v, hv⟩ := a3 fun _ => 0
  have hs : Sc (d + 1) ks (.now c) := fun r => ⟨v, sm_now hd hv⟩
  obtain ⟨g1, g2, _⟩ := sc_gd hs
  refine ⟨g1, g2, ?_⟩
  cases tops with
  | none => exact hs
  | some t => exact ⟨d, v, hd, hv⟩
/-- several -/
theorem sms_of {d : Nat} {ks : List Int} (r : Int → Int) : ∀ {cs : List Core}, (∀ c ∈ cs, Sc d ks c) → ∃ vs, Sms d (ks.map fun p => (p, r p)) cs vs
  | [], _ => ⟨[], .nil⟩
  | c :: cs, h => by
    obtain ⟨v, hv⟩ := h c List.mem_cons_self r
    obtain ⟨vs, hvs⟩ := sms_of r fun k hk => h k (List.mem_cons_of_mem _ hk)
    exact ⟨v :: vs, .cons hv hvs⟩
theorem szs_le {n : Nat} : ∀ {cs : List Core}, (∀ c ∈ cs, c.sz ≤ n) → (Cores.of cs).sz ≤ cs.length * n
  | [], _ => by simp [Cores.of, Cores.sz]
  | c :: cs, h => by
    simp only [Cores.of, Cores.sz, List.length_cons, Nat.succ_mul]
    have h1 := h c List.mem_cons_self
    have h2 := szs_le fun k hk => h k (List.mem_cons_of_mem _ hk)
    lia
theorem dps_le {n : Nat} : ∀ {cs : List Core}, (∀ c ∈ cs, dp c ≤ n) → dps (Cores.of cs) ≤ n
  | [], _ => by simp [Cores.of, dps]
  | c :: cs, h => by
    simp only [Cores.of, dps]
    have h1 := h c List.mem_cons_self
    have h2 := dps_le fun k hk => h k (List.mem_cons_of_mem _ hk)
    lia
/-- what the places mean, with new ones -/
def also (r : Int → Int) : List Int → List Int → Int → Int
  | p :: ps, v :: vs => fun q => if q = p then v else also r ps vs q
  | _, _ => r
theorem also_out {r : Int → Int} : ∀ {ps vs : List Int} {q : Int}, q ∉ ps → also r ps vs q = r q
  | [], vs, q, h => by cases vs <;> rfl
  | p :: ps, [], q, h => rfl
  | p :: ps, v :: vs, q, h => by
    rw [List.mem_cons, not_or] at h
    show (if q = p then v else also r ps vs q) = r q
    rw [if_neg h.1]; exact also_out h.2
theorem also_in {r : Int → Int} : ∀ {ps vs : List Int}, ps.Nodup → ps.length = vs.length → (ps.map fun p => (p, also r ps vs p)) = ps.zip vs
  | [], [], _, _ => rfl
  | [], _ :: _, _, h => by simp at h
  | _ :: _, [], _, h => by simp at h
  | p :: ps, v :: vs, hn, hl => by
    rw [List.nodup_cons] at hn
    rw [List.map_cons, List.zip_cons_cons]
    have e0 : also r (p :: ps) (v :: vs) p = v := by show (if p = p then v else _) = v; rw [if_pos rfl]
    rw [e0]
    congr 1
    rw [← also_in (r := r) hn.2 (by simpa using hl)]
    refine List.map_congr_left fun q hq => ?_
    have : q ≠ p := fun e => hn.1 (by rw [← e]; exact hq)
    show (q, if q = p then v else also r ps vs q) = _
    rw [if_neg this]
theorem also_map {r : Int → Int} {ks ps vs : List Int} (hn : ps.Nodup) (hl : ps.length = vs.length) (hd : ∀ p ∈ ps, p ∉ ks) : ((ks ++ ps).map fun p => (p, also r ps vs p)) = (ks.map fun p => (p, r p)) ++ ps.zip vs := by
  rw [List.map_append, also_in hn hl]
  congr 1
  refine List.map_congr_left fun q hq => ?_
  rw [also_out fun h => hd q h hq]
theorem fsts (r : Int → Int) (ks : List Int) : (ks.map fun p => (p, r p)).map Prod.fst = ks := by
  rw [List.map_map]
  exact List.map_id' ks
theorem gd_fncall {tops : Option (List Nat)} {d : Nat} {ks ps : List Int} {b : Core} {cs : List Core} (hb : Gd tops d (ks ++ ps) b) (hc : ∀ c ∈ cs, Gd tops d ks c) (hl : ps.length = cs.length) (h3 : ps.length ≤ 3) (hn : ps.Nodup) (hd : ∀ p ∈ ps, p ∉ ks) : Gd tops (d + 1) ks (.call (.fn ps b) (Cores.of cs)) := by
  obtain ⟨b1, b2, b3⟩ := hb
  cases tops with
  | none =>
    refine sc_gd fun r => ?_
    obtain ⟨vs, hvs⟩ := sms_of r fun c h => (hc c h).2.2
    have hvl := hvs.len
    obtain ⟨v, hv⟩ := b3 (also r ps vs)
    rw [also_map hn (by lia) hd] at hv
    exact ⟨v, sm_fn hvs hv hl h3 hn (fun p hp => by rw [fsts]; exact hd p hp)⟩
  | some t =>
    refine ⟨?_, ?_, ?_⟩
    · simp only [Core.sz, szN]
      have := szs_le fun c h => (hc c h).1
      have h4 : cs.length * szN d ≤ 3 * szN d := Nat.mul_le_mul_right _ (by lia)
      lia
    · simp only [dp]
      have := dps_le fun c h => (hc c h).2.1
      lia
    · exact ⟨b3, Nws.of fun c h => (hc c h).2.2⟩
theorem gd_curry {tops : Option (List Nat)} {d : Nat} {ks : List Int} {p q : Int} {a1 a2 b : Core} (h1 : Gd tops d ks a1) (h2 : Gd tops d ks a2) (hb : Gd tops d ((ks ++ [p]) ++ [q]) b) (hp : p ∉ ks) (hq : q ∉ ks) (hpq : p ≠ q) : Gd tops (d + 1) ks (.call (.call (.fn [p] (.fn [q] b)) (Cores.of [a1])) (Cores.of [a2])) := by
  obtain ⟨b1, b2, b3⟩ := hb
  obtain ⟨c1, c2, c3⟩ := h1
  obtain ⟨e1, e2, e3⟩ := h2
  cases tops with
  | none =>
    refine sc_gd fun r => ?_
    obtain ⟨v1, hv1⟩ := c3 r
    obtain ⟨v2, hv2⟩ := e3 r
    obtain ⟨v, hv⟩ := b3 (also r [p, q] [v1, v2])
    have em : ((ks ++ [p]) ++ [q]).map (fun s => (s, also r [p, q] [v1, v2] s)) = ((ks.map fun s => (s, r s)) ++ [(p, v1)]) ++ [(q, v2)] := by
      have := also_map (r := r) (ks := ks) (ps := [p, q]) (vs := [v1, v2]) (by simp [hpq]) rfl (fun s hs => by simp at hs; rcases hs with rfl | rfl <;> assumption)
      rw [List.append_assoc] at *
      rw [show ([p] ++ [q] : List Int) = [p, q] from rfl, this]; simp
    rw [em] at hv
    exact ⟨v, sm_curry hv1 hv2 hv (by rw [fsts]; exact hp) (by rw [fsts]; exact hq) hpq⟩
  | some t =>
    refine ⟨?_, ?_, ?_⟩
    · simp only [Core.sz, Cores.of, Cores.sz, szN]; lia
    · simp only [dp, Cores.of, dps]; lia
    · exact ⟨⟨b3, c3, trivial⟩, e3, trivial⟩
theorem gd_top {t : List Nat} {d : Nat} {ks : List Int} {p : Int} {cs : List Core} (hc : ∀ c ∈ cs, Gd (some t) d ks c) (h3 : cs.length ≤ 3) : Gd (some t) (d + 1) ks (.call (.seen p) (Cores.of cs)) := by
  refine ⟨?_, ?_, ?_⟩
  · simp only [Core.sz, szN]
    have := szs_le fun c h => (hc c h).1
    have h4 : cs.length * szN d ≤ 3 * szN d := Nat.mul_le_mul_right _ (by lia)
    lia
  · simp only [dp]
    have := dps_le fun c h => (hc c h).2.1
    lia
  · exact ⟨trivial, Nws.of fun c h => (hc c h).2.2⟩
theorem gd_free {t : List Nat} (d : Nat) (ks : List Int) (n : Str) : Gd (some t) d ks (.free n) := ⟨by simp only [Core.sz]; exact szN_pos d, by simp [dp], by simp only [Nw]⟩
theorem gd_fn {t : List Nat} {d : Nat} {ks ks' ps : List Int} {b : Core} (h : Gd (some t) d ks' b) : Gd (some t) (d + 1) ks (.fn ps b) := by
  obtain ⟨b1, b2, b3⟩ := h
  refine ⟨?_, ?_, ?_⟩
  · simp only [Core.sz, szN]; lia
  · simp only [dp]; lia
  · exact b3
/-! ### on the heap -/
def TopIn (H : Hp) (m : Nat) (v : V) : Prop := ∃ t p, v = .ref t ∧ H t = some (.tup [.int p, .int (m : Int)])
theorem TopIn.tup {H H' : Hp} {m : Nat} {v : V} (h : TopIn H m v) (s : Tup H H') : TopIn H' m v := by
  obtain ⟨t, p, e, q⟩ := h
  exact ⟨t, p, e, s _ _ q⟩
def TpIs (H : Hp) (Dr Cn : Addr) : Option (List Nat) → V → Prop
  | none, v => v = .non
  | some tops, v => ∃ Tp l, v = .ref Tp ∧ H Tp = some (.lst l) ∧ Al (TopIn H) tops l ∧ Tp ≠ Dr ∧ Tp ≠ Cn ∧ ∀ k ∈ tops, k ≤ 2
theorem TpIs.keep {H H' : Hp} {Dr Cn : Addr} {m : Nat} {z : Int} {tops : Option (List Nat)} {v : V} (h : TpIs H Dr Cn tops v) (hM : Mk H Dr Cn m z) (k : Kp2 H H' Dr Cn) : TpIs H' Dr Cn tops v := by
  cases tops with
  | none => exact h
  | some t =>
    obtain ⟨Tp, l, e, h1, h2, n1, n2, h3⟩ := h
    exact ⟨Tp, l, e, k _ _ n1 n2 h1, h2.mono fun _ _ r => r.tup (hM.tups k), n1, n2, h3⟩
/-- the places that are known -/
structure Kwn (H : Hp) (Dr Cn Kn : Addr) (z : Int) (ks : List Int) : Prop where
  is : H Kn = some (.lst (ks.map V.int))
  lt : ∀ k ∈ ks, k < z
  n1 : Kn ≠ Dr
  n2 : Kn ≠ Cn
theorem Kwn.keep {H H' : Hp} {Dr Cn Kn : Addr} {z z' : Int} {ks : List Int} (h : Kwn H Dr Cn Kn z ks) (k : Kp2 H H' Dr Cn) (hz : z ≤ z') : Kwn H' Dr Cn Kn z' ks :=
  ⟨k _ _ h.n1 h.n2 h.is, fun x hx => by have := h.lt x hx; lia, h.n1, h.n2⟩
abbrev pFive : List Str := ["_law_draws_here", "_law_depth", "_law_known", "_law_tops", "_law_count"]
abbrev pSix : List Str := ["_law_draws_here", "_law_depth", "_law_known", "_law_tops", "_law_count", "_law_many_here"]
def spSum (d : Nat) : Sp := fun vs H Q _ => ∃ (Dr Kn Cn : Addr) (tv : V) (m : Nat) (z : Int) (tops : Option (List Nat)) (ks : List Int), vs = [.ref Dr, .int (d : Int), .ref Kn, tv, .ref Cn] ∧ Mk H Dr Cn m z ∧ TpIs H Dr Cn tops tv ∧ Kwn H Dr Cn Kn z ks ∧ ks.length + 10 * d ≤ 1000 ∧
  ∀ (H' : Hp) (c : Core) (v : V) (m' : Nat) (z' : Int), m' ≤ m - 1 → Mk H' Dr Cn m' z' → z ≤ z' → Kp2 H H' Dr Cn → CoreIn H' c v → Gd tops d ks c → Q v H'
def spFn (d : Nat) : Sp := fun vs H Q _ => ∃ (Dr Kn Cn : Addr) (tv : V) (m j : Nat) (z : Int) (tops : Option (List Nat)) (ks : List Int), vs = [.ref Dr, .int (d : Int), .ref Kn, tv, .ref Cn, .int (j : Int)] ∧ j ≤ 2 ∧ Mk H Dr Cn m z ∧ TpIs H Dr Cn tops tv ∧ Kwn H Dr Cn Kn z ks ∧ ks.length + 2 + 10 * d ≤ 1000 ∧
  ∀ (H' : Hp) (ps : List Int) (b : Core) (v : V) (m' : Nat) (z' : Int), m' ≤ m - 1 → Mk H' Dr Cn m' z' → z ≤ z' → Kp2 H H' Dr Cn → CoreIn H' (.fn ps b) v → ps.length = j → ps.Nodup → (∀ p ∈ ps, z ≤ p) → Gd tops d (ks ++ ps) b → Q v H'
def spMany (d : Nat) : Sp := fun vs H Q _ => ∃ (Dr Kn Cn : Addr) (tv : V) (m j : Nat) (z : Int) (tops : Option (List Nat)) (ks : List Int), vs = [.ref Dr, .int (d : Int), .ref Kn, tv, .ref Cn, .int (j : Int)] ∧ j ≤ 3 ∧ Mk H Dr Cn m z ∧ TpIs H Dr Cn tops tv ∧ Kwn H Dr Cn Kn z ks ∧ ks.length + 10 * d ≤ 1000 ∧
  ∀ (H' : Hp) (t : Addr) (xs : List V) (cs : List Core) (m' : Nat) (z' : Int), m' ≤ m → Mk H' Dr Cn m' z' → z ≤ z' → Kp2 H H' Dr Cn → H' t = some (.tup xs) → Al (CoreIn H') cs xs → cs.length = j → (∀ c ∈ cs, Gd tops d ks c) → Q (.ref t) H'
section
variable {P : Program} {w : World} {K : PySem.W.Frag} {mg : Str → Option Value} {base : Heap} {C op : Addr}
abbrev NFn : List Str := ["_law_draws_here", "_law_depth", "_law_known", "_law_tops", "_law_count", "_law_many_here", "_law_places", "_law_body"]
theorem scFn : FnScope NFn pSix (defScope sFn) := ⟨rfl, rfl, rfl, by decide +kernel, rfl, by decide +kernel, by decide +kernel⟩
theorem lcFn1 : LcS (defScope sFn).names [(".0", .local), ("_law_place", .local)] NFn [false, false, false, false, false, false, false, false] := ⟨by decide +kernel, by decide +kernel, by decide +kernel, by decide +kernel, by decide +kernel, rfl⟩
theorem ndFn1 : (NFn ++ (["_law_place"] : List Str)).Nodup := by decide +kernel
theorem ok_fn {f fW fS : Addr} {fd fdW fdS : FuncData} {k d : Nat} (F : Fun K "_law_fn" "_law_fn" sFn f fd) (T : MT K mg C op)
    (FW : Fun K "_law_new" "_law_new" sNew fW fdW) (bW : Binds K fdW ["_law_count", "_law_many_here"] []) (mW : mg "_law_new" = some (.ref fW))
    (kS : PySem.W.keepIn K (.ref fS) = true) (bS : Binds K fdS pFive []) (mS : mg "_law_sum" = some (.ref fS)) (GS : FnOk P w K mg base CX0 (k + 1) fS fdS pFive (spSum d)) : FnOk P w K mg base CX0 (k + 2) f fd pSix (spFn d) := by
  have GW : FnOk P w K mg base CX0 (k + 1) fW fdW ["_law_count", "_law_many_here"] spNew := (ok_new FW T).mono (by lia)
  refine F.ok scFn (fun vs H Q E h => ?_) (fun cdv A outer s H vs Q E hr h => ?_)
  · obtain ⟨Dr, Kn, Cn, tv, m, j, z, tops, ks, rfl, _⟩ := h; rfl
  · obtain ⟨Dr, Kn, Cn, tv, m, j, z, tops, ks, rfl, hj, hM, hT, hK, hkl, q⟩ := h
    have nd := scFn.nd
    have z2 : 2 ≤ sizeLine := by rw [sizeLine_eq]; decide
    have z3 : 3 ≤ sizeLine := by rw [sizeLine_eq]; decide
    refine ⟨_, pss_cons (ps_set (i := 6) nd rfl (Or.inl rfl) (pe_call GW hr (by rfl) mW FW.kp bW .nil pass0 (pa_cons (pw 4) (pa_cons (pw 5) pa_nil))))
      (pss_cons (ps_set (i := 7) nd rfl (Or.inl rfl) (pe_call GS hr (by rfl) mS kS bS .nil pass0 (pa_cons (pw 0) (pa_cons (pw 1) (pa_cons (pe_op op_cat (pw 2) (pw 6)) (pa_cons (pw 3) (pa_cons (pw 4) pa_nil)))))))
      (pss_one (ps_ret (pe_tup (pa_cons pe_str (pa_cons (pe_callTy call_tuple_of (by rfl) T.tuple bt_tuple' (pa_cons (pe_lc (ext := ["_law_place"]) lcFn1 rfl (pi_list (pw 6))
          ⟨fun _ _ _ _ _ => (pg_name (i := 8) ndFn1 rfl (Or.inl rfl) (.inr rfl)), fun _ _ _ _ _ => pts_nil, fun _ _ _ _ _ => (pe_tup (pa_cons (pw 8) (pa_cons (pe_ix ix_str pe_str (pe_op op_modW (pw 8) pe_int) (fun _ _ => rfl)) pa_nil)))⟩) pa_nil)) (pa_cons (pw 7) pa_nil))))))), ?_⟩
    refine ⟨Cn, j, z, rfl, hM.cn, by lia, fun H1 D hD hcn1 k1 hDn => ?_⟩
    have hM1 := hM.newc k1 hcn1
    have k1' : Kp2 H H1 Dr Cn := fun a o _ n e => k1 a o n e
    have hpl : (newP z j).length = j := newP_len _ _
    obtain ⟨nD1, nD2⟩ := hM.old hDn
    have hK1 := k1' _ _ hK.n1 hK.n2 hK.is
    refine ⟨Kn, D, _, _, rfl, rfl, hK1, hD, by rw [List.length_map, List.length_map, sizeLine_eq]; lia, fun L hL => ?_⟩
    have s2 := same_upd (o := .lst (ks.map V.int ++ (newP z j).map V.int)) hL
    have f2 : upd H1 L (.lst (ks.map V.int ++ (newP z j).map V.int)) L = some (.lst ((ks ++ newP z j).map V.int)) := by rw [upd_same, List.map_append]
    generalize upd H1 L (.lst (ks.map V.int ++ (newP z j).map V.int)) = H2 at s2 f2 ⊢
    have hM2 := hM1.same s2
    obtain ⟨nL1, nL2⟩ := hM1.old hL
    have hD2 := s2 _ _ hD
    have k02 : Kp2 H H2 Dr Cn := k1'.trans (Kp2.of s2)
    have hK2 : Kwn H2 Dr Cn L (z + j) (ks ++ newP z j) := ⟨f2, fun p hp => by
      rcases List.mem_append.mp hp with hp | hp
      · have := hK.lt p hp; lia
      · have := newP_mem hp; lia, nL1, nL2⟩
    refine ⟨Dr, L, Cn, tv, m, z + j, tops, ks ++ newP z j, rfl, hM2, hT.keep hM k02, hK2, by rw [List.length_append]; lia, fun H3 b v m' z' hm' hM3 hz' k3 hb3 hg3 => ?_⟩
    have hD3 := k3 _ _ nD1 nD2 hD2
    refine ⟨D, rfl, ⟨_, SqL.of hD3⟩, fun Y hY => ?_⟩
    refine lc_lst (K := K) (a := D) (xs := (newP z j).map V.int) (fun i ys σ' H' => (∃ v, σ' = [none, none, none, none, none, none, none, none, v]) ∧ Same H3 H' ∧ H' Y = some (.lst ys) ∧ Al (PIn H') ((newP z j).take i) ys)
      ⟨⟨_, rfl⟩, same_upd hY, upd_same, Al.nil⟩ (fun i ys σ' H' _ hP => SqL.of (hP.2.1 _ _ hD3)) ?_ ?_
    · rintro i x ys σ' H' hx ⟨⟨v, rfl⟩, sH, hYy, hal⟩
      unfold gName
      refine yes_if ?_
      obtain ⟨p, ep, rfl⟩ := map_at hx
      have hi : i < (newP z j).length := (List.getElem?_eq_some_iff.mp ep).1
      obtain ⟨ch, ech, _⟩ := at_mod (xs := cpl ("xyz" : Str)) p (n := 3) (by decide) (by decide)
      refine ⟨(by show (0 : Int) < _; decide), ("xyz" : Str), _, ch, rfl, rfl, by decide, ech, z2, fun t ht => ?_⟩
      have st := same_upd (o := .tup [.int p, .str { cps := #[ch] }]) ht
      have ft : upd H' t (.tup [.int p, .str { cps := #[ch] }]) t = some (.tup [.int p, .str { cps := #[ch] }]) := upd_same
      generalize upd H' t (.tup [.int p, .str { cps := #[ch] }]) = H6 at st ft ⊢
      have hyl : ys.length = i := by rw [hal.1, List.length_take]; lia
      have t3 : Tup H6 (upd H6 Y (.lst (ys ++ [.ref t]))) := tuplst (st _ _ hYy)
      refine ⟨st _ _ hYy, by rw [hyl, sizeLine_eq]; lia, Beh.of (by rw [List.length_map]; exact hi) ⟨⟨_, rfl⟩, fun c o e => ?_, upd_same, ?_⟩⟩
      · rw [upd_ne (ne_of_none e hY)]; exact st _ _ (sH _ _ e)
      · rw [List.take_succ, ep]
        exact (hal.mono fun _ _ r => r.tup ((Tup.of st).trans t3)).snoc ⟨t, _, rfl, t3 _ _ ft⟩
    · rintro ys σ' H4 ⟨_, s4, hY4, hal⟩
      rw [List.length_map, List.take_length] at hal
      refine ⟨Y, ys, rfl, .inl ⟨SqL.of hY4, fun Pm hPm => ?_⟩⟩
      have s5 := same_upd (o := .tup ys) hPm
      have f5 : upd H4 Pm (.tup ys) Pm = some (.tup ys) := upd_same
      generalize upd H4 Pm (.tup ys) = H5 at s5 f5 ⊢
      refine ⟨z3, fun t6 ht6 => ?_⟩
      have s6 := same_upd (o := .tup [.str "fn", .ref Pm, v]) ht6
      have f6 : upd H5 t6 (.tup [.str "fn", .ref Pm, v]) t6 = some (.tup [.str "fn", .ref Pm, v]) := upd_same
      generalize upd H5 t6 (.tup [.str "fn", .ref Pm, v]) = H6 at s6 f6 ⊢
      have s46 := s4.trans (s5.trans s6)
      exact q _ (newP z j) b _ m' z' hm' (hM3.same s46) (by lia) ((k02.trans k3).trans (Kp2.of s46)) (core_fn f6 (s6 _ _ f5) (hal.mono fun _ _ r => r.tup (Tup.of (s5.trans s6))) (hb3.tup (Tup.of s46))) hpl (newP_nodup _ _) (fun p hp => (newP_mem hp).1) hg3
abbrev NMany : List Str := ["_law_draws_here", "_law_depth", "_law_known", "_law_tops", "_law_count", "_law_many_here", "_law_parts", "_law_k"]
theorem scMany : FnScope NMany pSix (defScope sMany) := ⟨rfl, rfl, rfl, by decide +kernel, rfl, by decide +kernel, by decide +kernel⟩
theorem ok_many {f fS : Addr} {fd fdS : FuncData} {k d : Nat} (F : Fun K "_law_many" "_law_many" sMany f fd) (T : MT K mg C op)
    (kS : PySem.W.keepIn K (.ref fS) = true) (bS : Binds K fdS pFive []) (mS : mg "_law_sum" = some (.ref fS)) (GS : FnOk P w K mg base CX0 (k + 1) fS fdS pFive (spSum d)) : FnOk P w K mg base CX0 (k + 2) f fd pSix (spMany d) := by
  refine F.ok scMany (fun vs H Q E h => ?_) (fun cdv A outer s H vs Q E hr h => ?_)
  · obtain ⟨Dr, Kn, Cn, tv, m, j, z, tops, ks, rfl, _⟩ := h; rfl
  · obtain ⟨Dr, Kn, Cn, tv, m, j, z, tops, ks, rfl, hj, hM, hT, hK, hkl, q⟩ := h
    have nd := scMany.nd
    refine ⟨_, pss_cons (ps_set (i := 6) nd rfl (Or.inl rfl) (pe_lst pa_nil))
      (pss_cons (ps_for PassesOwn.never rfl (pi_range1 rfl T.range (pa_cons (pw 5) pa_nil)) (pg_name (i := 7) nd rfl (Or.inl rfl))
      (pss_one (ps_expr (pe_bm PySem.F.plainAttrs_list PySem.F.slot_list_append PySem.F.type_list_append mt_appW (pw 6) (pa_cons (pe_call GS hr (by rfl) mS kS bS .nil pass0 (pa_cons (pw 0) (pa_cons (pw 1) (pa_cons (pw 2) (pa_cons (pw 3) (pa_cons (pw 4) pa_nil)))))) pa_nil)))))
      (pss_one (ps_ret (pe_callTy call_tuple_of (by rfl) T.tuple bt_tuple' (pa_cons (pw 6) pa_nil))))), ?_⟩
    refine ⟨Nat.zero_le _, fun L hL => ?_⟩
    have s1 := same_upd (o := .lst []) hL
    have f1 : upd H L (.lst []) L = some (.lst []) := upd_same
    generalize upd H L (.lst []) = H1 at s1 f1 ⊢
    obtain ⟨nL1, nL2⟩ := hM.old hL
    refine ⟨_, rfl, by lia, by lia, ?_⟩
    refine for_range (lo := 0) (n := ((j : Nat) : Int).toNat) (fun i σ H' => ∃ (v7 : Option V) (m' : Nat) (z' : Int) (xs : List V) (cs : List Core), σ = [some (.ref Dr), some (.int (d : Int)), some (.ref Kn), some tv, some (.ref Cn), some (.int (j : Int)), some (.ref L), v7] ∧ m' ≤ m ∧ z ≤ z' ∧ Mk H' Dr Cn m' z' ∧ Kp2 H H' Dr Cn ∧ H' L = some (.lst xs) ∧ Al (CoreIn H') cs xs ∧ cs.length = i ∧ ∀ c ∈ cs, Gd tops d ks c)
      ⟨_, m, z, [], [], rfl, Nat.le_refl _, Int.le_refl _, hM.same s1, Kp2.of s1, f1, Al.nil, rfl, fun x h => nomatch h⟩ ?_ ?_
    · rintro i σ H' hi ⟨v7, m', z', xs, cs, rfl, hm', hz', hM', kH, hLx, hal, hcl, hcs⟩
      have hxl : xs.length = i := by rw [hal.1, hcl]
      refine ⟨.inl ⟨rfl, _, SqL.of hLx⟩, Dr, Kn, Cn, tv, m', z', tops, ks, rfl, hM', hT.keep hM kH, hK.keep kH hz', hkl, fun H2 c v m2 z2 hm2 hM2 hz2 k2 hc2 hg2 => ?_⟩
      have hL2 := k2 _ _ nL1 nL2 hLx
      have tp2 := hM'.tups k2
      have tk : Tup H2 (upd H2 L (.lst (xs ++ [v]))) := tuplst hL2
      refine ⟨xs, hL2, by rw [hxl, sizeLine_eq]; lia, _, m2, z2, xs ++ [v], cs ++ [c], rfl, by lia, by lia, hM2.keep nL1 nL2 (fun a o n e => by rw [upd_ne n]; exact e), fun a o n1 n2 e => ?_, upd_same, (hal.mono fun _ _ r => r.tup (tp2.trans tk)).snoc (hc2.tup tk), by rw [List.length_append, hcl]; rfl, fun x hx => ?_⟩
      · rw [upd_ne (ne_of_none e hL)]; exact k2 _ _ n1 n2 (kH _ _ n1 n2 e)
      · rcases List.mem_append.mp hx with hx | hx
        · exact hcs x hx
        · rw [List.mem_singleton.mp hx]; exact hg2
    · rintro σ H' ⟨v7, m', z', xs, cs, rfl, hm', hz', hM', kH, hLx, hal, hcl, hcs⟩
      refine ⟨L, xs, rfl, .inl ⟨SqL.of hLx, fun t ht => ?_⟩⟩
      have s2 := same_upd (o := .tup xs) ht
      exact q _ t xs cs m' z' hm' (hM'.same s2) hz' (kH.trans (Kp2.of s2)) upd_same (hal.mono fun _ _ r => r.tup (Tup.of s2)) (by lia) hcs
end
end K69

set_option Elab.async false
set_option linter.all false
set_option maxRecDepth 100000
set_option maxHeartbeats 4000000
set_option exponentiation.threshold 3000
/-! k69: a call of an fn made for it; what is odd. Own work. -/
namespace K69
open PySem L2 Builtin.Str MC
abbrev pMore : List Str := ["_law_draws_here", "_law_depth", "_law_known", "_law_tops", "_law_count", "_law_more"]
abbrev NCd : List Str := ["_law_draws_here", "_law_depth", "_law_known", "_law_tops", "_law_count", "_law_more", "_law_first", "_law_places", "_law_inner", "_law_given"]
def spCalled (d : Nat) : Sp := fun vs H Q _ => ∃ (Dr Kn Cn : Addr) (tv : V) (m : Nat) (z mo : Int) (tops : Option (List Nat)) (ks : List Int), vs = [.ref Dr, .int (d : Int), .ref Kn, tv, .ref Cn, .int mo] ∧ Mk H Dr Cn m z ∧ TpIs H Dr Cn tops tv ∧ Kwn H Dr Cn Kn z ks ∧ ks.length + 3 + 10 * d ≤ 1000 ∧
  ∀ (H' : Hp) (c : Core) (v : V) (m' : Nat) (z' : Int), m' ≤ m → Mk H' Dr Cn m' z' → z ≤ z' → Kp2 H H' Dr Cn → CoreIn H' c v → Gd tops (d + 1) ks c → Q v H'
def spOdd (d : Nat) : Sp := fun vs H Q _ => ∃ (Dr Kn Cn : Addr) (tv : V) (m : Nat) (z mo : Int) (t : List Nat) (ks : List Int), vs = [.ref Dr, .int (d : Int), .ref Kn, tv, .ref Cn, .int mo] ∧ Mk H Dr Cn m z ∧ TpIs H Dr Cn (some t) tv ∧ Kwn H Dr Cn Kn z ks ∧ ks.length + 3 + 10 * d ≤ 1000 ∧
  ∀ (H' : Hp) (c : Core) (v : V) (m' : Nat) (z' : Int), m' ≤ m → Mk H' Dr Cn m' z' → z ≤ z' → Kp2 H H' Dr Cn → CoreIn H' c v → Gd (some t) (d + 1) ks c → Q v H'
theorem two_of {α : Type} {xs : List α} (h : xs.length = 2) : ∃ a b, xs = [a, b] := by
  cases xs with
  | nil => cases h
  | cons a r => cases r with
    | nil => cases h
    | cons b r => cases r with
      | nil => exact ⟨a, b, rfl⟩
      | cons c r => cases h
theorem one_of {α : Type} {xs : List α} (h : xs.length = 1) : ∃ a, xs = [a] := List.length_eq_one_iff.mp h
theorem cut_0 (x y : V) : cutV [x, y] none (some 1) = [x] := rfl
theorem cut_1 (x y : V) : cutV [x, y] (some 1) none = [y] := rfl
theorem thirds (mo : Int) : ∃ j : Nat, mo / 3 % 3 = (j : Int) ∧ j ≤ 2 := by
  have g0 := Int.emod_nonneg (mo / 3) (show (3 : Int) ≠ 0 by decide)
  have g1 := Int.emod_lt_of_pos (mo / 3) (show (0 : Int) < 3 by decide)
  exact ⟨(mo / 3 % 3).toNat, by lia, by lia⟩
theorem fourths (mo : Int) : ∃ j : Nat, mo / 4 % 3 = (j : Int) ∧ j ≤ 2 := by
  have g0 := Int.emod_nonneg (mo / 4) (show (3 : Int) ≠ 0 by decide)
  have g1 := Int.emod_lt_of_pos (mo / 4) (show (0 : Int) < 3 by decide)
  exact ⟨(mo / 4 % 3).toNat, by lia, by lia⟩
section
variable {P : Program} {w : World} {K : PySem.W.Frag} {mg : Str → Option Value} {base : Heap} {C op : Addr}
theorem scCd : FnScope NCd pMore (defScope sCalled) := ⟨rfl, rfl, rfl, by decide +kernel, rfl, by decide +kernel, by decide +kernel⟩
theorem ok_called {f fW fF fM : Addr} {fd fdW fdF fdM : FuncData} {k d : Nat} (F : Fun K "_law_called" "_law_called" sCalled f fd) (T : MT K mg C op)
    (FW : Fun K "_law_new" "_law_new" sNew fW fdW) (bW : Binds K fdW ["_law_count", "_law_many_here"] []) (mW : mg "_law_new" = some (.ref fW))
    (kF : PySem.W.keepIn K (.ref fF) = true) (bF : Binds K fdF pSix []) (mF : mg "_law_fn" = some (.ref fF)) (GF : FnOk P w K mg base CX0 (k + 1) fF fdF pSix (spFn d))
    (kM : PySem.W.keepIn K (.ref fM) = true) (bM : Binds K fdM pSix []) (mM : mg "_law_many" = some (.ref fM)) (GM : FnOk P w K mg base CX0 (k + 1) fM fdM pSix (spMany d)) : FnOk P w K mg base CX0 (k + 2) f fd pMore (spCalled d) := by
  have GW : FnOk P w K mg base CX0 (k + 1) fW fdW ["_law_count", "_law_many_here"] spNew := (ok_new FW T).mono (by lia)
  refine F.ok scCd (fun vs H Q E h => ?_) (fun cdv A outer s H vs Q E hr h => ?_)
  · obtain ⟨Dr, Kn, Cn, tv, m, z, mo, tops, ks, rfl, _⟩ := h; rfl
  · obtain ⟨Dr, Kn, Cn, tv, m, z, mo, tops, ks, rfl, hM, hT, hK, hkl, q⟩ := h
    have nd := scCd.nd
    have z1 : 1 ≤ sizeLine := by rw [sizeLine_eq]; decide
    have z2 : 2 ≤ sizeLine := by rw [sizeLine_eq]; decide
    have z3 : 3 ≤ sizeLine := by rw [sizeLine_eq]; decide
    refine ⟨_, Z.suite (Z.pss_cons (Z.ps_if (Z.pt_cmpR op_ltW (Z.pe_op op_modW (Z.pw 5) Z.pe_int) Z.pe_int (nomark _))
      (Z.pss_cons (Z.ps_set (i := 6) nd rfl (Or.inl rfl) (Z.pe_call GF hr (by rfl) mF kF bF .nil pass0 (Z.pa_cons (Z.pw 0) (Z.pa_cons (Z.pw 1) (Z.pa_cons (Z.pw 2) (Z.pa_cons (Z.pw 3) (Z.pa_cons (Z.pw 4) (Z.pa_cons (Z.pe_op op_modW (Z.pe_op op_fdivW (Z.pw 5) Z.pe_int) Z.pe_int) Z.pa_nil))))))))
        (Z.pss_one (Z.ps_ret (Z.pe_tup (Z.pa_cons Z.pe_str (Z.pa_cons (Z.pw 6) (Z.pa_cons (Z.pe_call GM hr (by rfl) mM kM bM .nil pass0 (Z.pa_cons (Z.pw 0) (Z.pa_cons (Z.pw 1) (Z.pa_cons (Z.pw 2) (Z.pa_cons (Z.pw 3) (Z.pa_cons (Z.pw 4) (Z.pa_cons (Z.pe_op op_modW (Z.pe_op op_fdivW (Z.pw 5) Z.pe_int) Z.pe_int) Z.pa_nil))))))) Z.pa_nil)))))))
      Z.pss_nil)
      (Z.pss_cons (Z.ps_set (i := 7) nd rfl (Or.inl rfl) (Z.pe_call GW hr (by rfl) mW FW.kp bW .nil pass0 (Z.pa_cons (Z.pw 4) (Z.pa_cons Z.pe_int Z.pa_nil))))
      (Z.pss_cons (Z.ps_set (i := 8) nd rfl (Or.inl rfl) (Z.pe_call GF hr (by rfl) mF kF bF .nil pass0 (Z.pa_cons (Z.pw 0) (Z.pa_cons (Z.pw 1) (Z.pa_cons (Z.pe_op op_cat (Z.pw 2) (Z.pw 7)) (Z.pa_cons (Z.pw 3) (Z.pa_cons (Z.pw 4) (Z.pa_cons Z.pe_int Z.pa_nil))))))))
      (Z.pss_cons (Z.ps_set (i := 9) nd rfl (Or.inl rfl) (Z.pe_call GM hr (by rfl) mM kM bM .nil pass0 (Z.pa_cons (Z.pw 0) (Z.pa_cons (Z.pw 1) (Z.pa_cons (Z.pw 2) (Z.pa_cons (Z.pw 3) (Z.pa_cons (Z.pw 4) (Z.pa_cons Z.pe_int Z.pa_nil))))))))
      (Z.pss_one (Z.ps_ret (Z.pe_tup (Z.pa_cons Z.pe_str (Z.pa_cons (Z.pe_tup (Z.pa_cons Z.pe_str (Z.pa_cons (Z.pe_tup (Z.pa_cons Z.pe_str (Z.pa_cons (Z.pe_tup (Z.pa_cons (Z.pe_tup (Z.pa_cons (Z.pe_iwL 7) (Z.pa_cons Z.pe_str Z.pa_nil))) Z.pa_nil)) (Z.pa_cons (Z.pw 8) Z.pa_nil)))) (Z.pa_cons (Z.pe_slice sl_tup (Z.pw 9) Z.po_none (Z.po_some Z.pe_int)) Z.pa_nil)))) (Z.pa_cons (Z.pe_slice sl_tup (Z.pw 9) (Z.po_some Z.pe_int) Z.po_none) Z.pa_nil)))))))))), ?_⟩
    refine ⟨(by show (0 : Int) < _; decide), _, rfl, ite2 (fun _ => ?_) (fun _ => ?_)⟩
    · obtain ⟨j, hj, hj2⟩ := thirds mo
      refine ⟨⟨by decide, by decide⟩, (by show (0 : Int) < _; decide), ?_⟩
      dsimp only
      rw [hj]
      refine ⟨Dr, Kn, Cn, tv, m, j, z, tops, ks, rfl, hj2, hM, hT, hK, by lia, fun H1 ps b v m1 z1 hm1 hM1 hz1 k1 hc1 hpl hnd hps hg1 => ?_⟩
      refine ⟨⟨by decide, by decide⟩, (by show (0 : Int) < _; decide), ?_⟩
      dsimp only
      rw [hj]
      refine ⟨Dr, Kn, Cn, tv, m1, j, z1, tops, ks, rfl, by lia, hM1, hT.keep hM k1, hK.keep k1 hz1, by lia, fun H2 t xs cs m2 z2' hm2 hM2 hz2 k2 ht hal hcl hcs => ⟨z3, fun t3 ht3 => ?_⟩⟩
      have s3 := same_upd (o := .tup [.str "call", v, .ref t]) ht3
      have f3 : upd H2 t3 (.tup [.str "call", v, .ref t]) t3 = some (.tup [.str "call", v, .ref t]) := upd_same
      generalize upd H2 t3 (.tup [.str "call", v, .ref t]) = H3 at s3 f3 ⊢
      refine q _ (.call (.fn ps b) (Cores.of cs)) _ m2 z2' (Nat.le_trans hm2 (Nat.le_trans hm1 (Nat.sub_le _ _))) (hM2.same s3) (Int.le_trans hz1 hz2) ((k1.trans k2).trans (Kp2.of s3)) (core_call f3 (s3 _ _ ht) (hc1.tup ((hM1.tups k2).trans (Tup.of s3))) (hal.mono fun _ _ r => r.tup (Tup.of s3))) ?_
      exact gd_fncall hg1 hcs (by lia) (by lia) hnd (fun p hp hk => by have := hK.lt p hk; have := hps p hp; lia)
    · refine ⟨Cn, 1, z, rfl, hM.cn, by decide, fun H1 D hD hcn1 k1 hDn => ?_⟩
      have hM1 := hM.newc k1 hcn1
      have k1' : Kp2 H H1 Dr Cn := fun a o _ n e => k1 a o n e
      obtain ⟨nD1, nD2⟩ := hM.old hDn
      have hp1 : newP z 1 = [z + (0 + ((0 : Nat) : Int))] := rfl
      have hK1 := hK.keep k1' (Int.le_refl z)
      refine ⟨Kn, D, _, _, rfl, rfl, hK1.is, hD, by rw [List.length_map, List.length_map, newP_len, sizeLine_eq]; lia, fun L hL => ?_⟩
      have s2 := same_upd (o := .lst (ks.map V.int ++ (newP z 1).map V.int)) hL
      have f2 : upd H1 L (.lst (ks.map V.int ++ (newP z 1).map V.int)) L = some (.lst ((ks ++ newP z 1).map V.int)) := by rw [upd_same, List.map_append]
      generalize upd H1 L (.lst (ks.map V.int ++ (newP z 1).map V.int)) = H2 at s2 f2 ⊢
      have hM2 := hM1.same s2
      obtain ⟨nL1, nL2⟩ := hM1.old hL
      have k02 : Kp2 H H2 Dr Cn := k1'.trans (Kp2.of s2)
      have hK2 : Kwn H2 Dr Cn L (z + ((1 : Nat) : Int)) (ks ++ newP z 1) := ⟨f2, fun p hp => by
        rcases List.mem_append.mp hp with hp | hp
        · have := hK.lt p hp; lia
        · have := newP_mem hp; lia, nL1, nL2⟩
      refine ⟨Dr, L, Cn, tv, m, 1, z + ((1 : Nat) : Int), tops, ks ++ newP z 1, rfl, by decide, hM2, hT.keep hM k02, hK2, by rw [List.length_append, newP_len]; lia, fun H3 ps b v m3 z3' hm3 hM3 hz3 k3 hc3 hpl hnd hps hg3 => ?_⟩
      have k03 := k02.trans k3
      refine ⟨Dr, Kn, Cn, tv, m3, 2, z3', tops, ks, rfl, by decide, hM3, hT.keep hM k03, hK.keep k03 (by lia), by lia, fun H4 t xs cs m4 z4' hm4 hM4 hz4 k4 ht hal hcl hcs => ?_⟩
      obtain ⟨a1, a2, rfl⟩ := two_of hcl
      obtain ⟨x1, xr, rfl, hx1, hal⟩ := hal.uncons
      obtain ⟨x2, xr2, rfl, hx2, hal⟩ := hal.uncons
      have e0 := hal.nil_of
      subst e0
      obtain ⟨p2, rfl⟩ := one_of hpl
      have hD4 := k4 _ _ nD1 nD2 (k3 _ _ nD1 nD2 (s2 _ _ hD))
      refine ⟨_, hD4, z2, fun t5 ht5 => ?_⟩
      have s5 := same_upd (o := .tup [.int (z + (0 + ((0 : Nat) : Int))), .str "x"]) ht5
      have f5 : upd H4 t5 (.tup [.int (z + (0 + ((0 : Nat) : Int))), .str "x"]) t5 = some (.tup [.int (z + (0 + ((0 : Nat) : Int))), .str "x"]) := upd_same
      generalize upd H4 t5 (.tup [.int (z + (0 + ((0 : Nat) : Int))), .str "x"]) = H5 at s5 f5 ⊢
      refine ⟨z1, fun t6 ht6 => ?_⟩
      have s6 := same_upd (o := .tup [.ref t5]) ht6
      have f6 : upd H5 t6 (.tup [.ref t5]) t6 = some (.tup [.ref t5]) := upd_same
      generalize upd H5 t6 (.tup [.ref t5]) = H6 at s6 f6 ⊢
      refine ⟨z3, fun t7 ht7 => ?_⟩
      have s7 := same_upd (o := .tup [.str "fn", .ref t6, v]) ht7
      have f7 : upd H6 t7 (.tup [.str "fn", .ref t6, v]) t7 = some (.tup [.str "fn", .ref t6, v]) := upd_same
      generalize upd H6 t7 (.tup [.str "fn", .ref t6, v]) = H7 at s7 f7 ⊢
      have s47 := s5.trans (s6.trans s7)
      refine ⟨_, rfl, t, _, rfl, SqT.of (s47 _ _ ht), (by show ¬ (HT.sIx 2 0 none = 0 ∧ HT.sIx 2 2 (some 1) = 2); decide), fun t8 ht8 => ?_⟩
      rw [cut_0]
      have s8 := same_upd (o := .tup [x1]) ht8
      have f8 : upd H7 t8 (.tup [x1]) t8 = some (.tup [x1]) := upd_same
      generalize upd H7 t8 (.tup [x1]) = H8 at s8 f8 ⊢
      refine ⟨z3, fun t9 ht9 => ?_⟩
      have s9 := same_upd (o := .tup [.str "call", .ref t7, .ref t8]) ht9
      have f9 : upd H8 t9 (.tup [.str "call", .ref t7, .ref t8]) t9 = some (.tup [.str "call", .ref t7, .ref t8]) := upd_same
      generalize upd H8 t9 (.tup [.str "call", .ref t7, .ref t8]) = H9 at s9 f9 ⊢
      have s49 := s47.trans (s8.trans s9)
      refine ⟨_, rfl, t, _, rfl, SqT.of (s49 _ _ ht), cut_no _ _, fun t10 ht10 => ?_⟩
      rw [cut_1]
      have s10 := same_upd (o := .tup [x2]) ht10
      have f10 : upd H9 t10 (.tup [x2]) t10 = some (.tup [x2]) := upd_same
      generalize upd H9 t10 (.tup [x2]) = H10 at s10 f10 ⊢
      refine ⟨z3, fun t11 ht11 => ?_⟩
      have s11 := same_upd (o := .tup [.str "call", .ref t9, .ref t10]) ht11
      have f11 : upd H10 t11 (.tup [.str "call", .ref t9, .ref t10]) t11 = some (.tup [.str "call", .ref t9, .ref t10]) := upd_same
      generalize upd H10 t11 (.tup [.str "call", .ref t9, .ref t10]) = H11 at s11 f11 ⊢
      have s411 := s49.trans (s10.trans s11)
      have s711 := ((s8.trans s9).trans s10).trans s11
      refine q _ (.call (.call (.fn [z + (0 + ((0 : Nat) : Int))] (.fn [p2] b)) (Cores.of [a1])) (Cores.of [a2])) _ m4 z4' (Nat.le_trans hm4 (Nat.le_trans hm3 (Nat.sub_le _ _))) (hM4.same s411) (by lia) ((k03.trans k4).trans (Kp2.of s411)) ?_ ?_
      · refine core_call f11 (s11 _ _ f10) (core_call ((s10.trans s11) _ _ f9) (((s9.trans s10).trans s11) _ _ f8) (core_fn (s711 _ _ f7) ((s7.trans s711) _ _ f6) (Al.one ⟨t5, _, rfl, ((s6.trans s7).trans s711) _ _ f5⟩) (hc3.tup ((hM3.tups k4).trans (Tup.of s411)))) (Al.one (hx1.tup (Tup.of s411)))) (Al.one (hx2.tup (Tup.of s411)))
      · rw [hp1] at hg3
        have hq := hps p2 (by simp)
        refine gd_curry (hcs a1 (by simp)) (hcs a2 (by simp)) hg3 (fun hk => ?_) (fun hk => ?_) (by lia)
        · have := hK.lt _ hk; lia
        · have := hK.lt _ hk; lia
theorem scOdd : FnScope pMore pMore (defScope sOdd) := ⟨rfl, rfl, rfl, by decide +kernel, rfl, by decide +kernel, by decide +kernel⟩
theorem ok_odd {f fF fS : Addr} {fd fdF fdS : FuncData} {k d : Nat} (F : Fun K "_law_odd" "_law_odd" sOdd f fd) (T : MT K mg C op) (hd3 : d ≤ 3)
    (kF : PySem.W.keepIn K (.ref fF) = true) (bF : Binds K fdF pSix []) (mF : mg "_law_fn" = some (.ref fF)) (GF : FnOk P w K mg base CX0 (k + 1) fF fdF pSix (spFn d))
    (kS : PySem.W.keepIn K (.ref fS) = true) (bS : Binds K fdS pFive []) (mS : mg "_law_sum" = some (.ref fS)) (GS : FnOk P w K mg base CX0 (k + 1) fS fdS pFive (spSum d)) : FnOk P w K mg base CX0 (k + 2) f fd pMore (spOdd d) := by
  refine F.ok scOdd (fun vs H Q E h => ?_) (fun cdv A outer s H vs Q E hr h => ?_)
  · obtain ⟨Dr, Kn, Cn, tv, m, z, mo, t, ks, rfl, _⟩ := h; rfl
  · obtain ⟨Dr, Kn, Cn, tv, m, z, mo, t, ks, rfl, hM, hT, hK, hkl, q⟩ := h
    have nd := scOdd.nd
    have z2 : 2 ≤ sizeLine := by rw [sizeLine_eq]; decide
    have z5 : 5 ≤ sizeLine := by rw [sizeLine_eq]; decide
    refine ⟨_, Z.suite (Z.pss_cons (Z.ps_if (Z.pt_cmpR op_eq (Z.pe_op op_modW (Z.pw 5) Z.pe_int) Z.pe_int (nomark _))
      (Z.pss_one (Z.ps_ret (Z.pe_tup (Z.pa_cons Z.pe_str (Z.pa_cons (Z.pe_ix ix_list (Z.pe_lst (Z.pa_cons Z.pe_str (Z.pa_cons Z.pe_str (Z.pa_cons Z.pe_str (Z.pa_cons Z.pe_str (Z.pa_cons Z.pe_str Z.pa_nil)))))) (Z.pe_op op_modW (Z.pe_op op_fdivW (Z.pw 5) Z.pe_int) Z.pe_int) (fun _ _ => rfl)) Z.pa_nil)))))
      Z.pss_nil)
      (Z.pss_cons (Z.ps_if (Z.pt_cmpR op_eq (Z.pe_op op_modW (Z.pw 5) Z.pe_int) Z.pe_int (nomark _))
      (Z.pss_one (Z.ps_ret (Z.pe_call GF hr (by rfl) mF kF bF .nil pass0 (Z.pa_cons (Z.pw 0) (Z.pa_cons (Z.pw 1) (Z.pa_cons (Z.pw 2) (Z.pa_cons (Z.pw 3) (Z.pa_cons (Z.pw 4) (Z.pa_cons (Z.pe_op op_modW (Z.pe_op op_fdivW (Z.pw 5) Z.pe_int) Z.pe_int) Z.pa_nil)))))))))
      Z.pss_nil)
      (Z.pss_one (Z.ps_ret (Z.pe_tup (Z.pa_cons Z.pe_str (Z.pa_cons (Z.pe_call GS hr (by rfl) mS kS bS .nil pass0 (Z.pa_cons (Z.pw 0) (Z.pa_cons (Z.pw 1) (Z.pa_cons (Z.pe_lst Z.pa_nil) (Z.pa_cons Z.pe_non (Z.pa_cons (Z.pw 4) Z.pa_nil)))))) Z.pa_nil))))))), ?_⟩
    refine ⟨(by show (0 : Int) < _; decide), rfl, _, rfl, ite2 (fun _ => ?_) (fun _ => ?_)⟩
    · refine ⟨z5, fun t1 ht1 => ?_⟩
      obtain ⟨n, en⟩ := five_at (mo / 4)
      have s1 := same_upd (o := .lst [.str "add", .str "sub", .str "less", .str "adds", .str "x"]) ht1
      have f1 : upd H t1 (.lst [.str "add", .str "sub", .str "less", .str "adds", .str "x"]) t1 = some (.lst [.str "add", .str "sub", .str "less", .str "adds", .str "x"]) := upd_same
      generalize upd H t1 (.lst [.str "add", .str "sub", .str "less", .str "adds", .str "x"]) = H1 at s1 f1 ⊢
      refine ⟨⟨by decide, by decide⟩, (by show (0 : Int) < _; decide), t1, _, _, _, rfl, rfl, SqL.of f1, en, z2, fun t2 ht2 => ?_⟩
      have s2 := same_upd (o := .tup [.str "free", .str n]) ht2
      have f2 : upd H1 t2 (.tup [.str "free", .str n]) t2 = some (.tup [.str "free", .str n]) := upd_same
      generalize upd H1 t2 (.tup [.str "free", .str n]) = H2 at s2 f2 ⊢
      have s12 := s1.trans s2
      exact q _ (.free n) _ m z (Nat.le_refl _) (hM.same s12) (Int.le_refl _) (Kp2.of s12) (core_free f2) (gd_free _ _ _)
    · refine ⟨(by show (0 : Int) < _; decide), rfl, _, rfl, ite2 (fun _ => ?_) (fun _ => ?_)⟩
      · obtain ⟨j, hj, hj2⟩ := fourths mo
        refine ⟨⟨by decide, by decide⟩, (by show (0 : Int) < _; decide), ?_⟩
        dsimp only
        rw [hj]
        exact ⟨Dr, Kn, Cn, tv, m, j, z, some t, ks, rfl, hj2, hM, hT, hK, by lia, fun H1 ps b v m1 z1 hm1 hM1 hz1 k1 hc1 hpl hnd hps hg1 => q _ (.fn ps b) _ m1 z1 (Nat.le_trans hm1 (Nat.sub_le _ _)) hM1 hz1 k1 hc1 (gd_fn hg1)⟩
      · refine ⟨Nat.zero_le _, fun t1 ht1 => ?_⟩
        have s1 := same_upd (o := .lst []) ht1
        have f1 : upd H t1 (.lst []) t1 = some (.lst []) := upd_same
        generalize upd H t1 (.lst []) = H1 at s1 f1 ⊢
        obtain ⟨n1, n2⟩ := hM.old ht1
        refine ⟨Dr, t1, Cn, .non, m, z, none, [], rfl, hM.same s1, rfl, ⟨f1, (fun k hk => nomatch hk), n1, n2⟩, (by show 0 + 10 * d ≤ 1000; lia), fun H2 c v m2 z2' hm2 hM2 hz2 k2 hc2 hg2 => ⟨z2, fun t3 ht3 => ?_⟩⟩
        have s3 := same_upd (o := .tup [.str "now", v]) ht3
        have f3 : upd H2 t3 (.tup [.str "now", v]) t3 = some (.tup [.str "now", v]) := upd_same
        generalize upd H2 t3 (.tup [.str "now", v]) = H3 at s3 f3 ⊢
        exact q _ (.now c) _ m2 z2' (Nat.le_trans hm2 (Nat.sub_le _ _)) (hM2.same s3) hz2 (((Kp2.of s1).trans k2).trans (Kp2.of s3)) (core_now f3 (hc2.tup (Tup.of s3))) (gd_now hd3 hg2)
end
end K69

set_option Elab.async false
set_option linter.all false
set_option maxRecDepth 100000
set_option maxHeartbeats 4000000
set_option exponentiation.threshold 3000
/-! k69: a sum. Own work. -/
namespace K69
open PySem L2 Builtin.Str MC
abbrev NSum : List Str := ["_law_draws_here", "_law_depth", "_law_known", "_law_tops", "_law_count", "_law_cell", "_law_kind", "_law_more", "_law_name", "_law_parts", "_law_top"]
theorem lep {a b c : Nat} (h : a ≤ b - 1) (g : b ≤ c) : a ≤ c := Nat.le_trans h (Nat.le_trans (Nat.sub_le _ _) g)
theorem three_at (z : Int) (h1 : 2 ≤ z) (h2 : z < 5) : ∃ n : Str, atI [V.str "add", V.str "sub", V.str "less"] (z - 2) = some (.str n) ∧ n ∈ OPS := by
  obtain ⟨n, e, h⟩ := ops_at (z - 2)
  rw [Int.emod_eq_of_lt (by lia) (by lia)] at e
  exact ⟨n, e, h⟩
section
variable {P : Program} {w : World} {K : PySem.W.Frag} {mg : Str → Option Value} {base : Heap} {C op : Addr}
theorem scSum : FnScope NSum pFive (defScope sSum) := ⟨rfl, rfl, rfl, by decide +kernel, rfl, by decide +kernel, by decide +kernel⟩
theorem sum_step {f fX fL fM fD fO : Addr} {fd fdX fdL fdM fdD fdO : FuncData} {k d : Nat} {spM spD spO spS : Sp} (F : Fun K "_law_sum" "_law_sum" sSum f fd) (T : MT K mg C op) (hd4 : d ≤ 4)
    (FX : Fun K "_law_next" "_law_next" sNext fX fdX) (bX : Binds K fdX ["_law_draws_here"] []) (mX : mg "_law_next" = some (.ref fX))
    (FL : Fun K "_law_leaf" "_law_leaf" sLeaf fL fdL) (bL : Binds K fdL ["_law_cell", "_law_known"] []) (mL : mg "_law_leaf" = some (.ref fL))
    (bS : Binds K fd pFive []) (mS : mg "_law_sum" = some (.ref f)) (GS : FnOk P w K mg base CX0 (k + 1) f fd pFive spS)
    (kM : PySem.W.keepIn K (.ref fM) = true) (bM : Binds K fdM pSix []) (mM : mg "_law_many" = some (.ref fM)) (GM : FnOk P w K mg base CX0 (k + 1) fM fdM pSix spM)
    (kD : PySem.W.keepIn K (.ref fD) = true) (bD : Binds K fdD pMore []) (mD : mg "_law_called" = some (.ref fD)) (GD : FnOk P w K mg base CX0 (k + 1) fD fdD pMore spD)
    (kO : PySem.W.keepIn K (.ref fO) = true) (bO : Binds K fdO pMore []) (mO : mg "_law_odd" = some (.ref fO)) (GO : FnOk P w K mg base CX0 (k + 1) fO fdO pMore spO)
    (hM' : ∀ e, d = e + 1 → spM = spMany e) (hD' : ∀ e, d = e + 1 → spD = spCalled e) (hO' : ∀ e, d = e + 1 → spO = spOdd e) (hS' : ∀ e, d = e + 1 → spS = spSum e) : FnOk P w K mg base CX0 (k + 2) f fd pFive (spSum d) := by
  have GX : FnOk P w K mg base CX0 (k + 1) fX fdX ["_law_draws_here"] spNext := (ok_next FX T).mono (by lia)
  have GL : FnOk P w K mg base CX0 (k + 1) fL fdL ["_law_cell", "_law_known"] spLeaf := (ok_leaf FL T).mono (by lia)
  refine F.ok scSum (fun vs H Q E h => ?_) (fun cdv A outer s H vs Q E hr h => ?_)
  · obtain ⟨Dr, Kn, Cn, tv, m, z, tops, ks, rfl, _⟩ := h; rfl
  · obtain ⟨Dr, Kn, Cn, tv, m, z, tops, ks, rfl, hM, hT, hK, hkl, q⟩ := h
    have nd := scSum.nd
    have hu := hu_of hr
    have z2 : 2 ≤ sizeLine := by rw [sizeLine_eq]; decide
    have z3 : 3 ≤ sizeLine := by rw [sizeLine_eq]; decide
    have z4 : 4 ≤ sizeLine := by rw [sizeLine_eq]; decide
    -- what the rest works with
    have many : ∀ (j : Nat) (H1 : Hp) (m1 : Nat) (Q' : VK) (E' : XK) (e : Nat), d = e + 1 → j ≤ 3 → Mk H1 Dr Cn m1 z → m1 ≤ m - 1 → Kp2 H H1 Dr Cn →
        (∀ (H' : Hp) (t : Addr) (xs : List V) (cs : List Core) (m' : Nat) (z' : Int), m' ≤ m - 1 → Mk H' Dr Cn m' z' → z ≤ z' → Kp2 H1 H' Dr Cn → Kp2 H H' Dr Cn → H' t = some (.tup xs) → Al (CoreIn H') cs xs → cs.length = j → (∀ c ∈ cs, Gd tops e ks c) → Q' (.ref t) H') → spM [.ref Dr, .int ((d : Int) - 1), .ref Kn, tv, .ref Cn, .int (j : Int)] H1 Q' E' := fun j H1 m1 Q' E' e he hj hM1 hm1 k1 g => by
      rw [hM' e he]
      exact ⟨Dr, Kn, Cn, tv, m1, j, z, tops, ks, by rw [show ((d : Int) - 1) = (e : Int) by lia], hj, hM1, hT.keep hM k1, hK.keep k1 (Int.le_refl _), by lia, fun H' t xs cs m' z' hm' hM2 hz' k2 ht hal hcl hcs => g H' t xs cs m' z' (Nat.le_trans hm' hm1) hM2 hz' k2 (k1.trans k2) ht hal hcl hcs⟩
    have leafs : ∀ (H1 : Hp) (m1 : Nat) (mo : Int), Mk H1 Dr Cn m1 z → m1 ≤ m - 1 → Kp2 H H1 Dr Cn → ∃ (c' : Int) (kl : Addr) (ks' : List Int), [V.int mo, .ref Kn] = [.int c', .ref kl] ∧ H1 kl = some (.lst (ks'.map V.int)) ∧ ks'.length ≤ 100000 ∧ ∀ (H' : Hp) (kk : Core) (v : V), Same H1 H' → CoreIn H' kk v → LfOk ks' kk → Q v H' := fun H1 m1 mo hM1 hm1 k1 =>
      ⟨mo, Kn, ks, rfl, (hK.keep k1 (Int.le_refl z)).is, by lia, fun H' kk v s' hc hl => q H' kk v m1 z hm1 (hM1.same s') (Int.le_refl _) (k1.trans (Kp2.of s')) hc (gd_leaf d hl)⟩
    have R9 : ∃ t : TS, PSs (cxOf CX0 P w K mg base NSum "_law_sum" (defScope sSum) f cdv A outer s H E).nox ((defBody sSum).drop 8) t ∧
        ∀ (c kd mo : Int) (m1 : Nat) (H1 : Hp) (e : Nat), 10 ≤ kd → d = e + 1 → Mk H1 Dr Cn m1 z → m1 ≤ m - 1 → Kp2 H H1 Dr Cn →
          t { nx := fun _ H' => Q .non H', rt := Q } [some (.ref Dr), some (.int (d : Int)), some (.ref Kn), some tv, some (.ref Cn), some (.int c), some (.int kd), some (.int mo), none, none, none] H1 := by
      refine ⟨_, Z.suite (Z.pss_cons (Z.ps_if (Z.pt (Z.pw_or (Z.pt_cmpR op_isN (Z.pw 3) Z.pe_non (nomark _)) (Z.pw_or1 (Z.pt (Z.pw_and (Z.pt_cmpR op_eq (Z.pw 6) Z.pe_int (nomark _)) (Z.pw_and1 (Z.pt_cmpR (op_eqE hu) (Z.pw 3) (Z.pe_lst Z.pa_nil) (nomark _))))))))
      (Z.pss_one (Z.ps_ret (Z.pe_call GL hr (by rfl) mL FL.kp bL .nil pass0 (Z.pa_cons (Z.pw 7) (Z.pa_cons (Z.pw 2) Z.pa_nil)))))
      Z.pss_nil)
      (Z.pss_cons (Z.ps_if (Z.pt_cmpR op_eq (Z.pw 6) Z.pe_int (nomark _))
      (Z.pss_cons (Z.ps_set (i := 10) nd rfl (Or.inl rfl) (Z.pe_ix ix_list (Z.pw 3) (Z.pe_op op_modW (Z.pw 7) (Z.pe_callB call_len_seq (by rfl) T.len bt_len (Z.pa_cons (Z.pw 3) Z.pa_nil))) (fun _ _ => rfl)))
        (Z.pss_one (Z.ps_ret (Z.pe_tup (Z.pa_cons Z.pe_str (Z.pa_cons (Z.pe_tup (Z.pa_cons Z.pe_str (Z.pa_cons (Z.pe_iwT 10) Z.pa_nil))) (Z.pa_cons (Z.pe_call GM hr (by rfl) mM kM bM .nil pass0 (Z.pa_cons (Z.pw 0) (Z.pa_cons (Z.pe_op op_subW (Z.pw 1) Z.pe_int) (Z.pa_cons (Z.pw 2) (Z.pa_cons (Z.pw 3) (Z.pa_cons (Z.pw 4) (Z.pa_cons (Z.pe_iwT 10) Z.pa_nil))))))) Z.pa_nil)))))))
      Z.pss_nil)
      (Z.pss_one (Z.ps_ret (Z.pe_call GO hr (by rfl) mO kO bO .nil pass0 (Z.pa_cons (Z.pw 0) (Z.pa_cons (Z.pe_op op_subW (Z.pw 1) Z.pe_int) (Z.pa_cons (Z.pw 2) (Z.pa_cons (Z.pw 3) (Z.pa_cons (Z.pw 4) (Z.pa_cons (Z.pw 7) Z.pa_nil))))))))))), ?_⟩
      intro c kd mo m1 H1 e hkd he hM1 hm1 k1
      have hT1 := hT.keep hM k1
      cases tops with
      | none =>
        have etv : tv = .non := hT1
        subst etv
        exact ⟨rfl, true, rfl, iteT (iteT (leafs H1 m1 mo hM1 hm1 k1))⟩
      | some tp =>
        obtain ⟨Tp, l, etv, hTp, hal, nT1, nT2, ht2⟩ := id hT1
        subst etv
        refine ⟨rfl, false, rfl, iteF ?_⟩
        by_cases hk10 : kd = 10
        · refine ⟨rfl, true, congrArg V.bl (decide_eq_true (show V.int kd = V.int 10 by rw [hk10])), iteT ?_⟩
          refine ⟨Nat.zero_le _, fun t2 ht2' => ?_⟩
          have s2 := same_upd (o := .lst []) ht2'
          have f2 : upd H1 t2 (.lst []) t2 = some (.lst []) := upd_same
          generalize upd H1 t2 (.lst []) = H2 at s2 f2 ⊢
          by_cases hl : l = []
          · refine ⟨Tp, t2, l, rfl, rfl, SqL.of (s2 _ _ hTp), SqL.of f2, true, ⟨fun _ => hl, fun _ => rfl⟩, true, rfl, iteT ?_⟩
            exact (leafs H2 m1 mo (hM1.same s2) hm1 (k1.trans (Kp2.of s2)))
          · refine ⟨Tp, t2, l, rfl, rfl, SqL.of (s2 _ _ hTp), SqL.of f2, false, ⟨(fun e => nomatch e), fun e => absurd e hl⟩, false, rfl, iteF ?_⟩
            refine ⟨rfl, true, congrArg V.bl (decide_eq_true (show V.int kd = V.int 10 by rw [hk10])), iteT ?_⟩
            have hpos : 0 < l.length := List.length_pos_iff.mpr hl
            obtain ⟨tt, ett, htt⟩ := at_mod (xs := l) mo (n := l.length) rfl hpos
            obtain ⟨jj, ej⟩ := List.getElem?_of_mem htt
            obtain ⟨ar, ear, ⟨ta, p, rfl, hta⟩⟩ := hal.at ej
            have har := ht2 ar (List.mem_of_getElem? ear)
            refine ⟨Tp, _, rfl, .inl (SqL.of (s2 _ _ hTp)), (by show (0 : Int) < _; lia), Tp, _, _, _, rfl, rfl, SqL.of (s2 _ _ hTp), ett, ?_⟩
            refine ⟨_, s2 _ _ hta, z2, fun t3 ht3 => ?_⟩
            have s3 := same_upd (o := .tup [.str "seen", .int p]) ht3
            have f3 : upd H2 t3 (.tup [.str "seen", .int p]) t3 = some (.tup [.str "seen", .int p]) := upd_same
            generalize upd H2 t3 (.tup [.str "seen", .int p]) = H3 at s3 f3 ⊢
            have s13 := s2.trans s3
            refine ⟨_, s13 _ _ hta, ax_of rfl ?_⟩
            refine many ar H3 m1 _ _ e he (by lia) (hM1.same s13) hm1 (k1.trans (Kp2.of s13)) fun H5 t xs cs m5 z5 hm5 hM5 hz5 k35 k5 ht hal5 hcl hcs => ⟨z3, fun t6 ht6 => ?_⟩
            have s6 := same_upd (o := .tup [.str "call", .ref t3, .ref t]) ht6
            have f6 : upd H5 t6 (.tup [.str "call", .ref t3, .ref t]) t6 = some (.tup [.str "call", .ref t3, .ref t]) := upd_same
            generalize upd H5 t6 (.tup [.str "call", .ref t3, .ref t]) = H6 at s6 f6 ⊢
            have tp35 := (hM1.same s13).tups k35
            refine q _ (.call (.seen p) (Cores.of cs)) _ m5 z5 hm5 (hM5.same s6) hz5 (k5.trans (Kp2.of s6)) (core_call f6 (s6 _ _ ht) (core_seen (s6 _ _ (tp35 _ _ f3))) (hal5.mono fun _ _ r => r.tup (Tup.of s6))) ?_
            rw [he]
            exact gd_top hcs (by lia)
        · have no : V.bl (decide (V.int kd = V.int 10)) = V.bl false := congrArg V.bl (decide_eq_false (fun z => hk10 (by injection z)))
          refine ⟨rfl, false, no, iteF (iteF ?_)⟩
          refine ⟨rfl, false, no, iteF ?_⟩
          refine ?_
          rw [hO' e he]
          refine ⟨Dr, Kn, Cn, .ref Tp, m1, z, mo, tp, ks, (by dsimp only; rw [show ((d : Int) - 1) = (e : Int) by lia]; rfl), hM1, hT1, hK.keep k1 (Int.le_refl _), by lia, fun H5 c5 v m5 z5 hm5 hM5 hz5 k5 hc5 hg5 => q _ c5 _ m5 z5 (Nat.le_trans hm5 hm1) hM5 hz5 (k1.trans k5) hc5 (by rw [he]; exact hg5)⟩
    obtain ⟨t8', h8, r8⟩ := R9
    have R4 : ∃ t : TS, PSs (cxOf CX0 P w K mg base NSum "_law_sum" (defScope sSum) f cdv A outer s H E).nox ((defBody sSum).drop 4) t ∧
        ∀ (c kd mo : Int) (m1 : Nat) (H1 : Hp) (e : Nat), 2 ≤ kd → kd < 12 → d = e + 1 → Mk H1 Dr Cn m1 z → m1 ≤ m - 1 → Kp2 H H1 Dr Cn →
          t { nx := fun _ H' => Q .non H', rt := Q } [some (.ref Dr), some (.int (d : Int)), some (.ref Kn), some tv, some (.ref Cn), some (.int c), some (.int kd), some (.int mo), none, none, none] H1 := by
      refine ⟨_, Z.suite (Z.pss_cons (Z.ps_if (Z.pt_cmpR op_ltW (Z.pw 6) Z.pe_int (nomark _))
      (Z.pss_cons (Z.ps_set (i := 8) nd rfl (Or.inl rfl) (Z.pe_ix ix_list (Z.pe_lst (Z.pa_cons Z.pe_str (Z.pa_cons Z.pe_str (Z.pa_cons Z.pe_str Z.pa_nil)))) (Z.pe_op op_subW (Z.pw 6) Z.pe_int) (fun _ _ => rfl)))
        (Z.pss_one (Z.ps_ret (Z.pe_tup (Z.pa_cons Z.pe_str (Z.pa_cons (Z.pe_tup (Z.pa_cons Z.pe_str (Z.pa_cons (Z.pw 8) Z.pa_nil))) (Z.pa_cons (Z.pe_call GM hr (by rfl) mM kM bM .nil pass0 (Z.pa_cons (Z.pw 0) (Z.pa_cons (Z.pe_op op_subW (Z.pw 1) Z.pe_int) (Z.pa_cons (Z.pw 2) (Z.pa_cons (Z.pw 3) (Z.pa_cons (Z.pw 4) (Z.pa_cons Z.pe_int Z.pa_nil))))))) Z.pa_nil)))))))
      Z.pss_nil)
      (Z.pss_cons (Z.ps_if (Z.pt_cmpR op_eq (Z.pw 6) Z.pe_int (nomark _))
      (Z.pss_cons (Z.ps_set (i := 9) nd rfl (Or.inl rfl) (Z.pe_call GM hr (by rfl) mM kM bM .nil pass0 (Z.pa_cons (Z.pw 0) (Z.pa_cons (Z.pe_op op_subW (Z.pw 1) Z.pe_int) (Z.pa_cons (Z.pw 2) (Z.pa_cons (Z.pw 3) (Z.pa_cons (Z.pw 4) (Z.pa_cons Z.pe_int Z.pa_nil))))))))
        (Z.pss_one (Z.ps_ret (Z.pe_tup (Z.pa_cons Z.pe_str (Z.pa_cons (Z.pe_iwT 9) (Z.pa_cons (Z.pe_iwT 9) (Z.pa_cons (Z.pe_iwT 9) Z.pa_nil))))))))
      Z.pss_nil)
      (Z.pss_cons (Z.ps_if (Z.pt (Z.pw_or (Z.pt_cmpR op_eq (Z.pw 6) Z.pe_int (nomark _)) (Z.pw_or1 (Z.pt_cmpR op_eq (Z.pw 6) Z.pe_int (nomark _)))))
      (Z.pss_one (Z.ps_ret (Z.pe_call GD hr (by rfl) mD kD bD .nil pass0 (Z.pa_cons (Z.pw 0) (Z.pa_cons (Z.pe_op op_subW (Z.pw 1) Z.pe_int) (Z.pa_cons (Z.pw 2) (Z.pa_cons (Z.pw 3) (Z.pa_cons (Z.pw 4) (Z.pa_cons (Z.pw 7) Z.pa_nil)))))))))
      Z.pss_nil)
      (Z.pss_cons (Z.ps_if (Z.pt_cmpR op_ltW (Z.pw 6) Z.pe_int (nomark _))
      (Z.pss_one (Z.ps_ret (Z.pe_tup (Z.pa_cons Z.pe_str (Z.pa_cons (Z.pe_call GS hr (by rfl) mS F.kp bS .nil pass0 (Z.pa_cons (Z.pw 0) (Z.pa_cons (Z.pe_op op_subW (Z.pw 1) Z.pe_int) (Z.pa_cons (Z.pe_lst Z.pa_nil) (Z.pa_cons Z.pe_non (Z.pa_cons (Z.pw 4) Z.pa_nil)))))) Z.pa_nil)))))
      Z.pss_nil) (Z.given h8))))), ?_⟩
      intro c kd mo m1 H1 e hk2 hk12 he hM1 hm1 k1
      refine ⟨decide (kd < 5), rfl, ite2 (fun c1 => ?_) (fun c1 => ?_)⟩
      · refine ⟨z3, fun t2 ht2 => ?_⟩
        have s2 := same_upd (o := .lst [.str "add", .str "sub", .str "less"]) ht2
        have f2 : upd H1 t2 (.lst [.str "add", .str "sub", .str "less"]) t2 = some (.lst [.str "add", .str "sub", .str "less"]) := upd_same
        generalize upd H1 t2 (.lst [.str "add", .str "sub", .str "less"]) = H2 at s2 f2 ⊢
        obtain ⟨n, en, hn⟩ := three_at kd hk2 (of_decide_eq_true c1)
        refine ⟨t2, _, _, _, rfl, rfl, SqL.of f2, en, ?_⟩
        refine ⟨z2, fun t3 ht3 => ?_⟩
        have s3 := same_upd (o := .tup [.str "free", .str n]) ht3
        have f3 : upd H2 t3 (.tup [.str "free", .str n]) t3 = some (.tup [.str "free", .str n]) := upd_same
        generalize upd H2 t3 (.tup [.str "free", .str n]) = H3 at s3 f3 ⊢
        have s13 := s2.trans s3
        refine (many 2 H3 m1 _ _ e he (by decide) (hM1.same s13) hm1 (k1.trans (Kp2.of s13)) fun H5 t xs cs m5 z5 hm5 hM5 hz5 k35 k5 ht hal5 hcl hcs => ⟨z3, fun t6 ht6 => ?_⟩)
        have s6 := same_upd (o := .tup [.str "call", .ref t3, .ref t]) ht6
        have f6 : upd H5 t6 (.tup [.str "call", .ref t3, .ref t]) t6 = some (.tup [.str "call", .ref t3, .ref t]) := upd_same
        generalize upd H5 t6 (.tup [.str "call", .ref t3, .ref t]) = H6 at s6 f6 ⊢
        obtain ⟨a, b, rfl⟩ := two_of hcl
        refine q _ (.call (.free n) (Cores.of [a, b])) _ m5 z5 hm5 (hM5.same s6) hz5 (k5.trans (Kp2.of s6)) (core_call f6 (s6 _ _ ht) (core_free (s6 _ _ ((hM1.same s13).tups k35 _ _ f3))) (hal5.mono fun _ _ r => r.tup (Tup.of s6))) ?_
        rw [he]
        exact gd_op hn (hcs a (by simp)) (hcs b (by simp))
      · refine ⟨rfl, _, rfl, ite2 (fun _ => ?_) (fun _ => ?_)⟩
        · refine (many 3 H1 m1 _ _ e he (by decide) hM1 hm1 k1 fun H5 t xs cs m5 z5 hm5 hM5 hz5 k15 k5 ht hal5 hcl hcs => ?_)
          obtain ⟨a, b, c3, rfl⟩ := three_of hcl
          obtain ⟨x1, xr, rfl, g1, hal5⟩ := hal5.uncons
          obtain ⟨x2, xr, rfl, g2, hal5⟩ := hal5.uncons
          obtain ⟨x3, xr, rfl, g3, hal5⟩ := hal5.uncons
          have e0 := hal5.nil_of
          subst e0
          refine ⟨_, ht, _, ht, _, ht, z4, fun t6 ht6 => ?_⟩
          have s6 := same_upd (o := .tup [.str "pick", x1, x2, x3]) ht6
          have f6 : upd H5 t6 (.tup [.str "pick", x1, x2, x3]) t6 = some (.tup [.str "pick", x1, x2, x3]) := upd_same
          generalize upd H5 t6 (.tup [.str "pick", x1, x2, x3]) = H6 at s6 f6 ⊢
          have tb := Tup.of s6
          refine q _ (.pick a b c3) _ m5 z5 hm5 (hM5.same s6) hz5 (k5.trans (Kp2.of s6)) (core_pick f6 (g1.tup tb) (g2.tup tb) (g3.tup tb)) ?_
          rw [he]
          exact gd_pick (hcs a (by simp)) (hcs b (by simp)) (hcs c3 (by simp))
        · have called : spD [.ref Dr, .int ((d : Int) - 1), .ref Kn, tv, .ref Cn, .int mo] H1 Q E0 := by
            rw [hD' e he]
            exact ⟨Dr, Kn, Cn, tv, m1, z, mo, tops, ks, by rw [show ((d : Int) - 1) = (e : Int) by lia], hM1, hT.keep hM k1, hK.keep k1 (Int.le_refl _), by lia, fun H5 c5 v m5 z5 hm5 hM5 hz5 k5 hc5 hg5 => q _ c5 _ m5 z5 (Nat.le_trans hm5 hm1) hM5 hz5 (k1.trans k5) hc5 (by rw [he]; exact hg5)⟩
          refine ⟨rfl, _, rfl, ite2 (fun _ => iteT called) (fun n6 => ⟨rfl, _, rfl, ite2 (fun _ => called) (fun n7 => ?_)⟩)⟩
          refine ⟨decide (kd < 10), rfl, ite2 (fun _ => ?_) (fun c10 => ?_)⟩
          · refine ⟨Nat.zero_le _, fun t2 ht2 => ?_⟩
            have s2 := same_upd (o := .lst []) ht2
            have f2 : upd H1 t2 (.lst []) t2 = some (.lst []) := upd_same
            generalize upd H1 t2 (.lst []) = H2 at s2 f2 ⊢
            obtain ⟨n1, n2⟩ := hM1.old ht2
            refine ?_
            rw [hS' e he]
            refine ⟨Dr, t2, Cn, .non, m1, z, none, [], (by dsimp only; rw [show ((d : Int) - 1) = (e : Int) by lia]; rfl), hM1.same s2, rfl, ⟨f2, (fun k hk => nomatch hk), n1, n2⟩, (by show 0 + 10 * e ≤ 1000; lia), fun H5 c5 v m5 z5 hm5 hM5 hz5 k5 hc5 hg5 => ⟨z2, fun t6 ht6 => ?_⟩⟩
            have s6 := same_upd (o := .tup [.str "now", v]) ht6
            have f6 : upd H5 t6 (.tup [.str "now", v]) t6 = some (.tup [.str "now", v]) := upd_same
            generalize upd H5 t6 (.tup [.str "now", v]) = H6 at s6 f6 ⊢
            refine q _ (.now c5) _ m5 z5 (lep hm5 hm1) (hM5.same s6) hz5 (((k1.trans (Kp2.of s2)).trans k5).trans (Kp2.of s6)) (core_now f6 (hc5.tup (Tup.of s6))) ?_
            rw [he]
            exact gd_now (by lia) hg5
          · have h10 : ¬ kd < 10 := fun z => c10 (decide_eq_true z)
            exact r8 c kd mo m1 H1 e (by lia) he hM1 hm1 k1
    obtain ⟨t4', h4, r4⟩ := R4
    refine ⟨_, pss_cons (ps_set (i := 5) nd rfl (Or.inl rfl) (pe_call GX hr (by rfl) mX FX.kp bX .nil pass0 (pa_cons (pw 0) pa_nil)))
      (pss_cons (ps_set (i := 6) nd rfl (Or.inl rfl) (pe_op op_modW (pw 5) pe_int))
      (pss_cons (ps_set (i := 7) nd rfl (Or.inl rfl) (pe_op op_fdivW (pw 5) pe_int))
      (pss_cons (ps_if (PW.pt (pw_or (pt_cmpR op_eq (pw 1) pe_int (nomark _)) (pw_or1 (pt_cmpR op_ltW (pw 6) pe_int (nomark _)))))
      (pss_one (ps_ret (pe_call GL hr (by rfl) mL FL.kp bL .nil pass0 (pa_cons (pw 7) (pa_cons (pw 2) pa_nil)))))
      pss_nil) h4))), ?_⟩
    obtain ⟨ms, hdr, hml⟩ := hM.dr
    refine ⟨Dr, ms, rfl, hdr, fun H1 c ms' hdr1 hml1 k1 => ?_⟩
    have hM1 := hM.next k1 hdr1 (m' := m - 1) (by lia)
    have k1' : Kp2 H H1 Dr Cn := fun a o n _ e => k1 a o n e
    refine ⟨(by show (0 : Int) < _; decide), ?_⟩
    refine ⟨⟨by decide, by decide⟩, ?_⟩
    refine ⟨rfl, decide ((d : Int) = 0), bl_I, ite2 (fun _ => iteT (leafs H1 (m - 1) _ hM1 (Nat.le_refl _) k1')) (fun e1 => ⟨decide (c % 12 < 2), rfl, ite2 (fun _ => (leafs H1 (m - 1) _ hM1 (Nat.le_refl _) k1')) (fun e2 => ?_)⟩)⟩
    have hc2 : ¬ c % 12 < 2 := fun z => e2 (decide_eq_true z)
    obtain ⟨e, he⟩ : ∃ e, d = e + 1 := ⟨d - 1, by have : ¬ ((d : Int) = 0) := fun z => e1 (decide_eq_true z); lia⟩
    exact r4 c _ _ (m - 1) H1 e (by lia) (Int.emod_lt_of_pos _ (by decide)) he hM1 (Nat.le_refl _) k1'
theorem ok_sum {f fX fL fF fM fW fD fO : Addr} {fd fdX fdL fdF fdM fdW fdD fdO : FuncData} (F : Fun K "_law_sum" "_law_sum" sSum f fd) (T : MT K mg C op) (bS : Binds K fd pFive []) (mS : mg "_law_sum" = some (.ref f))
    (FX : Fun K "_law_next" "_law_next" sNext fX fdX) (bX : Binds K fdX ["_law_draws_here"] []) (mX : mg "_law_next" = some (.ref fX))
    (FL : Fun K "_law_leaf" "_law_leaf" sLeaf fL fdL) (bL : Binds K fdL ["_law_cell", "_law_known"] []) (mL : mg "_law_leaf" = some (.ref fL))
    (FW : Fun K "_law_new" "_law_new" sNew fW fdW) (bW : Binds K fdW ["_law_count", "_law_many_here"] []) (mW : mg "_law_new" = some (.ref fW))
    (FF : Fun K "_law_fn" "_law_fn" sFn fF fdF) (bF : Binds K fdF pSix []) (mF : mg "_law_fn" = some (.ref fF))
    (FM : Fun K "_law_many" "_law_many" sMany fM fdM) (bM : Binds K fdM pSix []) (mM : mg "_law_many" = some (.ref fM))
    (FD : Fun K "_law_called" "_law_called" sCalled fD fdD) (bD : Binds K fdD pMore []) (mD : mg "_law_called" = some (.ref fD))
    (FO : Fun K "_law_odd" "_law_odd" sOdd fO fdO) (bO : Binds K fdO pMore []) (mO : mg "_law_odd" = some (.ref fO)) : ∀ d, d ≤ 4 → FnOk P w K mg base CX0 (3 * d + 2) f fd pFive (spSum d)
  | 0, h => sum_step (k := 0) (spM := spNo) (spD := spNo) (spO := spNo) (spS := spNo) F T h FX bX mX FL bL mL bS mS fn_no FM.kp bM mM fn_no FD.kp bD mD fn_no FO.kp bO mO fn_no (fun e h => by lia) (fun e h => by lia) (fun e h => by lia) (fun e h => by lia)
  | d + 1, h => by
    have G := ok_sum F T bS mS FX bX mX FL bL mL FW bW mW FF bF mF FM bM mM FD bD mD FO bO mO d (by lia)
    have GF := ok_fn (k := 3 * d + 1) FF T FW bW mW F.kp bS mS G
    have GM := ok_many (k := 3 * d + 1) FM T F.kp bS mS G
    have GD := ok_called (k := 3 * d + 2) FD T FW bW mW FF.kp bF mF GF FM.kp bM mM GM
    have GO := ok_odd (k := 3 * d + 2) FO T (by lia) FF.kp bF mF GF F.kp bS mS (G.mono (by lia))
    exact sum_step (k := 3 * d + 3) (spM := spMany d) (spD := spCalled d) (spO := spOdd d) (spS := spSum d) F T h FX bX mX FL bL mL bS mS (G.mono (by lia)) FM.kp bM mM (GM.mono (by lia)) FD.kp bD mD GD FO.kp bO mO GO (fun e h => by rw [Nat.add_right_cancel h]) (fun e h => by rw [Nat.add_right_cancel h]) (fun e h => by rw [Nat.add_right_cancel h]) (fun e h => by rw [Nat.add_right_cancel h])
end
end K69

set_option Elab.async false
set_option linter.all false
set_option maxRecDepth 100000
set_option maxHeartbeats 4000000
set_option exponentiation.threshold 3000
/-! k69: the law's items. Own work. -/
namespace K69
open PySem L2 Builtin.Str MC
def hsOf : Option Int → List V
  | some p => [.str "def", .int p, .str "f"]
  | none => [.str "show"]
def ItF (H : Hp) (it : Item) (v : V) : Prop := ∃ t cv, v = .ref t ∧ H t = some (.tup (hsOf it.1 ++ [cv])) ∧ CoreIn H it.2 cv
theorem ItF.tup {H H' : Hp} (s : Tup H H') {it : Item} {v : V} (h : ItF H it v) : ItF H' it v := by
  obtain ⟨t, cv, e, h1, h2⟩ := h
  exact ⟨t, cv, e, s _ _ h1, h2.tup s⟩
def GoodIt (it : Item) : Prop := Nw it.2 ∧ it.2.sz ≤ 800 ∧ dp it.2 ≤ 20
def spItems : Sp := fun vs H Q _ => ∃ (Cl Cn : Addr) (hd z : Int) (cs : List Int), vs = [.ref Cl, .int hd, .ref Cn] ∧ H Cl = some (.lst (cs.map V.int)) ∧ cs.length ≤ 63 ∧ H Cn = some (.lst [.int z]) ∧ Cl ≠ Cn ∧
  ∀ (H' : Hp) (I : Addr) (iv : List V) (its : List Item), (∀ a o, a ≠ Cn → H a = some o → H' a = some o) → H' I = some (.lst iv) → Al (ItF H') its iv → (∀ it ∈ its, GoodIt it) → its.length ≤ 70 → Q (.ref I) H'
/-- the shows: their state -/
def ShW (σ0 σ1 σ4 σ7 σ8 : Option V) (Cn Dr Tp I : Addr) (H : Hp) (k : Nat) (σ : St) (H' : Hp) : Prop := ∃ (z : Int) (l : List V) (tops : List Nat) (its : List Item) (iv : List V), σ = [σ0, σ1, some (.ref Cn), some (.ref Dr), σ4, some (.ref Tp), some (.ref I), σ7, σ8] ∧ Mk H' Dr Cn k z ∧ H' Tp = some (.lst l) ∧ Al (TopIn H') tops l ∧ (∀ n ∈ tops, n ≤ 2) ∧ k + its.length ≤ 66 ∧ (∀ a o, a ≠ Cn → H a = some o → H' a = some o) ∧ H' I = some (.lst iv) ∧ Al (ItF H') its iv ∧ ∀ it ∈ its, GoodIt it
def ShN (σ0 σ1 σ4 σ7 σ8 : Option V) (Cn Dr Tp I : Addr) (H : Hp) (n : Nat) (σ : St) (H' : Hp) : Prop := ∃ k, k < n ∧ ShW σ0 σ1 σ4 σ7 σ8 Cn Dr Tp I H k σ H'
/-- the defs: their state -/
def DfW (σ0 σ4 : Option V) (hd : Int) (Cn Dr Tp I : Addr) (m : Nat) (H : Hp) (i : Nat) (σ : St) (H' : Hp) : Prop := ∃ (v7 v8 : Option V) (m' : Nat) (z : Int) (l : List V) (tops : List Nat) (its : List Item) (iv : List V), σ = [σ0, some (.int hd), some (.ref Cn), some (.ref Dr), σ4, some (.ref Tp), some (.ref I), v7, v8] ∧ m' ≤ m ∧ Mk H' Dr Cn m' z ∧ H' Tp = some (.lst l) ∧ Al (TopIn H') tops l ∧ tops.length = i ∧ (∀ n ∈ tops, n ≤ 2) ∧ (∀ a o, a ≠ Cn → H a = some o → H' a = some o) ∧ H' I = some (.lst iv) ∧ Al (ItF H') its iv ∧ its.length = i ∧ ∀ it ∈ its, GoodIt it
theorem good_sum {t : List Nat} {ks : List Int} {c : Core} (h : Gd (some t) 4 ks c) : GoodIt (none, c) := ⟨h.2.2, Nat.le_trans h.1 (by decide), Nat.le_trans h.2.1 (by decide)⟩
theorem good_fn {t : List Nat} {ks ps : List Int} {b : Core} (p : Int) (h : Gd (some t) 3 ks b) : GoodIt (some p, .fn ps b) := by
  obtain ⟨h1, h2, h3⟩ := gd_fn (ks := []) (ps := ps) h
  exact ⟨h3, Nat.le_trans h1 (by decide), Nat.le_trans h2 (by decide)⟩
section
variable {P : Program} {w : World} {K : PySem.W.Frag} {mg : Str → Option Value} {base : Heap} {C op : Addr}
abbrev NIt : List Str := ["_law_cells", "_law_head", "_law_count", "_law_draws_here", "_law_places", "_law_tops", "_law_items_here", "_law_place", "_law_many_here"]
theorem scItems : FnScope NIt ["_law_cells", "_law_head", "_law_count"] (defScope sItems) := ⟨rfl, rfl, rfl, by decide +kernel, rfl, by decide +kernel, by decide +kernel⟩
theorem items_r5 {f fS : Addr} {fdS : FuncData} {cdv : Value} {A : Around} {outer : List Env} {s : Shared} {H : Hp} {E : XK} {Q : VK} {k : Nat} {Cn : Addr} (T : MT K mg C op) (hr : Room k (cxOf CX0 P w K mg base NIt "_law_items" (defScope sItems) f cdv A outer s H E).nox.A)
    (kS : PySem.W.keepIn K (.ref fS) = true) (bS : Binds K fdS pFive []) (mS : mg "_law_sum" = some (.ref fS)) (GS : FnOk P w K mg base CX0 k fS fdS pFive (spSum 4))
    (q : ∀ (H' : Hp) (I : Addr) (iv : List V) (its : List Item), (∀ a o, a ≠ Cn → H a = some o → H' a = some o) → H' I = some (.lst iv) → Al (ItF H') its iv → (∀ it ∈ its, GoodIt it) → its.length ≤ 70 → Q (.ref I) H') : ∃ t : TS, PSs (cxOf CX0 P w K mg base NIt "_law_items" (defScope sItems) f cdv A outer s H E).nox ((defBody sItems).drop 5) t ∧
    ∀ (σ0 σ1 σ4 σ7 σ8 : Option V) (Dr Tp I : Addr) (m : Nat) (σ : St) (H1 : Hp), Tp ≠ Dr → Tp ≠ Cn → I ≠ Dr → I ≠ Cn → I ≠ Tp → H Dr = none → H I = none → ShW σ0 σ1 σ4 σ7 σ8 Cn Dr Tp I H m σ H1 →
      t { nx := fun _ H' => Q .non H', rt := Q } σ H1 := by
  have z2 : 2 ≤ sizeLine := by rw [sizeLine_eq]; decide
  refine ⟨_, (pss_cons (ps_while PassesOwn.never (pt_cmpR op_gtW (pe_callB call_len_seq (by rfl) T.len bt_len (pa_cons (pw 3) pa_nil)) pe_int (nomark _))
      (pss_one (ps_expr (pe_bm PySem.F.plainAttrs_list PySem.F.slot_list_append PySem.F.type_list_append mt_appW (pw 6) (pa_cons (pe_tup (pa_cons pe_str (pa_cons (pe_call GS hr (by rfl) mS kS bS .nil pass0 (pa_cons (pw 3) (pa_cons pe_int (pa_cons (pe_lst pa_nil) (pa_cons (pw 5) (pa_cons (pw 2) pa_nil)))))) pa_nil))) pa_nil)))))
      (pss_one (ps_ret (pw 6)))), ?_⟩
  intro σ0 σ1 σ4 σ7 σ8 Dr Tp I m σ H1 nT1 nT2 nI1 nI2 nI3 hDrn hIn h0
  refine ⟨ShW σ0 σ1 σ4 σ7 σ8 Cn Dr Tp I H, ⟨m, h0⟩, ?_⟩
  rintro k' σ H2 ⟨z, l, tops, its, iv, rfl, hM, hTp, hal, ht2, hkl, kH, hI, hit, hgd⟩
  obtain ⟨ms, hdr, hml⟩ := hM.dr
  refine ⟨Dr, _, rfl, .inl (SqL.of hdr), decide (0 < k'), congrArg V.bl (decide_eq_decide.mpr (by rw [List.length_map]; lia)), ite2 (fun c1 => ?_) (fun _ => ?_)⟩
  · have hk : 0 < k' := of_decide_eq_true c1
    refine ⟨ShN σ0 σ1 σ4 σ7 σ8 Cn Dr Tp I H k', (fun σ' H3 h => h), ?_⟩
    refine ⟨.inl ⟨rfl, _, SqL.of hI⟩, Nat.zero_le _, fun L hL => ?_⟩
    have s3 := same_upd (o := .lst []) hL
    have f3 : upd H2 L (.lst []) L = some (.lst (([] : List Int).map V.int)) := upd_same
    generalize upd H2 L (.lst []) = H3 at s3 f3 ⊢
    obtain ⟨nL1, nL2⟩ := hM.old hL
    have hT3 : TpIs H3 Dr Cn (some tops) (.ref Tp) := ⟨Tp, l, rfl, s3 _ _ hTp, hal.mono fun _ _ r => r.tup (Tup.of s3), nT1, nT2, ht2⟩
    refine ⟨Dr, L, Cn, .ref Tp, k', z, some tops, [], rfl, hM.same s3, hT3, ⟨f3, (fun k hk => nomatch hk), nL1, nL2⟩, (by show 0 + 10 * 4 ≤ 1000; decide), fun H4 c v m4 z4 hm4 hM4 hz4 k4 hc4 hg4 => ⟨z2, fun t5 ht5 => ?_⟩⟩
    have s5 := same_upd (o := .tup [.str "show", v]) ht5
    have f5 : upd H4 t5 (.tup [.str "show", v]) t5 = some (.tup [.str "show", v]) := upd_same
    generalize upd H4 t5 (.tup [.str "show", v]) = H5 at s5 f5 ⊢
    have k25 : Kp2 H2 H5 Dr Cn := ((Kp2.of s3).trans k4).trans (Kp2.of s5)
    have hI5 := k25 _ _ nI1 nI2 hI
    have tA : Tup H2 H5 := hM.tups k25
    have tk : Tup H5 (upd H5 I (.lst (iv ++ [.ref t5]))) := tuplst hI5
    have hil : iv.length ≤ 66 := by rw [hit.1]; lia
    refine ⟨iv, hI5, by rw [sizeLine_eq]; lia, m4, by lia, z4, l, tops, its ++ [(none, c)], iv ++ [.ref t5], rfl, (hM4.same s5).keep nI1 nI2 (fun a o na e => by rw [upd_ne na]; exact e), ?_, hal.mono fun _ _ r => r.tup (tA.trans tk), ht2, by rw [List.length_append, List.length_singleton]; lia, fun a o na e => ?_, upd_same, ?_, fun it hx => ?_⟩
    · rw [upd_ne (Ne.symm nI3)]; exact k25 _ _ nT1 nT2 hTp
    · rw [upd_ne (ne_of_none e hIn)]
      exact k25 _ _ (ne_of_none e hDrn) na (kH _ _ na e)
    · exact (hit.mono fun _ _ r => r.tup (tA.trans tk)).snoc ⟨t5, v, rfl, tk _ _ f5, hc4.tup ((Tup.of s5).trans tk)⟩
    · rcases List.mem_append.mp hx with hx | hx
      · exact hgd it hx
      · rw [List.mem_singleton.mp hx]; exact good_sum hg4
  · exact (q _ I iv its kH hI hit hgd (by lia))
theorem ok_items {f fW fF fS : Addr} {fd fdW fdF fdS : FuncData} (F : Fun K "_law_items" "_law_items" sItems f fd) (T : MT K mg C op)
    (FW : Fun K "_law_new" "_law_new" sNew fW fdW) (bW : Binds K fdW ["_law_count", "_law_many_here"] []) (mW : mg "_law_new" = some (.ref fW))
    (kF : PySem.W.keepIn K (.ref fF) = true) (bF : Binds K fdF pSix []) (mF : mg "_law_fn" = some (.ref fF)) (GF12 : FnOk P w K mg base CX0 12 fF fdF pSix (spFn 3))
    (kS : PySem.W.keepIn K (.ref fS) = true) (bS : Binds K fdS pFive []) (mS : mg "_law_sum" = some (.ref fS)) (GS : FnOk P w K mg base CX0 14 fS fdS pFive (spSum 4)) : FnOk P w K mg base CX0 15 f fd ["_law_cells", "_law_head", "_law_count"] spItems := by
  have GW : FnOk P w K mg base CX0 14 fW fdW ["_law_count", "_law_many_here"] spNew := (ok_new FW T).mono (by decide)
  have GF : FnOk P w K mg base CX0 14 fF fdF pSix (spFn 3) := GF12.mono (by decide)
  refine F.ok scItems (fun vs H Q E h => ?_) (fun cdv A outer s H vs Q E hr h => ?_)
  · obtain ⟨Cl, Cn, hd, z, cs, rfl, _⟩ := h; rfl
  · obtain ⟨Cl, Cn, hd, z, cs, rfl, hCl, hcl, hCn, nCl, q⟩ := h
    have nd := scItems.nd
    have z2 : 2 ≤ sizeLine := by rw [sizeLine_eq]; decide
    have z4 : 4 ≤ sizeLine := by rw [sizeLine_eq]; decide
    obtain ⟨t5', h5, r5⟩ := items_r5 (Q := Q) (Cn := Cn) T hr kS bS mS GS q
    refine ⟨_, pss_cons (ps_set (i := 3) nd rfl (Or.inl rfl) (pe_sliceS (pw 0) po_none po_none (po_some (pe_un un_neg pe_int))))
      (pss_cons (ps_set (i := 4) nd rfl (Or.inl rfl) (pe_call GW hr (by rfl) mW FW.kp bW .nil pass0 (pa_cons (pw 2) (pa_cons (pe_op op_modW (pw 1) pe_int) pa_nil))))
      (pss_cons (ps_set (i := 5) nd rfl (Or.inl rfl) (pe_lst pa_nil))
      (pss_cons (ps_set (i := 6) nd rfl (Or.inl rfl) (pe_lst pa_nil))
      (pss_cons (ps_for PassesOwn.never rfl (pi_list (pw 4)) (pg_name (i := 7) nd rfl (Or.inl rfl))
      (pss_cons (ps_set (i := 8) nd rfl (Or.inl rfl) (pe_op op_modW (pe_op op_addW (pe_op op_fdivW (pw 1) pe_int) (pw 7)) pe_int))
        (pss_cons (ps_expr (pe_bm PySem.F.plainAttrs_list PySem.F.slot_list_append PySem.F.type_list_append mt_appW (pw 6) (pa_cons (pe_tup (pa_cons pe_str (pa_cons (pw 7) (pa_cons pe_str (pa_cons (pe_call GF hr (by rfl) mF kF bF .nil pass0 (pa_cons (pw 3) (pa_cons pe_int (pa_cons (pe_lst pa_nil) (pa_cons (pe_callTy call_list_of (by rfl) T.list bt_list (pa_cons (pw 5) pa_nil)) (pa_cons (pw 2) (pa_cons (pw 8) pa_nil))))))) pa_nil))))) pa_nil)))
        (pss_one (ps_expr (pe_bm PySem.F.plainAttrs_list PySem.F.slot_list_append PySem.F.type_list_append mt_appW (pw 5) (pa_cons (pe_tup (pa_cons (pw 7) (pa_cons (pw 8) pa_nil))) pa_nil))))))) h5)))), ?_⟩
    refine ⟨_, rfl, _, rfl, Cl, _, rfl, SqL.of hCl, (by decide), fun Dr hDr => ?_⟩
    rw [pick_map]
    have hdl : (pickA cs none none (some (-1))).length ≤ 63 := Nat.le_trans (len_pickA _ _ _ _) hcl
    generalize pickA cs none none (some (-1)) = ms at hdl ⊢
    have s1 := same_upd (o := .lst (ms.map V.int)) hDr
    have f1 : upd H Dr (.lst (ms.map V.int)) Dr = some (.lst (ms.map V.int)) := upd_same
    generalize upd H Dr (.lst (ms.map V.int)) = H1 at s1 f1 ⊢
    have hM1 : Mk H1 Dr Cn ms.length z := ⟨⟨ms, f1, rfl⟩, s1 _ _ hCn, Ne.symm (ne_of_none hCn hDr)⟩
    have g0 := Int.emod_nonneg hd (show (4 : Int) ≠ 0 by decide)
    have g1 := Int.emod_lt_of_pos hd (show (0 : Int) < 4 by decide)
    obtain ⟨j, hj⟩ : ∃ j : Nat, hd % 4 = (j : Int) := ⟨(hd % 4).toNat, by lia⟩
    refine ⟨(by show (0 : Int) < _; decide), ?_⟩
    dsimp only
    rw [hj]
    refine ⟨Cn, j, z, rfl, hM1.cn, by lia, fun H2 D hD hcn2 k2 hDn => ?_⟩
    have hM2 := hM1.newc k2 hcn2
    have k02 : ∀ a o, a ≠ Cn → H a = some o → H2 a = some o := fun a o n e => k2 _ _ n (s1 _ _ e)
    obtain ⟨nD1, nD2⟩ := hM1.old hDn
    refine ⟨Nat.zero_le _, fun Tp hTp => ?_⟩
    have s3 := same_upd (o := .lst []) hTp
    have f3 : upd H2 Tp (.lst []) Tp = some (.lst []) := upd_same
    generalize upd H2 Tp (.lst []) = H3 at s3 f3 ⊢
    obtain ⟨nT1, nT2⟩ := hM2.old hTp
    have nDT : D ≠ Tp := ne_of_none hD hTp
    have hTpn : H Tp = none := by
      cases e : H Tp with
      | none => rfl
      | some o => exact absurd (k02 _ _ nT2 e) (by rw [hTp]; exact fun z => nomatch z)
    refine ⟨Nat.zero_le _, fun I hI => ?_⟩
    have s4 := same_upd (o := .lst []) hI
    have f4 : upd H3 I (.lst []) I = some (.lst []) := upd_same
    generalize upd H3 I (.lst []) = H4 at s4 f4 ⊢
    obtain ⟨nI1, nI2⟩ := (hM2.same s3).old hI
    have nIT : I ≠ Tp := Ne.symm (ne_of_none f3 hI)
    have nDI : D ≠ I := ne_of_none (s3 _ _ hD) hI
    have hIn : H I = none := by
      cases e : H I with
      | none => rfl
      | some o => exact absurd (s3 _ _ (k02 _ _ nI2 e)) (by rw [hI]; exact fun z => nomatch z)
    have s24 := s3.trans s4
    have hDH : H D = none := s1.free hDn
    refine ⟨D, rfl, ⟨_, SqL.of (s24 _ _ hD)⟩, for_list (xs := (newP z j).map V.int) (fun i σ H' => DfW (some (.ref Cl)) (some (.ref D)) hd Cn Dr Tp I ms.length H i σ H' ∧ H' D = some (.lst ((newP z j).map V.int)))
      ⟨⟨_, _, ms.length, z + j, [], [], [], [], rfl, Nat.le_refl _, hM2.same s24, s4 _ _ f3, Al.nil, rfl, (fun n h => nomatch h), fun a o n e => s24 _ _ (k02 _ _ n e), f4, Al.nil, rfl, fun it h => nomatch h⟩, s24 _ _ hD⟩ (fun i σ H' _ hh => SqL.of hh.2) ?_ ?_⟩
    · rintro i x σ H5 hx ⟨⟨v7, v8, m5, z5, l, tops, its, iv, rfl, hm5, hM5, hTp5, hal5, htl, ht2, kH5, hI5, hit5, hil5, hgd5⟩, hD5⟩
      obtain ⟨p, ep, rfl⟩ := map_at hx
      have hi : i < (newP z j).length := (List.getElem?_eq_some_iff.mp ep).1
      rw [newP_len] at hi
      have q0 := Int.emod_nonneg (hd / 4 + p) (show (3 : Int) ≠ 0 by decide)
      have q1 := Int.emod_lt_of_pos (hd / 4 + p) (show (0 : Int) < 3 by decide)
      obtain ⟨ar, har⟩ : ∃ ar : Nat, (hd / 4 + p) % 3 = (ar : Int) := ⟨((hd / 4 + p) % 3).toNat, by lia⟩
      refine ⟨⟨by decide, by decide⟩, (by show (0 : Int) < _; decide), ?_⟩
      dsimp only
      rw [har]
      refine ⟨.inl ⟨rfl, _, SqL.of hI5⟩, Nat.zero_le _, fun L hL => ?_⟩
      have s6 := same_upd (o := .lst []) hL
      have f6 : upd H5 L (.lst []) L = some (.lst (([] : List Int).map V.int)) := upd_same
      generalize upd H5 L (.lst []) = H6 at s6 f6 ⊢
      obtain ⟨nL1, nL2⟩ := hM5.old hL
      refine ⟨Tp, l, rfl, .inl (SqL.of (s6 _ _ hTp5)), fun L2 hL2 => ?_⟩
      have s7 := same_upd (o := .lst l) hL2
      have f7 : upd H6 L2 (.lst l) L2 = some (.lst l) := upd_same
      generalize upd H6 L2 (.lst l) = H7 at s7 f7 ⊢
      obtain ⟨nM1, nM2⟩ := (hM5.same s6).old hL2
      have s57 := s6.trans s7
      refine ⟨Dr, L, Cn, .ref L2, m5, ar, z5, some tops, [], rfl, by lia, hM5.same s57, ⟨L2, l, rfl, f7, hal5.mono fun _ _ r => r.tup (Tup.of s57), nM1, nM2, ht2⟩, ⟨s7 _ _ f6, (fun k hk => nomatch hk), nL1, nL2⟩, (by show 0 + 2 + 10 * 3 ≤ 1000; decide), fun H8 ps b v m8 z8 hm8 hM8 hz8 k8 hc8 hpl hnd hps hg8 => ⟨z4, fun t9 ht9 => ?_⟩⟩
      have s9 := same_upd (o := .tup [.str "def", .int p, .str "f", v]) ht9
      have f9 : upd H8 t9 (.tup [.str "def", .int p, .str "f", v]) t9 = some (.tup [.str "def", .int p, .str "f", v]) := upd_same
      generalize upd H8 t9 (.tup [.str "def", .int p, .str "f", v]) = H9 at s9 f9 ⊢
      have k59 : Kp2 H5 H9 Dr Cn := ((Kp2.of s57).trans k8).trans (Kp2.of s9)
      have tA : Tup H5 H9 := hM5.tups k59
      have hI9 := k59 _ _ nI1 nI2 hI5
      refine ⟨iv, hI9, by rw [hit5.1, hil5, sizeLine_eq]; lia, ?_⟩
      have t10 : Tup H9 (upd H9 I (.lst (iv ++ [.ref t9]))) := tuplst hI9
      have k10 : Kp1 H9 (upd H9 I (.lst (iv ++ [.ref t9]))) I := fun a o n e => by rw [upd_ne n]; exact e
      have f10 : upd H9 I (.lst (iv ++ [.ref t9])) I = some (.lst (iv ++ [.ref t9])) := upd_same
      generalize upd H9 I (.lst (iv ++ [.ref t9])) = H10 at t10 k10 f10 ⊢
      have hTp10 := k10 _ _ (Ne.symm nIT) (k59 _ _ nT1 nT2 hTp5)
      refine ⟨.inl ⟨rfl, _, SqL.of hTp10⟩, z2, fun t11 ht11 => ?_⟩
      have s11 := same_upd (o := .tup [.int p, .int (ar : Int)]) ht11
      have f11 : upd H10 t11 (.tup [.int p, .int (ar : Int)]) t11 = some (.tup [.int p, .int (ar : Int)]) := upd_same
      generalize upd H10 t11 (.tup [.int p, .int (ar : Int)]) = H11 at s11 f11 ⊢
      have hTp11 := s11 _ _ hTp10
      refine ⟨l, hTp11, by rw [hal5.1, htl, sizeLine_eq]; lia, ?_⟩
      have t12 : Tup H11 (upd H11 Tp (.lst (l ++ [.ref t11]))) := tuplst hTp11
      have k12 : Kp1 H11 (upd H11 Tp (.lst (l ++ [.ref t11]))) Tp := fun a o n e => by rw [upd_ne n]; exact e
      have f12 : upd H11 Tp (.lst (l ++ [.ref t11])) Tp = some (.lst (l ++ [.ref t11])) := upd_same
      generalize upd H11 Tp (.lst (l ++ [.ref t11])) = H12 at t12 k12 f12 ⊢
      have tB : Tup H9 H12 := (t10.trans (Tup.of s11)).trans t12
      have tC := tA.trans tB
      have hM12 : Mk H12 Dr Cn m8 z8 := ((((hM8.same s9).keep nI1 nI2 k10).same s11).keep nT1 nT2 k12)
      refine ⟨⟨_, _, m8, z8, l ++ [.ref t11], tops ++ [ar], its ++ [(some p, .fn ps b)], iv ++ [.ref t9], rfl, Nat.le_trans hm8 (Nat.le_trans (Nat.sub_le _ _) hm5), hM12, f12, (hal5.mono fun _ _ r => r.tup tC).snoc ⟨t11, p, rfl, t12 _ _ f11⟩, by rw [List.length_append, htl]; rfl, fun n hn => ?_, fun a o na e => ?_, k12 _ _ nIT (s11 _ _ f10), (hit5.mono fun _ _ r => r.tup tC).snoc ⟨t9, v, rfl, tB _ _ f9, hc8.tup ((Tup.of s9).trans tB)⟩, by rw [List.length_append, hil5]; rfl, fun it hx => ?_⟩, ?_⟩
      · rcases List.mem_append.mp hn with hn | hn
        · exact ht2 n hn
        · rw [List.mem_singleton.mp hn]; lia
      · exact k12 _ _ (ne_of_none e hTpn) (s11 _ _ (k10 _ _ (ne_of_none e hIn) (k59 _ _ (ne_of_none e hDr) na (kH5 _ _ na e))))
      · rcases List.mem_append.mp hx with hx | hx
        · exact hgd5 it hx
        · rw [List.mem_singleton.mp hx]; exact good_fn p hg8
      · exact k12 _ _ nDT (s11 _ _ (k10 _ _ nDI (k59 _ _ nD1 nD2 hD5)))
    · rintro σ H5 ⟨⟨v7, v8, m5, z5, l, tops, its, iv, rfl, hm5, hM5, hTp5, hal5, htl, ht2, kH5, hI5, hit5, hil5, hgd5⟩, hD5⟩
      rw [List.length_map, newP_len] at hil5
      exact r5 _ _ _ _ _ Dr Tp I m5 _ H5 nT1 nT2 nI1 nI2 nIT hDr hIn ⟨z5, l, tops, its, iv, rfl, hM5, hTp5, hal5, ht2, by lia, kH5, hI5, hit5, hgd5⟩
end
end K69

set_option Elab.async false
set_option linter.all false
set_option maxRecDepth 100000
set_option maxHeartbeats 4000000
set_option exponentiation.threshold 3000
/-! k69: a core and what ahead makes of it look alike to the law. Own work. -/
namespace K69
open PySem L2 Builtin.Str MC
abbrev sAl : Stmt := top 31
theorem AhRs.len {fu : Nat} {H : Hp} : ∀ {as : Cores} {l l' : List V}, AhRs fu H as l l' → l.length = as.list.length ∧ l'.length = as.list.length
  | .nil, l, l', h => by
    rw [h.1, h.2]
    exact ⟨rfl, rfl⟩
  | .cons c r, l, l', h => by
    obtain ⟨x, xs, y, ys, rfl, rfl, h1, h2⟩ := h
    simp only [Cores.list, List.length_cons]
    exact ⟨congrArg (· + 1) (AhRs.len h2).1, congrArg (· + 1) (AhRs.len h2).2⟩
theorem AhRs.at {fu : Nat} {H : Hp} : ∀ {as : Cores} {l l' : List V}, AhRs fu H as l l' → ∀ (j : Nat) (k : Core), as.list[j]? = some k → ∃ x y, l[j]? = some x ∧ l'[j]? = some y ∧ AhR fu H k x y
  | .nil, l, l', h, j, k, e => by simp [Cores.list] at e
  | .cons c r, l, l', h, j, k, e => by
    obtain ⟨x, xs, y, ys, rfl, rfl, h1, h2⟩ := h
    cases j with
    | zero =>
      simp only [Cores.list, List.getElem?_cons_zero, Option.some.injEq] at e
      subst e
      exact ⟨x, y, rfl, rfl, h1⟩
    | succ j =>
      simp only [Cores.list, List.getElem?_cons_succ] at e
      exact AhRs.at h2 j k e
theorem paired_of {R : V → V → Prop} {xs : List V} : ∀ {ys : List V}, xs.length = ys.length → (∀ (j : Nat) (x y : V), xs[j]? = some x → ys[j]? = some y → R x y) → Paired R xs ys := by
  induction xs with
  | nil => intro ys h f; cases ys with
    | nil => exact .nil
    | cons y ys => cases h
  | cons x xs ih => intro ys h f; cases ys with
    | nil => cases h
    | cons y ys => exact .cons (f 0 x y rfl rfl) (ih (Nat.succ.inj h) fun j a b e1 e2 => f (j + 1) a b e1 e2)
def spAl (d : Nat) : Sp := fun vs H Q _ => ∃ (v u : V) (c : Core) (fu : Nat), vs = [v, u] ∧ CoreIn H c v ∧ AhR fu H c v u ∧ dp c ≤ d ∧ (pre c).length ≤ 10000 ∧ ∀ H', Same H H' → Q (.bl true) H'
def ifBody : Stmt → List Stmt
  | .If _ b _ _ => b
  | _ => []
/-- the answers of a comprehension: all of them true -/
def AllW (σ0 σ1 : Option V) (D : Addr) (H : Hp) (k : Nat) (ys : List V) (σ' : St) (H' : Hp) : Prop := (∃ v, σ' = [σ0, σ1, v]) ∧ Same H H' ∧ H' D = some (.lst ys) ∧ ys = (List.replicate k true).map V.bl
theorem lc_all {lo : Int} {n : Nat} {te : TE} {σ0 σ1 : Option V} {H : Hp} {D : Addr} {Q : Hp → Prop} (hn : n ≤ 10000) (hD : H D = none)
    (he : ∀ (k : Nat) (H' : Hp) (R : VK), k < n → Same H H' → (∀ H2, Same H' H2 → R (.bl true) H2) → te [σ0, σ1, some (.int (lo + k))] H' R)
    (q : ∀ H', Same H H' → H' D = some (.lst ((List.replicate n true).map V.bl)) → Q H') :
    ∃ W : Nat → Nat → List V → St → Hp → Prop, (∃ m, W 0 m [] [σ0, σ1, none] (upd H D (.lst []))) ∧ lcTurn (Itr lo n) D (gName 2) tYes te Q W := by
  refine lc_rng (lo := lo) (n := n) (AllW σ0 σ1 D H) ⟨⟨_, rfl⟩, same_upd hD, upd_same, rfl⟩ ?_ ?_
  · rintro k ys σ' H3 hk ⟨⟨v8, rfl⟩, s3, hD3, hys⟩
    unfold gName
    refine yes_if ?_
    refine he k H3 _ hk s3 fun H4 s4 => ?_
    refine ⟨s4 _ _ hD3, by rw [hys, List.length_map, List.length_replicate, sizeLine_eq]; lia, Beh.of hk ⟨⟨_, rfl⟩, fun e o q => ?_, upd_same, by rw [hys, List.replicate_succ', List.map_append]; rfl⟩⟩
    rw [upd_ne (ne_of_none q hD)]
    exact s4 _ _ (s3 _ _ q)
  · rintro ys σ' H3 ⟨_, s3, hD3, hys⟩
    subst hys
    exact q H3 s3 hD3
theorem atI_nat' {xs : List V} {j : Nat} {x : V} (h : xs[j]? = some x) : atI xs (0 + (j : Int)) = some x := by rw [Int.zero_add]; exact atI_nat h
theorem all_rep (n : Nat) : (List.replicate n true).all id = true := by simp
section
variable {P : Program} {w : World} {K : PySem.W.Frag} {mg : Str → Option Value} {base : Heap} {C op : Addr}
abbrev NAl : List Str := ["_law_core", "_law_other"]
theorem scAl : FnScope NAl ["_law_core", "_law_other"] (defScope sAl) := ⟨rfl, rfl, rfl, by decide +kernel, rfl, by decide +kernel, by decide +kernel⟩
theorem lcAl1 : LcS (defScope sAl).names [(".0", .local), ("_law_k", .local), ("_law_alike", .globalImplicit), ("_law_core", .free), ("_law_other", .free)] NAl [true, true] := ⟨by decide +kernel, by decide +kernel, by decide +kernel, by decide +kernel, by decide +kernel, rfl⟩
theorem ndAl1 : (["_law_core", "_law_other", "_law_k"] : List Str).Nodup := by decide +kernel
abbrev cxAl (P : Program) (w : World) (K : PySem.W.Frag) (mg : Str → Option Value) (base : Heap) (f : Addr) (cdv : Value) (A : Around) (outer : List Env) (s : Shared) (H : Hp) (E : XK) : Cx := (cxOf CX0 P w K mg base NAl "_law_alike" (defScope sAl) f cdv A outer s H E).nox
variable {f : Addr} {fd : FuncData} {cdv : Value} {A : Around} {outer : List Env} {s : Shared} {H : Hp} {E : XK}
theorem al_now (T : MT K mg C op) : ∃ t : TS, PSs (cxAl P w K mg base f cdv A outer s H E) (ifBody ((defBody sAl).getD 0 (.Pass ⟨0, 0, 0, 0⟩))) t ∧
    ∀ (N : Ends) (v : V) (r : Addr) (z : Int) (H1 : Hp), H1 r = some (.tup [.str "num", .int z]) → N.rt (.bl true) H1 → t N [some v, some (.ref r)] H1 := by
  refine ⟨_, (pss_cons (ps_if (PW.pt (pw_or (pt_not (pt_val (pe_callB call_isI (by rfl) T.isi bt_isinstance (pa_cons (pw 1) (pa_cons (pe_bltn (v := .ty "tuple") (by rfl) T.tuple bt_tuple rfl) pa_nil))))) (pw_or (pt_cmpR op_ne (pe_callB call_len_seq (by rfl) T.len bt_len (pa_cons (pw 1) pa_nil)) pe_int (nomark _)) (pw_or1 (pt_cmpR op_ne (pe_ixT 1) pe_str (nomark _))))))
        (pss_one (ps_ret pe_bl))
        pss_nil)
        (pss_one (ps_ret (pe_and (pe_callB call_isI (by rfl) T.isi bt_isinstance (pa_cons (pe_iwT 1) (pa_cons (pe_bltn (v := .ty "int") (by rfl) T.int bt_int rfl) pa_nil))) (pe_one (pe_not (pe_callB call_isI (by rfl) T.isi bt_isinstance (pa_cons (pe_iwT 1) (pa_cons (pe_bltn (v := .ty "bool") (by rfl) T.bool bt_bool rfl) pa_nil))))))))), ?_⟩
  intro N v r z H1 hr q
  refine ⟨.ref r, .ty "tuple", _, _, true, rfl, rfl, TyOf.tup hr, rfl, ⟨_, rfl, iteF ?_⟩⟩
  refine ⟨r, _, rfl, .inr (SqT.of hr), rfl, false, rfl, iteF ?_⟩
  refine ⟨r, _, _, rfl, hr, rfl, rfl, false, rfl, iteF ?_⟩
  exact ⟨_, hr, .int z, .ty "int", _, _, true, rfl, rfl, TyOf.int z, rfl, true, rfl, iteT ⟨_, hr, .int z, .ty "bool", _, _, false, rfl, rfl, TyOf.int z, rfl, false, rfl, q⟩⟩
theorem al_fn {k d : Nat} {spA : Sp} (T : MT K mg C op) (hr : Room k (cxAl P w K mg base f cdv A outer s H E).A) (kA : PySem.W.keepIn K (.ref f) = true) (bA : Binds K fd NAl []) (mA : mg "_law_alike" = some (.ref f)) (GA : FnOk P w K mg base CX0 k f fd NAl spA) (hA : ∀ e, d = e + 1 → spA = spAl e) : ∃ t : TS, PSs (cxAl P w K mg base f cdv A outer s H E) (ifBody ((defBody sAl).getD 2 (.Pass ⟨0, 0, 0, 0⟩))) t ∧
    ∀ (N : Ends) (ps : List Int) (b : Core) (fu : Nat) (v u : V) (H1 : Hp), CoreIn H1 (.fn ps b) v → AhR fu H1 (.fn ps b) v u → dp (.fn ps b) ≤ d → (pre (.fn ps b)).length ≤ 10000 → (∀ H2, Same H1 H2 → N.rt (.bl true) H2) → t N [some v, some u] H1 := by
  have hu : (cxAl P w K mg base f cdv A outer s H E).A.units + 1 + 1 < cLine := hud_of hr (by decide)
  refine ⟨_, (pss_one (ps_ret (pe_and (pe_cmpR (op_eqA hu) (pe_iwT 1) (pe_iwT 0) (nomark _)) (pe_one (pe_call GA hr (by rfl) mA kA bA .nil pass0 (pa_cons (pe_iwT 0) (pa_cons (pe_iwT 1) pa_nil))))))), ?_⟩
  intro N ps b fu v u H1 hc ha hd hp q
  have hd' := dp_ins (.fn ps b) b (by simp [ins])
  have hp' := pre_len_ins (c := .fn ps b) (k := b) (by simp [ins])
  obtain ⟨t0, u0, l0, w0, rfl, k1, k2, k3, k4⟩ := hc
  obtain ⟨t1, p1, b1, r1, x1, e1, g1, rfl, m1, _, n1⟩ := ha
  cases e1
  rw [k1] at g1
  cases g1
  obtain ⟨e, he⟩ : ∃ e, d = e + 1 := ⟨d - 1, by lia⟩
  rw [hA e he]
  have hl : Paired (Alk K H1 1) l0 l0 := paired_of rfl fun j x y e1 e2 => by
    rw [e1] at e2
    cases e2
    obtain ⟨p, _, t, w, rfl, _⟩ := k3.at e1
    exact alk_ref _ _
  exact ⟨_, m1, _, k1, u0, u0, l0, l0, rfl, rfl, .inl ⟨SqT.of k2, SqT.of k2⟩, hl, true, rfl, iteT ⟨_, k1, _, m1, _, _, b, fu, rfl, k4, n1, by lia, by lia, q⟩⟩
theorem al_pick {k d : Nat} {spA : Sp} (T : MT K mg C op) (hall : mg "all" = none) (hr : Room k (cxAl P w K mg base f cdv A outer s H E).A) (kA : PySem.W.keepIn K (.ref f) = true) (bA : Binds K fd NAl []) (mA : mg "_law_alike" = some (.ref f)) (GA : FnOk P w K mg base CX0 k f fd NAl spA) (hA : ∀ e, d = e + 1 → spA = spAl e) : ∃ t : TS, PSs (cxAl P w K mg base f cdv A outer s H E) (ifBody ((defBody sAl).getD 3 (.Pass ⟨0, 0, 0, 0⟩))) t ∧
    ∀ (N : Ends) (a b c : Core) (fu : Nat) (v u : V) (H1 : Hp), CoreIn H1 (.pick a b c) v → AhR fu H1 (.pick a b c) v u → dp (.pick a b c) ≤ d → (pre (.pick a b c)).length ≤ 10000 → (∀ H2, Same H1 H2 → N.rt (.bl true) H2) → t N [some v, some u] H1 := by
  refine ⟨_, (pss_one (ps_ret (pe_callB (call_allB rfl) (by rfl) hall bt_all (pa_cons (pe_lc (ext := ["_law_k"]) lcAl1 rfl (pi_range2 rfl T.range (pa_cons pe_int (pa_cons pe_int pa_nil)))
          ⟨fun _ _ _ _ _ => (pg_name (i := 2) ndAl1 rfl (Or.inl rfl) (.inr rfl)), fun _ _ _ _ _ => pts_nil, fun _ _ _ _ _ => (pe_call GA hr (by rfl) mA kA bA .nil pass0 (pa_cons (pe_ix (ix_tup : IxR _ (rIxT K)) (pw 0) (pw 2) (fun _ _ => rfl)) (pa_cons (pe_ix (ix_tup : IxR _ (rIxT K)) (pw 1) (pw 2) (fun _ _ => rfl)) pa_nil)))⟩) pa_nil)))), ?_⟩
  intro N a b c fu v u H1 hc ha hd hp q
  have hd' := dp_ins (.pick a b c)
  have hp' := fun (k : Core) (hk : k ∈ ins (.pick a b c)) => pre_len_ins (c := .pick a b c) (k := k) hk
  obtain ⟨t0, x0, y0, z0, rfl, k1, k2, k3, k4⟩ := hc
  obtain ⟨t1, p1, p2, p3, r1, q1, q2, q3, e1, g1, rfl, m1, n1, n2, n3⟩ := ha
  cases e1
  rw [k1] at g1
  cases g1
  obtain ⟨e, he⟩ : ∃ e, d = e + 1 := ⟨d - 1, by have := hd' a (by simp [ins]); lia⟩
  rw [hA e he]
  refine ⟨1, 4, rfl, ⟨by decide, by decide, by decide, by decide⟩, fun D hD => lc_all (n := 3) (by decide) hD (fun j H' R hj s2 g => ?_) fun H' s2 hD2 => ?_⟩
  · obtain ⟨cj, x, y, ex, ey, hm, hx, hxy⟩ : ∃ cj x y, atI [.str "pick", x0, y0, z0] (1 + (j : Int)) = some x ∧ atI [.str "pick", q1, q2, q3] (1 + (j : Int)) = some y ∧ cj ∈ ins (.pick a b c) ∧ CoreIn H1 cj x ∧ AhR fu H1 cj x y := by
      rcases (show j = 0 ∨ j = 1 ∨ j = 2 by lia) with rfl | rfl | rfl
      · exact ⟨a, x0, q1, atI_nat (j := 1) rfl, atI_nat (j := 1) rfl, by simp [ins], k2, n1⟩
      · exact ⟨b, y0, q2, atI_nat (j := 2) rfl, atI_nat (j := 2) rfl, by simp [ins], k3, n2⟩
      · exact ⟨c, z0, q3, atI_nat (j := 3) rfl, atI_nat (j := 3) rfl, by simp [ins], k4, n3⟩
    have := hd' cj hm
    have := hp' cj hm
    exact ⟨t0, _, _, _, rfl, rfl, SqT.of (s2 _ _ k1), ex, r1, _, _, _, rfl, rfl, SqT.of (s2 _ _ m1), ey, x, y, cj, fu, rfl, hx.tup (Tup.of s2), hxy.tup (Tup.of s2), by lia, by lia, g⟩
  · refine ⟨D, _, rfl, SqL.of hD2, ?_⟩
    rw [all_rep]
    exact q _ s2
theorem al_call {k d : Nat} {spA : Sp} (T : MT K mg C op) (hall : mg "all" = none) (hr : Room k (cxAl P w K mg base f cdv A outer s H E).A) (kA : PySem.W.keepIn K (.ref f) = true) (bA : Binds K fd NAl []) (mA : mg "_law_alike" = some (.ref f)) (GA : FnOk P w K mg base CX0 k f fd NAl spA) (hA : ∀ e, d = e + 1 → spA = spAl e) : ∃ t : TS, PSs (cxAl P w K mg base f cdv A outer s H E) (ifBody ((defBody sAl).getD 4 (.Pass ⟨0, 0, 0, 0⟩))) t ∧
    ∀ (N : Ends) (c : Core) (as : Cores) (fu : Nat) (v u : V) (H1 : Hp), CoreIn H1 (.call c as) v → AhR fu H1 (.call c as) v u → dp (.call c as) ≤ d → (pre (.call c as)).length ≤ 10000 → (∀ H2, Same H1 H2 → N.rt (.bl true) H2) → t N [some v, some u] H1 := by
  refine ⟨_, (pss_cons (ps_if (PW.pt (pw_or (pt_not (pt_val (pe_callB call_isI (by rfl) T.isi bt_isinstance (pa_cons (pe_iwT 1) (pa_cons (pe_bltn (v := .ty "tuple") (by rfl) T.tuple bt_tuple rfl) pa_nil))))) (pw_or1 (pt_cmpR op_ne (pe_callB call_len_seq (by rfl) T.len bt_len (pa_cons (pe_iwT 1) pa_nil)) (pe_callB call_len_seq (by rfl) T.len bt_len (pa_cons (pe_iwT 0) pa_nil)) (nomark _)))))
        (pss_one (ps_ret pe_bl))
        pss_nil)
        (pss_cons (ps_if (pt_not (pt_val (pe_call GA hr (by rfl) mA kA bA .nil pass0 (pa_cons (pe_iwT 0) (pa_cons (pe_iwT 1) pa_nil)))))
        (pss_one (ps_ret pe_bl))
        pss_nil)
        (pss_one (ps_ret (pe_callB (call_allB rfl) (by rfl) hall bt_all (pa_cons (pe_lc (ext := ["_law_k"]) lcAl1 rfl (pi_range1 rfl T.range (pa_cons (pe_callB call_len_seq (by rfl) T.len bt_len (pa_cons (pe_iwT 0) pa_nil)) pa_nil))
          ⟨fun _ _ _ _ _ => (pg_name (i := 2) ndAl1 rfl (Or.inl rfl) (.inr rfl)), fun _ _ _ _ _ => pts_nil, fun _ _ _ _ _ => (pe_call GA hr (by rfl) mA kA bA .nil pass0 (pa_cons (pe_ix (ix_tup : IxR _ (rIxT K)) (pe_iwT 0) (pw 2) (fun _ _ => rfl)) (pa_cons (pe_ix (ix_tup : IxR _ (rIxT K)) (pe_iwT 1) (pw 2) (fun _ _ => rfl)) pa_nil)))⟩) pa_nil)))))), ?_⟩
  intro N c as fu v u H1 hc ha hd hp q
  have hd' := dp_ins (.call c as)
  have hp' := fun (k : Core) (hk : k ∈ ins (.call c as)) => pre_len_ins (c := .call c as) (k := k) hk
  have hil := ins_len (.call c as)
  obtain ⟨t0, x0, u0, l0, rfl, k1, k2, k3, k4⟩ := hc
  obtain ⟨t1, f1, a1, l1, r1, y1, b1, j1, e1, g1, gg1, rfl, m1, mm1, n1, nn1⟩ := ha
  cases e1
  rw [k1] at g1
  cases g1
  rw [k2] at gg1
  cases gg1
  obtain ⟨e, he⟩ : ∃ e, d = e + 1 := ⟨d - 1, by have := hd' c (by simp [ins]); lia⟩
  rw [hA e he]
  obtain ⟨hl1, hl2⟩ := nn1.len
  simp only [ins, List.length_cons] at hil
  have hdc := hd' c (by simp [ins])
  have hpc := hp' c (by simp [ins])
  refine ⟨_, m1, .ref b1, .ty "tuple", _, _, true, rfl, rfl, TyOf.tup mm1, rfl, ⟨_, rfl, iteF ?_⟩⟩
  refine ⟨_, m1, b1, _, rfl, .inr (SqT.of mm1), _, k1, u0, _, rfl, .inr (SqT.of k2), rfl, false, congrArg V.bl (by rw [hl1, hl2]; simp), iteF ?_⟩
  refine ⟨_, k1, _, m1, _, _, c, fu, rfl, k3, n1, by lia, by lia, fun H2 s2 => ⟨_, rfl, iteF ?_⟩⟩
  have k1' := s2 _ _ k1
  have m1' := s2 _ _ m1
  refine ⟨_, k1', u0, _, rfl, .inr (SqT.of (s2 _ _ k2)), _, rfl, by lia, by lia, fun D hD => lc_all (n := (l0.length : Int).toNat) (by lia) hD (fun j H' R hj s3 g => ?_) fun H' s3 hD2 => ?_⟩
  · have hj' : j < as.list.length := by lia
    obtain ⟨x, y, ex, ey, hxy⟩ := nn1.at j as.list[j] (List.getElem?_eq_getElem hj')
    obtain ⟨k', ek, hx⟩ := (k4.al).at ex
    rw [List.getElem?_eq_getElem hj'] at ek
    cases ek
    have hm : as.list[j] ∈ ins (.call c as) := by simp only [ins]; exact List.mem_cons_of_mem _ (List.getElem_mem hj')
    have := hd' _ hm
    have := hp' _ hm
    have s23 := s2.trans s3
    exact ⟨_, s3 _ _ k1', u0, _, _, _, rfl, rfl, SqT.of (s23 _ _ k2), atI_nat' ex, _, s3 _ _ m1', b1, _, _, _, rfl, rfl, SqT.of (s23 _ _ mm1), atI_nat' ey, x, y, as.list[j], fu, rfl, hx.tup (Tup.of s23), hxy.tup (Tup.of s23), by lia, by lia, g⟩
  · refine ⟨D, _, rfl, SqL.of hD2, ?_⟩
    rw [all_rep]
    exact q _ (s2.trans s3)
/-- what the two are: their words are the same -/
theorem al_heads {fu : Nat} {H : Hp} {c : Core} {v u : V} (hc : CoreIn H c v) (ha : AhR fu H c v u) (hn : ∀ b, c ≠ .now b) : ∃ t r xs ys wd, v = .ref t ∧ u = .ref r ∧ H t = some (.tup xs) ∧ H r = some (.tup ys) ∧ xs.length = ys.length ∧ atI xs 0 = some (.str wd) ∧ atI ys 0 = some (.str wd) := by
  cases c with
  | num z => obtain ⟨t, rfl, ht⟩ := hc; exact ⟨t, t, _, _, "num", rfl, ha, ht, ht, rfl, rfl, rfl⟩
  | free z => obtain ⟨t, rfl, ht⟩ := hc; exact ⟨t, t, _, _, "free", rfl, ha, ht, ht, rfl, rfl, rfl⟩
  | seen z => obtain ⟨t, rfl, ht⟩ := hc; exact ⟨t, t, _, _, "seen", rfl, ha, ht, ht, rfl, rfl, rfl⟩
  | fn ps b => obtain ⟨t1, p1, b1, r1, x1, e1, g1, e2, m1, _⟩ := ha; exact ⟨t1, r1, _, _, "fn", e1, e2, g1, m1, rfl, rfl, rfl⟩
  | pick a b c => obtain ⟨t1, p1, p2, p3, r1, q1, q2, q3, e1, g1, e2, m1, _⟩ := ha; exact ⟨t1, r1, _, _, "pick", e1, e2, g1, m1, rfl, rfl, rfl⟩
  | call f as => obtain ⟨t1, f1, a1, l1, r1, y1, b1, j1, e1, g1, _, e2, m1, _⟩ := ha; exact ⟨t1, r1, _, _, "call", e1, e2, g1, m1, rfl, rfl, rfl⟩
  | now b => exact absurd rfl (hn b)
/-- behind the heads -/
theorem al_rest {k d : Nat} {spA : Sp} (T : MT K mg C op) (hall : mg "all" = none) (hr : Room k (cxAl P w K mg base f cdv A outer s H E).A) (kA : PySem.W.keepIn K (.ref f) = true) (bA : Binds K fd NAl []) (mA : mg "_law_alike" = some (.ref f)) (GA : FnOk P w K mg base CX0 k f fd NAl spA) (hA : ∀ e, d = e + 1 → spA = spAl e) : ∃ t : TS, PSs (cxAl P w K mg base f cdv A outer s H E) ((defBody sAl).drop 2) t ∧
    ∀ (N : Ends) (c : Core) (fu : Nat) (v u : V) (H1 : Hp), CoreIn H1 c v → AhR fu H1 c v u → (∀ b, c ≠ .now b) → dp c ≤ d → (pre c).length ≤ 10000 → (∀ H2, Same H1 H2 → N.rt (.bl true) H2) → t N [some v, some u] H1 := by
  have hu : (cxAl P w K mg base f cdv A outer s H E).A.units + 1 + 1 < cLine := hud_of hr (by decide)
  obtain ⟨tF, hF, rF⟩ := al_fn (P := P) (w := w) (base := base) (cdv := cdv) (A := A) (outer := outer) (s := s) (H := H) (E := E) T hr kA bA mA GA hA
  obtain ⟨tP, hP, rP⟩ := al_pick (P := P) (w := w) (base := base) (cdv := cdv) (A := A) (outer := outer) (s := s) (H := H) (E := E) T hall hr kA bA mA GA hA
  obtain ⟨tC, hC, rC⟩ := al_call (P := P) (w := w) (base := base) (cdv := cdv) (A := A) (outer := outer) (s := s) (H := H) (E := E) T hall hr kA bA mA GA hA
  refine ⟨_, (pss_cons (ps_if (pt_cmpR op_eq (pe_ixT 0) pe_str (nomark _)) hF pss_nil)
      (pss_cons (ps_if (pt_cmpR op_eq (pe_ixT 0) pe_str (nomark _)) hP pss_nil)
      (pss_cons (ps_if (pt_cmpR op_eq (pe_ixT 0) pe_str (nomark _)) hC pss_nil)
      (pss_one (ps_ret (pe_cmpR (op_eqA hu) (pw 1) (pw 0) (nomark _))))))), ?_⟩
  intro N c fu v u H1 hc ha hn hd hp q
  cases c with
  | num z =>
    obtain ⟨t, rfl, ht⟩ := hc; subst ha
    exact ify_ne rfl ht rfl rfl (ify_ne rfl ht rfl rfl (ify_ne rfl ht rfl rfl ⟨t, t, _, _, rfl, rfl, .inl ⟨SqT.of ht, SqT.of ht⟩, .cons (alk_flat _ rfl) (.cons (alk_flat _ rfl) .nil), q _ (Same.refl _)⟩))
  | free z =>
    obtain ⟨t, rfl, ht⟩ := hc; subst ha
    exact ify_ne rfl ht rfl rfl (ify_ne rfl ht rfl rfl (ify_ne rfl ht rfl rfl ⟨t, t, _, _, rfl, rfl, .inl ⟨SqT.of ht, SqT.of ht⟩, .cons (alk_flat _ rfl) (.cons (alk_flat _ rfl) .nil), q _ (Same.refl _)⟩))
  | seen z =>
    obtain ⟨t, rfl, ht⟩ := hc; subst ha
    exact ify_ne rfl ht rfl rfl (ify_ne rfl ht rfl rfl (ify_ne rfl ht rfl rfl ⟨t, t, _, _, rfl, rfl, .inl ⟨SqT.of ht, SqT.of ht⟩, .cons (alk_flat _ rfl) (.cons (alk_flat _ rfl) .nil), q _ (Same.refl _)⟩))
  | fn ps b =>
    have hc' := hc
    obtain ⟨t, _, _, _, rfl, ht, _⟩ := hc'
    exact ify_eq rfl ht rfl (rF _ ps b fu _ _ H1 hc ha hd hp q)
  | pick a1 a2 a3 =>
    have hc' := hc
    obtain ⟨t, _, _, _, rfl, ht, _⟩ := hc'
    exact ify_ne rfl ht rfl rfl (ify_eq rfl ht rfl (rP _ a1 a2 a3 fu _ _ H1 hc ha hd hp q))
  | call a1 a2 =>
    have hc' := hc
    obtain ⟨t, _, _, _, rfl, ht, _⟩ := hc'
    exact ify_ne rfl ht rfl rfl (ify_ne rfl ht rfl rfl (ify_eq rfl ht rfl (rC _ a1 a2 fu _ _ H1 hc ha hd hp q)))
  | now b => exact absurd rfl (hn b)
theorem al_step {k d : Nat} {spA : Sp} (F : Fun K "_law_alike" "_law_alike" sAl f fd) (T : MT K mg C op) (hall : mg "all" = none) (bA : Binds K fd NAl []) (mA : mg "_law_alike" = some (.ref f)) (GA : FnOk P w K mg base CX0 k f fd NAl spA) (hA : ∀ e, d = e + 1 → spA = spAl e) : FnOk P w K mg base CX0 (k + 1) f fd NAl (spAl d) := by
  refine F.ok scAl (fun vs H Q E h => ?_) (fun cdv A outer s H vs Q E hr h => ?_)
  · obtain ⟨v, u, c, fu, rfl, _⟩ := h; rfl
  · obtain ⟨v, u, c, fu, rfl, hc, ha, hd, hp, q⟩ := h
    obtain ⟨tN, hN, rN⟩ := al_now (P := P) (w := w) (base := base) (f := f) (cdv := cdv) (A := A) (outer := outer) (s := s) (H := H) (E := E) T
    obtain ⟨t2, h2, r2⟩ := al_rest (P := P) (w := w) (base := base) (cdv := cdv) (A := A) (outer := outer) (s := s) (H := H) (E := E) T hall hr F.kp bA mA GA hA
    have R1 : ∃ t : TS, PSs (cxAl P w K mg base f cdv A outer s H E) ((defBody sAl).drop 1) t ∧ ((∀ b, c ≠ .now b) → t { nx := fun _ H' => Q .non H', rt := Q } [some v, some u] H) := by
      refine ⟨_, (pss_cons (ps_if (PW.pt (pw_or (pt_not (pt_val (pe_callB call_isI (by rfl) T.isi bt_isinstance (pa_cons (pw 1) (pa_cons (pe_bltn (v := .ty "tuple") (by rfl) T.tuple bt_tuple rfl) pa_nil))))) (pw_or (pt_cmpR op_ne (pe_callB call_len_seq (by rfl) T.len bt_len (pa_cons (pw 1) pa_nil)) (pe_callB call_len_seq (by rfl) T.len bt_len (pa_cons (pw 0) pa_nil)) (nomark _)) (pw_or1 (pt_cmpR op_ne (pe_ixT 1) (pe_iwT 0) (nomark _))))))
      (pss_one (ps_ret pe_bl)) pss_nil) h2), fun hn => ?_⟩
      obtain ⟨t, r, xs, ys, wd, rfl, rfl, ht, hr, hl, ax, ay⟩ := al_heads hc ha hn
      refine ⟨.ref r, .ty "tuple", _, _, true, rfl, rfl, TyOf.tup hr, rfl, ⟨_, rfl, iteF ?_⟩⟩
      refine ⟨r, _, rfl, .inr (SqT.of hr), t, _, rfl, .inr (SqT.of ht), rfl, false, congrArg V.bl (by rw [hl]; simp), iteF ?_⟩
      refine ⟨r, _, _, rfl, hr, ay, _, ht, ax_of ax ⟨rfl, false, congrArg V.bl (by simp), iteF ?_⟩⟩
      exact r2 _ c fu _ _ H hc ha hn hd hp q
    obtain ⟨t1, h1, rest⟩ := R1
    refine ⟨_, pss_cons (ps_if (pt_cmpR op_eq (pe_ixT 0) pe_str (nomark _)) hN pss_nil) h1, ?_⟩
    cases c with
    | now b =>
      have hc' := hc
      obtain ⟨t, w', rfl, ht, _⟩ := hc'
      obtain ⟨r, rfl, hr⟩ := ha
      exact ify_eq rfl ht rfl (rN _ _ r _ H hr (q _ (Same.refl _)))
    | num z => have hc' := hc; obtain ⟨t, rfl, ht⟩ := hc'; exact ify_ne rfl ht rfl rfl (rest fun _ e => nomatch e)
    | free z => have hc' := hc; obtain ⟨t, rfl, ht⟩ := hc'; exact ify_ne rfl ht rfl rfl (rest fun _ e => nomatch e)
    | seen z => have hc' := hc; obtain ⟨t, rfl, ht⟩ := hc'; exact ify_ne rfl ht rfl rfl (rest fun _ e => nomatch e)
    | fn ps b => have hc' := hc; obtain ⟨t, _, _, _, rfl, ht, _⟩ := hc'; exact ify_ne rfl ht rfl rfl (rest fun _ e => nomatch e)
    | pick a1 a2 a3 => have hc' := hc; obtain ⟨t, _, _, _, rfl, ht, _⟩ := hc'; exact ify_ne rfl ht rfl rfl (rest fun _ e => nomatch e)
    | call a1 a2 => have hc' := hc; obtain ⟨t, _, _, _, rfl, ht, _⟩ := hc'; exact ify_ne rfl ht rfl rfl (rest fun _ e => nomatch e)
theorem ok_al (F : Fun K "_law_alike" "_law_alike" sAl f fd) (T : MT K mg C op) (hall : mg "all" = none) (bA : Binds K fd NAl []) (mA : mg "_law_alike" = some (.ref f)) : ∀ d, FnOk P w K mg base CX0 (d + 1) f fd NAl (spAl d)
  | 0 => al_step (k := 0) (spA := spNo) F T hall bA mA fn_no (fun e h => by lia)
  | d + 1 => al_step (k := d + 1) (spA := spAl d) F T hall bA mA (ok_al F T hall bA mA d) (fun e h => by rw [Nat.add_right_cancel h])
end
end K69

set_option Elab.async false
set_option linter.all false
set_option maxRecDepth 100000
set_option maxHeartbeats 4000000
set_option exponentiation.threshold 3000
/-! k69: the law. Own work. -/
namespace K69
open PySem L2 Builtin.Str MC
mutual
theorem ahr_core {fu : Nat} {H : Hp} : ∀ (c : Core) {v u : V}, CoreIn H c v → AhR fu H c v u → CoreIn H (ahC fu c) u
  | .num z, v, u, hc, h => by subst h; simp only [ahC]; exact hc
  | .free z, v, u, hc, h => by subst h; simp only [ahC]; exact hc
  | .seen z, v, u, hc, h => by subst h; simp only [ahC]; exact hc
  | .now c, v, u, hc, h => by
    obtain ⟨r, rfl, hr⟩ := h
    exact ⟨r, rfl, hr⟩
  | .fn ps b, v, u, hc, h => by
    obtain ⟨t0, u0, l0, w0, rfl, k1, k2, k3, k4⟩ := hc
    obtain ⟨t1, p1, b1, r1, x1, e1, g1, rfl, m1, _, n1⟩ := h
    cases e1
    rw [k1] at g1
    cases g1
    exact ⟨r1, u0, l0, x1, rfl, m1, k2, k3, ahr_core b k4 n1⟩
  | .pick a b c, v, u, hc, h => by
    obtain ⟨t0, x0, y0, z0, rfl, k1, k2, k3, k4⟩ := hc
    obtain ⟨t1, p1, p2, p3, r1, q1, q2, q3, e1, g1, rfl, m1, n1, n2, n3⟩ := h
    cases e1
    rw [k1] at g1
    cases g1
    exact ⟨r1, q1, q2, q3, rfl, m1, ahr_core a k2 n1, ahr_core b k3 n2, ahr_core c k4 n3⟩
  | .call f as, v, u, hc, h => by
    obtain ⟨t0, x0, u0, l0, rfl, k1, k2, k3, k4⟩ := hc
    obtain ⟨t1, f1, a1, l1, r1, y1, b1, j1, e1, g1, gg1, rfl, m1, mm1, n1, nn1⟩ := h
    cases e1
    rw [k1] at g1
    cases g1
    rw [k2] at gg1
    cases gg1
    exact ⟨r1, y1, b1, j1, rfl, m1, mm1, ahr_core f k3 n1, ahrs_core as k4 nn1⟩
theorem ahrs_core {fu : Nat} {H : Hp} : ∀ (as : Cores) {l j : List V}, CoresIn H as l → AhRs fu H as l j → CoresIn H (ahCs fu as) j
  | .nil, l, j, hc, h => by
    exact h.2
  | .cons c r, l, j, hc, h => by
    obtain ⟨v0, l0, rfl, k1, k2⟩ := hc
    obtain ⟨x1, xs1, y1, ys1, e1, rfl, n1, m1⟩ := h
    cases e1
    exact ⟨y1, ys1, rfl, ahr_core c k1 n1, ahrs_core r k2 m1⟩
end
theorem hs_ok : ∀ d : Option Int, hsOf d ≠ [] ∧ (hsOf d).length ≤ 3 ∧ (hsOf d).all flatV = true
  | none => ⟨by decide, by decide, rfl⟩
  | some p => ⟨fun e => (nomatch e), by simp [hsOf], rfl⟩
theorem ItF.it {H : Hp} {it : Item} {v : V} (h : ItF H it v) : ItIn H it v := by
  obtain ⟨t, cv, e, h1, h2⟩ := h
  obtain ⟨d, c⟩ := it
  cases d with
  | none => exact ⟨t, cv, e, h1, h2⟩
  | some p => exact ⟨t, "f", cv, e, h1, h2⟩
/-- the items, their copy, what ahead made of them -/
structure LX (H : Hp) (I L F : Addr) (fu : Nat) (its : List Item) (iv rs : List V) : Prop where
  hI : H I = some (.lst iv)
  hL : H L = some (.lst iv)
  hF : H F = some (.lst rs)
  al : Al (ItF H) its iv
  gd : ∀ it ∈ its, GoodIt it
  n : its.length ≤ 70
  rl : rs.length = its.length
  ah : ∀ (j : Nat) (it : Item) (v r : V), its[j]? = some it → iv[j]? = some v → rs[j]? = some r → AhIt fu H (hsOf it.1, it.2) v r
theorem LX.same {H H' : Hp} {I L F : Addr} {fu : Nat} {its : List Item} {iv rs : List V} (h : LX H I L F fu its iv rs) (s : Same H H') : LX H' I L F fu its iv rs := ⟨s _ _ h.hI, s _ _ h.hL, s _ _ h.hF, h.al.mono fun _ _ r => r.tup (Tup.of s), h.gd, h.n, h.rl, fun j it v r e1 e2 e3 => (h.ah j it v r e1 e2 e3).tup (Tup.of s)⟩
theorem LX.at {H : Hp} {I L F : Addr} {fu : Nat} {its : List Item} {iv rs : List V} (h : LX H I L F fu its iv rs) {j : Nat} {v r : V} (e1 : iv[j]? = some v) (e2 : rs[j]? = some r) : ∃ it t t' x u, it ∈ its ∧ v = .ref t ∧ r = .ref t' ∧ H t = some (.tup (hsOf it.1 ++ [x])) ∧ H t' = some (.tup (hsOf it.1 ++ [u])) ∧ CoreIn H it.2 x ∧ AhR fu H it.2 x u := by
  obtain ⟨it, e0, t, cv, rfl, h1, h2⟩ := h.al.at e1
  obtain ⟨t1, x, t', u, e3, g1, rfl, g2, g3⟩ := h.ah j it _ r e0 e1 e2
  cases e3
  rw [h1] at g1
  injection g1 with g1
  injection g1 with g1
  have q := List.append_inj_right' g1 rfl
  cases q
  exact ⟨it, t, t', cv, u, List.mem_of_getElem? e0, rfl, rfl, h1, g2, h2, g3⟩
/-- what ahead made of them, as items -/
theorem LX.found {H : Hp} {I L F : Addr} {fu : Nat} {its : List Item} {iv rs : List V} (h : LX H I L F fu its iv rs) : Al (ItIn H) (its.map fun it => (it.1, ahC fu it.2)) rs := by
  refine ⟨by rw [List.length_map, h.rl], fun j it e => ?_⟩
  rw [List.getElem?_map] at e
  obtain ⟨it0, e0, rfl⟩ := Option.map_eq_some_iff.mp e
  have hj := (List.getElem?_eq_some_iff.mp e0).1
  have hjr : j < rs.length := by rw [h.rl]; exact hj
  have hji : j < iv.length := by rw [h.al.1]; exact hj
  obtain ⟨v, ev, t, cv, rfl, h1, h2⟩ := h.al.2 j it0 e0
  obtain ⟨t1, x, t', u, e3, g1, g2, g3, g4⟩ := h.ah j it0 _ rs[j] e0 ev (List.getElem?_eq_getElem hjr)
  cases e3
  rw [h1] at g1
  injection g1 with g1
  injection g1 with g1
  have q := List.append_inj_right' g1 rfl
  cases q
  exact ⟨rs[j], List.getElem?_eq_getElem hjr, ItF.it ⟨t', u, g2, g3, ahr_core it0.2 h2 g4⟩⟩
theorem kn_none {fu : Nat} : KnRl fu kn0 kn0 := fun p => .inl ⟨rfl, rfl⟩
/-- both run -/
theorem its_run {fu : Nat} (f1 : 120 ≤ fu) (f2 : fu ≤ 1000) {its : List Item} (hg : ∀ it ∈ its, GoodIt it) : ∃ os os2 : List Out, RunI kn0 fu its os ∧ RunI kn0 fu (its.map fun it => (it.1, ahC fu it.2)) os2 ∧ ((∃ p, os = p ++ [.stop "on"]) ∨ os.map rowVs = os2.map rowVs) := by
  have hk : OkN 1000 kn0 := fun p v e => nomatch e
  refine ⟨evI fu kn0 fu its, evI fu kn0 fu (its.map fun it => (it.1, ahC fu it.2)), evI_run (M := 1000) hk (Nat.le_refl _) (fun it hi => Nat.le_trans (hg it hi).2.1 (by decide)) (by lia), evI_run (M := 1000) hk (Nat.le_refl _) (fun it hi => ?_) (by lia), sim_run f1 f2 its kn0 kn0 fu fu kn_none (Nat.le_refl _) fun it hi => (hg it hi).1⟩
  obtain ⟨it0, h0, rfl⟩ := List.mem_map.mp hi
  exact Nat.le_trans (sz_ah fu it0.2) (Nat.le_trans (hg it0 h0).2.1 (by decide))
/-- the walk over both -/
def LpW (σ0 σ1 : Option V) (I L Fd : Addr) (fu : Nat) (H1 : Hp) (i : Nat) (σ : St) (H' : Hp) : Prop := (∃ v6 v7, σ = [σ0, σ1, some (.ref I), some (.int (fu : Int)), some (.ref L), some (.ref Fd), v6, v7, none]) ∧ Same H1 H'
def spLaw (K : PySem.W.Frag) : Sp := fun vs H Q _ => ∃ (a : Addr) (ns : List Int), vs = [.ref a] ∧ SqL K H a (ns.map V.int) ∧ ns.length ≤ 63 ∧ ∀ H', Q (.bl true) H'
abbrev NL : List Str := ["_law_script", "_law_head", "_law_items_here", "_law_fuel", "_law_handed", "_law_found", "_law_item", "_law_other", "_law_rows"]
section
variable {P : Program} {w : World} {K : PySem.W.Frag} {mg : Str → Option Value} {base : Heap} {C op : Addr}
theorem scLaw : FnScope NL ["_law_script"] (defScope sLaw) := ⟨rfl, rfl, rfl, by decide +kernel, rfl, by decide +kernel, by decide +kernel⟩
abbrev cxLw (P : Program) (w : World) (K : PySem.W.Frag) (mg : Str → Option Value) (base : Heap) (f : Addr) (cdv : Value) (A : Around) (outer : List Env) (s : Shared) (H : Hp) (E : XK) : Cx := (cxOf CX0 P w K mg base NL "law" (defScope sLaw) f cdv A outer s H E).nox
variable {f : Addr} {cdv : Value} {A : Around} {outer : List Env} {s : Shared} {H : Hp} {E : XK} {Q : VK}
theorem law_rows {fR : Addr} {fdR : FuncData} (T : MT K mg C op) (hr : Room 38 (cxLw P w K mg base f cdv A outer s H E).A)
    (kR : PySem.W.keepIn K (.ref fR) = true) (bR : Binds K fdR ["items", "fuel"] []) (mR : mg "run" = some (.ref fR)) (GR : FnOk P w K mg base CX0 38 fR fdR ["items", "fuel"] spRun) (q : ∀ H', Q (.bl true) H') : ∃ t : TS, PSs (cxLw P w K mg base f cdv A outer s H E) ((defBody sLaw).drop 8) t ∧
    ∀ (σ0 σ1 σ2 σ4 σ6 σ7 : Option V) (Fd R : Addr) (fu : Nat) (its2 : List Item) (rs rw : List V) (os os2 : List Out) (H1 : Hp), H1 Fd = some (.lst rs) → Al (ItIn H1) its2 rs → its2.length ≤ 1000 → RunI kn0 fu its2 os2 → H1 R = some (.lst rw) → Al (RowIn H1) os rw → ((∃ p, os = p ++ [.stop "on"]) ∨ os.map rowVs = os2.map rowVs) →
      t { nx := fun _ H' => Q .non H', rt := Q } [σ0, σ1, σ2, some (.int (fu : Int)), σ4, some (.ref Fd), σ6, σ7, some (.ref R)] H1 := by
  have hu0 : (cxLw P w K mg base f cdv A outer s H E).A.units + 1 < cLine := hu_of hr
  have hu : (cxLw P w K mg base f cdv A outer s H E).A.units + 1 + 1 < cLine := hud_of hr (by decide)
  have z1 : 1 ≤ sizeLine := by rw [sizeLine_eq]; decide
  refine ⟨_, (pss_cons (ps_if (PW.pt (pw_and (pt_cmpR (op_neE hu0) (pw 8) (pe_lst pa_nil) (nomark _)) (pw_and1 (pt_cmpR (op_eqT hu0) (pe_ix ix_list (pw 8) (pe_un un_neg pe_int) (fun _ _ => rfl)) (pe_tup (pa_cons pe_str pa_nil)) (nomark _)))))
      (pss_one (ps_ret pe_bl))
      pss_nil)
      (pss_one (ps_ret (pe_cmpR (op_eqA hu) (pe_call GR hr (by rfl) mR kR bR .nil pass0 (pa_cons (pw 5) (pa_cons (pw 3) pa_nil))) (pw 8) (nomark _))))), ?_⟩
  intro σ0 σ1 σ2 σ4 σ6 σ7 Fd R fu its2 rs rw os os2 H1 hF aF hil hrun hR aR hsim
  have fin : os.map rowVs = os2.map rowVs → ∀ H2, Same H1 H2 → spRun [.ref Fd, .int (fu : Int)] H2 (fun x H3 => rAlk K 1 true x (.ref R) H3 Q) E0 := fun he H2 s2 => by
    refine ⟨Fd, fu, its2, rs, os2, rfl, s2 _ _ hF, aF.mono fun _ _ r => ItIn.tup (Tup.of s2) r, by lia, hrun, fun H3 D ds s3 _ hD aD => ⟨D, R, _, _, rfl, rfl, .inr ⟨SqL.of hD, SqL.of (s3 _ _ (s2 _ _ hR))⟩, rows_alk2 he.symm aD (aR.mono fun _ _ r => RowIn.tup r (Tup.of (s2.trans s3))), q _⟩⟩
  refine ⟨Nat.zero_le _, fun t5 ht5 => ?_⟩
  have s5 := same_upd (o := .lst []) ht5
  have f5 : upd H1 t5 (.lst []) t5 = some (.lst []) := upd_same
  generalize upd H1 t5 (.lst []) = H5 at s5 f5 ⊢
  have hR5 := s5 _ _ hR
  by_cases hrs : rw = []
  · have hos : os = [] := List.length_eq_zero_iff.mp (by rw [← aR.1, hrs]; rfl)
    refine ⟨R, t5, rw, rfl, rfl, SqL.of hR5, SqL.of f5, false, ⟨fun _ => hrs, fun _ => rfl⟩, false, rfl, iteF (iteF (fin ?_ H5 s5))⟩
    rcases hsim with ⟨p, e⟩ | e
    · rw [hos] at e; exact absurd e (by simp)
    · exact e
  · refine ⟨R, t5, rw, rfl, rfl, SqL.of hR5, SqL.of f5, true, ⟨(fun e => nomatch e), fun e => absurd e hrs⟩, true, rfl, iteT ?_⟩
    have hpos : 0 < rw.length := List.length_pos_iff.mpr hrs
    obtain ⟨rw', x, rfl⟩ : ∃ pre o, rw = pre ++ [o] := ⟨rw.dropLast, rw.getLast hrs, (List.dropLast_concat_getLast _).symm⟩
    obtain ⟨o, eo, ⟨tr, rfl, htr⟩⟩ := aR.at (i := rw'.length) (v := x) (by simp)
    refine ⟨_, rfl, R, _, _, _, rfl, rfl, SqL.of hR5, last_ref, z1, fun t6 ht6 => ?_⟩
    have s6 := same_upd (o := .tup [.str "on"]) ht6
    have f6 : upd H5 t6 (.tup [.str "on"]) t6 = some (.tup [.str "on"]) := upd_same
    generalize upd H5 t6 (.tup [.str "on"]) = H6 at s6 f6 ⊢
    refine ⟨tr, t6, _, _, rfl, rfl, SqT.of ((s5.trans s6) _ _ htr), SqT.of f6, row_flat o, rfl, _, rfl, ite2 (fun c1 => ?_) (fun c1 => ?_)⟩
    · exact q _
    · refine (fin ?_ H6 (s5.trans s6))
      rcases hsim with ⟨p, e⟩ | e
      · have hl := aR.1
        rw [e, List.length_append, List.length_append, List.length_singleton, List.length_singleton] at hl
        have hl' : rw'.length = p.length := by lia
        rw [e, hl', List.getElem?_append_right (Nat.le_refl _), Nat.sub_self] at eo
        cases eo
        exact absurd (show eqVs (rowVs (.stop "on")) [.str "on"] = true from rfl) c1
      · exact e
theorem law_loop {fR fA : Addr} {fdR fdA : FuncData} (T : MT K mg C op) (hr : Room 38 (cxLw P w K mg base f cdv A outer s H E).A)
    (kR : PySem.W.keepIn K (.ref fR) = true) (bR : Binds K fdR ["items", "fuel"] []) (mR : mg "run" = some (.ref fR)) (GR : FnOk P w K mg base CX0 38 fR fdR ["items", "fuel"] spRun)
    (kA : PySem.W.keepIn K (.ref fA) = true) (bA : Binds K fdA NAl []) (mA : mg "_law_alike" = some (.ref fA)) (GA : FnOk P w K mg base CX0 38 fA fdA NAl (spAl 20)) (q : ∀ H', Q (.bl true) H') : ∃ t : TS, PSs (cxLw P w K mg base f cdv A outer s H E) ((defBody sLaw).drop 6) t ∧
    ∀ (σ0 σ1 : Option V) (I L Fd : Addr) (fu : Nat) (its : List Item) (iv rs : List V) (H1 : Hp), LX H1 I L Fd fu its iv rs → 120 ≤ fu → fu ≤ 1000 →
      t { nx := fun _ H' => Q .non H', rt := Q } [σ0, σ1, some (.ref I), some (.int (fu : Int)), some (.ref L), some (.ref Fd), none, none, none] H1 := by
  have nd := scLaw.nd
  have hu : (cxLw P w K mg base f cdv A outer s H E).A.units + 1 + 1 < cLine := hud_of hr (by decide)
  obtain ⟨t8, h8, r8⟩ := law_rows (Q := Q) T hr kR bR mR GR q
  refine ⟨_, (pss_cons (ps_for PassesOwn.never rfl (pi_zip (by rfl) T.zip (pa_cons (pw 2) (pa_cons (pw 5) pa_nil))) (pg_tup rfl (pgs_cons (pg_name (i := 6) nd rfl (Or.inl rfl)) (pgs_cons (pg_name (i := 7) nd rfl (Or.inl rfl)) pgs_nil)))
      (pss_one (ps_if (PW.pt (pw_or (pt_not (pt_val (pe_callB call_isI (by rfl) T.isi bt_isinstance (pa_cons (pw 7) (pa_cons (pe_bltn (v := .ty "tuple") (by rfl) T.tuple bt_tuple rfl) pa_nil))))) (pw_or (pt_cmpR (op_neA hu) (pe_slice sl_tup (pw 7) po_none (po_some (pe_un un_neg pe_int))) (pe_slice sl_tup (pw 6) po_none (po_some (pe_un un_neg pe_int))) (nomark _)) (pw_or1 (pt_not (pt_val (pe_call GA hr (by rfl) mA kA bA .nil pass0 (pa_cons (pe_ix ix_tup (pw 6) (pe_un un_neg pe_int) (fun _ _ => rfl)) (pa_cons (pe_ix ix_tup (pw 7) (pe_un un_neg pe_int) (fun _ _ => rfl)) pa_nil)))))))))
        (pss_one (ps_ret pe_bl))
        pss_nil)))
      (pss_cons (ps_set (i := 8) nd rfl (Or.inl rfl) (pe_call GR hr (by rfl) mR kR bR .nil pass0 (pa_cons (pw 4) (pa_cons (pw 3) pa_nil)))) h8)), ?_⟩
  intro σ0 σ1 I L Fd fu its iv rs H1 h f1 f2
  refine ⟨I, Fd, rfl, ⟨_, SqL.of h.hI⟩, ⟨_, SqL.of h.hF⟩, for_zip (K := K) (a := I) (b := Fd) (xs := iv) (ys := rs) (by rw [h.al.1, h.rl]) (LpW σ0 σ1 I L Fd fu H1)
    ⟨⟨_, _, rfl⟩, Same.refl _⟩ (fun i σ H' _ hh => ⟨SqL.of (hh.2 _ _ h.hI), SqL.of (hh.2 _ _ h.hF)⟩) ?_ ?_⟩
  · rintro i v r p σ H2 e1 e2 ⟨⟨v6, v7, rfl⟩, s2⟩ hp
    have s3 := s2.trans (same_upd (o := .tup [v, r]) hp)
    have f3 : upd H2 p (.tup [v, r]) p = some (.tup [v, r]) := upd_same
    generalize upd H2 p (.tup [v, r]) = H3 at s3 f3 ⊢
    have h3 := h.same s3
    obtain ⟨it, t, t', x, u, hm, rfl, rfl, ht, ht', hx, hxu⟩ := h3.at e1 e2
    obtain ⟨n1, n2, n3⟩ := hs_ok it.1
    obtain ⟨g1, g2, g3⟩ := h3.gd it hm
    refine ⟨p, _, rfl, SqT.of f3, rfl, _, _, rfl, _, _, rfl, rfl, ?_⟩
    generalize hsOf it.1 = hs at ht ht' n1 n2 n3
    have cw : ∀ y : V, ¬ (HT.sIx (hs ++ [y]).length 0 none = 0 ∧ HT.sIx (hs ++ [y]).length (hs ++ [y]).length (some (-1)) = (hs ++ [y]).length) := fun y e => by
      have h2 := e.2
      rw [six_last, List.length_append, List.length_singleton] at h2
      lia
    refine ⟨.ref t', .ty "tuple", _, _, true, rfl, rfl, TyOf.tup ht', rfl, ⟨_, rfl, iteF ?_⟩⟩
    refine ⟨_, rfl, _, rfl, t', _, rfl, SqT.of ht', cw u, fun p4 hp4 => ?_⟩
    rw [cut_last _ _ n1]
    have s4 := same_upd (o := .tup hs) hp4
    have f4 : upd H3 p4 (.tup hs) p4 = some (.tup hs) := upd_same
    generalize upd H3 p4 (.tup hs) = H4 at s4 f4 ⊢
    refine ⟨_, rfl, _, rfl, t, _, rfl, SqT.of (s4 _ _ ht), cw x, fun p5 hp5 => ?_⟩
    rw [cut_last _ _ n1]
    have s5 := same_upd (o := .tup hs) hp5
    have f5 : upd H4 p5 (.tup hs) p5 = some (.tup hs) := upd_same
    generalize upd H4 p5 (.tup hs) = H5 at s5 f5 ⊢
    have s35 := s4.trans s5
    refine ⟨p4, p5, _, _, rfl, rfl, .inl ⟨SqT.of (s5 _ _ f4), SqT.of f5⟩, paired_of rfl (fun j x y a b => ?_), false, rfl, iteF ?_⟩
    · rw [a] at b
      cases b
      exact alk_flat _ (List.all_eq_true.mp n3 x (List.mem_of_getElem? a))
    · exact ⟨_, rfl, t, _, _, _, rfl, rfl, SqT.of (s35 _ _ ht), last_ref, _, rfl, t', _, _, _, rfl, rfl, SqT.of (s35 _ _ ht'), last_ref, x, u, it.2, fu, rfl, hx.tup (Tup.of s35), hxu.tup (Tup.of s35), g3, by have := pre_sz it.2; lia, fun H6 s6 => ⟨_, rfl, iteF ⟨⟨_, _, rfl⟩, (s3.trans s35).trans s6⟩⟩⟩
  · rintro σ H2 ⟨⟨v6, v7, rfl⟩, s2⟩
    have h2 := h.same s2
    obtain ⟨os, os2, r1, r2, hsim⟩ := its_run f1 f2 h.gd
    refine ⟨L, fu, its, iv, os, rfl, h2.hL, h2.al.mono fun _ _ r => r.it, by have := h.n; lia, r1, fun H3 R rw s3 _ hR aR => ?_⟩
    have h3 := h2.same s3
    exact r8 _ _ _ _ _ _ Fd R fu _ rs rw os os2 H3 h3.hF h3.found (by rw [List.length_map]; have := h.n; lia) r2 hR aR hsim
theorem ok_law {fR fA fH fC fD fI : Addr} {fd fdR fdA fdH fdC fdD fdI : FuncData} (F : Fun K "law" "law" sLaw f fd) (T : MT K mg C op)
    (kR : PySem.W.keepIn K (.ref fR) = true) (bR : Binds K fdR ["items", "fuel"] []) (mR : mg "run" = some (.ref fR)) (GR5 : FnOk P w K mg base CX0 5 fR fdR ["items", "fuel"] spRun)
    (kH : PySem.W.keepIn K (.ref fH) = true) (bH : Binds K fdH ["items", "fuel"] []) (mH : mg "ahead" = some (.ref fH)) (GH : FnOk P w K mg base CX0 38 fH fdH ["items", "fuel"] spAhead)
    (kA : PySem.W.keepIn K (.ref fA) = true) (bA : Binds K fdA NAl []) (mA : mg "_law_alike" = some (.ref fA)) (GA21 : FnOk P w K mg base CX0 21 fA fdA NAl (spAl 20))
    (FC : Fun K "_law_cell_at" "_law_cell_at" sCell fC fdC) (bC : Binds K fdC ["_law_script", "_law_k"] []) (mC : mg "_law_cell_at" = some (.ref fC))
    (FD : Fun K "_law_draws" "_law_draws" sDraws fD fdD) (bD : Binds K fdD ["_law_script", "_law_at", "_law_many_here", "_law_base"] []) (mD : mg "_law_draws" = some (.ref fD))
    (kI : PySem.W.keepIn K (.ref fI) = true) (bI : Binds K fdI ["_law_cells", "_law_head", "_law_count"] []) (mI : mg "_law_items" = some (.ref fI)) (GI15 : FnOk P w K mg base CX0 15 fI fdI ["_law_cells", "_law_head", "_law_count"] spItems) :
    FnOk P w K mg base CX0 39 f fd ["_law_script"] (spLaw K) := by
  have GR : FnOk P w K mg base CX0 38 fR fdR ["items", "fuel"] spRun := GR5.mono (by decide)
  have GA : FnOk P w K mg base CX0 38 fA fdA NAl (spAl 20) := GA21.mono (by decide)
  have GC : FnOk P w K mg base CX0 38 fC fdC ["_law_script", "_law_k"] (spCell K) := (ok_cell FC T).mono (by decide)
  have GD : FnOk P w K mg base CX0 38 fD fdD ["_law_script", "_law_at", "_law_many_here", "_law_base"] (spDraws K) := (ok_draws FD T FC bC mC).mono (by decide)
  have GI : FnOk P w K mg base CX0 38 fI fdI ["_law_cells", "_law_head", "_law_count"] spItems := GI15.mono (by decide)
  refine F.ok scLaw (fun vs H Q E h => ?_) (fun cdv A outer s H vs Q E hr h => ?_)
  · obtain ⟨a, ns, rfl, _⟩ := h; rfl
  · obtain ⟨a, ns, rfl, hS, hl, q⟩ := h
    have nd := scLaw.nd
    have z1 : 1 ≤ sizeLine := by rw [sizeLine_eq]; decide
    have hu : (cxLw P w K mg base f cdv A outer s H E).A.units + 1 + 1 < cLine := hud_of hr (by decide)
    obtain ⟨t6, h6, r6⟩ := law_loop (Q := Q) T hr kR bR mR GR kA bA mA GA q
    refine ⟨_, pss_cons (ps_set (i := 1) nd rfl (Or.inl rfl) (pe_call GC hr (by rfl) mC FC.kp bC .nil pass0 (pa_cons (pw 0) (pa_cons pe_int pa_nil))))
      (pss_cons (ps_set (i := 2) nd rfl (Or.inl rfl) (pe_call GI hr (by rfl) mI kI bI .nil pass0 (pa_cons (pe_call GD hr (by rfl) mD FD.kp bD .nil pass0 (pa_cons (pw 0) (pa_cons pe_int (pa_cons pe_int (pa_cons (pe_op op_powW pe_int pe_int) pa_nil))))) (pa_cons (pw 1) (pa_cons (pe_lst (pa_cons (pe_op op_modW (pe_call GC hr (by rfl) mC FC.kp bC .nil pass0 (pa_cons (pw 0) (pa_cons pe_int pa_nil))) (pe_op op_powW pe_int pe_int)) pa_nil)) pa_nil)))))
      (pss_cons (ps_set (i := 3) nd rfl (Or.inl rfl) (pe_op op_addW pe_int (pe_op op_modW (pe_op op_fdivW (pw 1) pe_int) pe_int)))
      (pss_cons (ps_set (i := 4) nd rfl (Or.inl rfl) (pe_callTy call_list_of (by rfl) T.list bt_list (pa_cons (pw 2) pa_nil)))
      (pss_cons (ps_set (i := 5) nd rfl (Or.inl rfl) (pe_call GH hr (by rfl) mH kH bH .nil pass0 (pa_cons (pw 4) (pa_cons (pw 3) pa_nil))))
      (pss_cons (ps_if (PW.pt (pw_or (pt_not (pt_val (pe_callB call_isI (by rfl) T.isi bt_isinstance (pa_cons (pw 5) (pa_cons (pe_bltn (v := .ty "list") (by rfl) T.list bt_list rfl) pa_nil))))) (pw_or (pt_cmpR op_ne (pe_callB call_len_seq (by rfl) T.len bt_len (pa_cons (pw 5) pa_nil)) (pe_callB call_len_seq (by rfl) T.len bt_len (pa_cons (pw 2) pa_nil)) (nomark _)) (pw_or1 (pt_cmpR (op_neA hu) (pw 4) (pw 2) (nomark _))))))
      (pss_one (ps_ret pe_bl))
      pss_nil) h6))))), ?_⟩
    refine ⟨a, 0, ns, rfl, by lia, hS, hl, ?_⟩
    generalize cellV ns 0 = hd
    refine ⟨⟨by decide, by decide, by decide⟩, a, ns, _, rfl, hS, hl, by decide, by decide, fun H1 Cl cs s1 hCl hcl => ?_⟩
    refine ⟨a, 1, ns, rfl, by lia, s1.seq hS, hl, ⟨by decide, by decide, by decide⟩, (by show (0 : Int) < _; decide), z1, fun Cn hCn => ?_⟩
    dsimp only
    generalize cellV ns 1 % 10 ^ (18 : Int).toNat = z
    have s2 := same_upd (o := .lst [.int z]) hCn
    have f2 : upd H1 Cn (.lst [.int z]) Cn = some (.lst [.int z]) := upd_same
    generalize upd H1 Cn (.lst [.int z]) = H2 at s2 f2 ⊢
    refine ⟨Cl, Cn, hd, z, cs, rfl, s2 _ _ hCl, hcl, f2, ne_of_none hCl hCn, fun H3 I iv its k3 hI hal hgd hn => ?_⟩
    refine ⟨⟨by decide, by decide⟩, (by show (0 : Int) < _; decide), ?_⟩
    have g0 := Int.emod_nonneg (hd / 12) (show (60 : Int) ≠ 0 by decide)
    have g1 := Int.emod_lt_of_pos (hd / 12) (show (0 : Int) < 60 by decide)
    obtain ⟨fu, hfu⟩ : ∃ fu : Nat, 120 + hd / 12 % 60 = (fu : Int) := ⟨(120 + hd / 12 % 60).toNat, by lia⟩
    have hfu' : (V.int (120 + hd / 12 % 60)) = V.int (fu : Int) := congrArg V.int hfu
    have f1 : 120 ≤ fu := by lia
    have f2' : fu ≤ 1000 := by lia
    refine ⟨I, _, rfl, .inl (SqL.of hI), fun L hL => ?_⟩
    have s4 := same_upd (o := .lst iv) hL
    have f4 : upd H3 L (.lst iv) L = some (.lst iv) := upd_same
    generalize upd H3 L (.lst iv) = H4 at s4 f4 ⊢
    have hal4 := hal.mono fun _ _ r => r.tup (Tup.of s4)
    refine ⟨L, fu, its.map (fun it => (hsOf it.1, it.2)), iv, ?_, f4, ⟨by rw [List.length_map]; exact hal4.1, fun j it e => ?_⟩, by rw [List.length_map]; lia, f2', fun it hi => ?_, fun H5 Fd rs s5 hFn hF hrl hah => ?_⟩
    · show [V.ref L, V.int (120 + hd / 12 % 60)] = _
      rw [hfu]
    · rw [List.getElem?_map] at e
      obtain ⟨it0, e0, rfl⟩ := Option.map_eq_some_iff.mp e
      obtain ⟨v, ev, t, cv, e1, h1, h2⟩ := hal4.2 j it0 e0
      exact ⟨v, ev, t, cv, e1, h1, h2⟩
    · obtain ⟨it0, h0, rfl⟩ := List.mem_map.mp hi
      obtain ⟨n1, n2, n3⟩ := hs_ok it0.1
      obtain ⟨q1, q2, q3⟩ := hgd it0 h0
      have := pre_sz it0.2
      exact ⟨n1, Nat.le_trans n2 (by decide), Nat.le_trans q3 (by decide), by show (pre it0.2).length ≤ _; lia, nw_ok f1 f2' _ q1⟩
    · rw [List.length_map] at hrl
      have hX : LX H5 I L Fd fu its iv rs := ⟨(s4.trans s5) _ _ hI, s5 _ _ f4, hF, hal4.mono fun _ _ r => r.tup (Tup.of s5), hgd, hn, hrl, fun j it v r e1 e2 e3 => hah j (hsOf it.1, it.2) v r (by rw [List.getElem?_map, e1]; rfl) e2 e3⟩
      refine ⟨.ref Fd, .ty "list", _, _, true, rfl, rfl, TyOf.lst hF, rfl, ⟨_, rfl, iteF ?_⟩⟩
      refine ⟨Fd, _, rfl, .inl (SqL.of hF), I, _, rfl, .inl (SqL.of hX.hI), rfl, false, congrArg V.bl (by rw [hrl, hal.1]; simp), iteF ?_⟩
      refine ⟨L, I, _, _, rfl, rfl, .inr ⟨SqL.of hX.hL, SqL.of hX.hI⟩, paired_of rfl (fun j x y e1 e2 => ?_), false, rfl, iteF ?_⟩
      · rw [e1] at e2
        cases e2
        obtain ⟨it, _, t, cv, rfl, _⟩ := hX.al.at e1
        exact alk_ref _ _
      · have := r6 (some (.ref a)) (some (.int hd)) I L Fd fu its iv rs H5 hX f1 f2'
        rw [← hfu'] at this
        exact this
end
end K69

set_option Elab.async false
set_option linter.all false
set_option maxRecDepth 100000
set_option maxHeartbeats 4000000
namespace K69
open PySem L2 MC
/-! ### what the top has written; the law's head -/
theorem lenS {α : Type} {us : List α} {n : Nat} (h : us.length = n + 1) : ∃ a r, us = a :: r ∧ r.length = n := by
  cases us with
  | nil => exact nomatch h
  | cons a r => exact ⟨a, r, rfl, Nat.succ.inj h⟩
theorem len1 {α : Type} {us : List α} (h : us.length = 1) : ∃ a0, us = [a0] := by
  obtain ⟨a0, r0, rfl, h0⟩ := lenS h
  obtain rfl := List.eq_nil_of_length_eq_zero h0
  exact ⟨a0, rfl⟩
theorem len2 {α : Type} {us : List α} (h : us.length = 2) : ∃ a0 a1, us = [a0, a1] := by
  obtain ⟨a0, r0, rfl, h0⟩ := lenS h
  obtain ⟨a1, r1, rfl, h1⟩ := lenS h0
  obtain rfl := List.eq_nil_of_length_eq_zero h1
  exact ⟨a0, a1, rfl⟩
theorem len3 {α : Type} {us : List α} (h : us.length = 3) : ∃ a0 a1 a2, us = [a0, a1, a2] := by
  obtain ⟨a0, r0, rfl, h0⟩ := lenS h
  obtain ⟨a1, r1, rfl, h1⟩ := lenS h0
  obtain ⟨a2, r2, rfl, h2⟩ := lenS h1
  obtain rfl := List.eq_nil_of_length_eq_zero h2
  exact ⟨a0, a1, a2, rfl⟩
theorem len4 {α : Type} {us : List α} (h : us.length = 4) : ∃ a0 a1 a2 a3, us = [a0, a1, a2, a3] := by
  obtain ⟨a0, r0, rfl, h0⟩ := lenS h
  obtain ⟨a1, r1, rfl, h1⟩ := lenS h0
  obtain ⟨a2, r2, rfl, h2⟩ := lenS h1
  obtain ⟨a3, r3, rfl, h3⟩ := lenS h2
  obtain rfl := List.eq_nil_of_length_eq_zero h3
  exact ⟨a0, a1, a2, a3, rfl⟩
theorem len5 {α : Type} {us : List α} (h : us.length = 5) : ∃ a0 a1 a2 a3 a4, us = [a0, a1, a2, a3, a4] := by
  obtain ⟨a0, r0, rfl, h0⟩ := lenS h
  obtain ⟨a1, r1, rfl, h1⟩ := lenS h0
  obtain ⟨a2, r2, rfl, h2⟩ := lenS h1
  obtain ⟨a3, r3, rfl, h3⟩ := lenS h2
  obtain ⟨a4, r4, rfl, h4⟩ := lenS h3
  obtain rfl := List.eq_nil_of_length_eq_zero h4
  exact ⟨a0, a1, a2, a3, a4, rfl⟩
theorem len6 {α : Type} {us : List α} (h : us.length = 6) : ∃ a0 a1 a2 a3 a4 a5, us = [a0, a1, a2, a3, a4, a5] := by
  obtain ⟨a0, r0, rfl, h0⟩ := lenS h
  obtain ⟨a1, r1, rfl, h1⟩ := lenS h0
  obtain ⟨a2, r2, rfl, h2⟩ := lenS h1
  obtain ⟨a3, r3, rfl, h3⟩ := lenS h2
  obtain ⟨a4, r4, rfl, h4⟩ := lenS h3
  obtain ⟨a5, r5, rfl, h5⟩ := lenS h4
  obtain rfl := List.eq_nil_of_length_eq_zero h5
  exact ⟨a0, a1, a2, a3, a4, a5, rfl⟩
theorem all_mk {l : PySem.W.OpenLaw} {w : World} {K : PySem.W.Frag} {h : Heap} {mg : Str → Option Value} {fa gC tO TR TA2 fA fVI fRK fE1 fE2 fE3 fH1 fH2 fH3 fC fD2 fN fL2 fW fM2 fF2 fQ2 fO2 fS fI2 fJ2 fZ fR fA2 fMI fMV fMW fMF fMC fMB fME fML : Addr} (X : K.In h) (G : h.Ns mainGlobals mg) (hfa : mg "law" = some (.ref fa))
    {odtO odTR odTA2 odA anA odVI anVI odRK anRK odE1 anE1 odE2 anE2 odE3 anE3 odH1 anH1 odH2 anH2 odH3 anH3 odC anC odD2 anD2 odN anN odL2 anL2 odW anW odM2 anM2 odF2 anF2 odQ2 anQ2 odO2 anO2 odS anS odI2 anI2 odJ2 anJ2 odZ anZ odR anR odA2 anA2 odMI anMI odMV anMV odMW anMW odMF anMF odMC anMC odMB anMB odME anME odML anML : Option Addr} {sltO slTR slTA2 slA slVI slRK slE1 slE2 slE3 slH1 slH2 slH3 slC slD2 slN slL2 slW slM2 slF2 slQ2 slO2 slS slI2 slJ2 slZ slR slA2 slMI slMV slMW slMF slMC slMB slME slML : Array (Option Value)} {ocTR ocTA2 ocA kVA dcA pmA cdA ctA ocVI kVVI dcVI pmVI cdVI ctVI ocRK kVRK dcRK pmRK cdRK ctRK ocE1 kVE1 dcE1 pmE1 cdE1 ctE1 ocE2 kVE2 dcE2 pmE2 cdE2 ctE2 ocE3 kVE3 dcE3 pmE3 cdE3 ctE3 ocH1 kVH1 dcH1 pmH1 cdH1 ctH1 ocH2 kVH2 dcH2 pmH2 cdH2 ctH2 ocH3 kVH3 dcH3 pmH3 cdH3 ctH3 ocC kVC dcC pmC cdC ctC ocD2 kVD2 dcD2 pmD2 cdD2 ctD2 ocN kVN dcN pmN cdN ctN ocL2 kVL2 dcL2 pmL2 cdL2 ctL2 ocW kVW dcW pmW cdW ctW ocM2 kVM2 dcM2 pmM2 cdM2 ctM2 ocF2 kVF2 dcF2 pmF2 cdF2 ctF2 ocQ2 kVQ2 dcQ2 pmQ2 cdQ2 ctQ2 ocO2 kVO2 dcO2 pmO2 cdO2 ctO2 ocS kVS dcS pmS cdS ctS ocI2 kVI2 dcI2 pmI2 cdI2 ctI2 ocJ2 kVJ2 dcJ2 pmJ2 cdJ2 ctJ2 ocZ kVZ dcZ pmZ cdZ ctZ ocR kVR dcR pmR cdR ctR ocA2 kVA2 dcA2 pmA2 cdA2 ctA2 ocMI kVMI dcMI pmMI cdMI ctMI ocMV kVMV dcMV pmMV cdMV ctMV ocMW kVMW dcMW pmMW cdMW ctMW ocMF kVMF dcMF pmMF cdMF ctMF ocMC kVMC dcMC pmMC cdMC ctMC ocMB kVMB dcMB pmMB cdMB ctMB ocME kVME dcME pmME cdME ctME ocML kVML dcML pmML cdML ctML : Value}
    {ntO nTR nTA2 : Nat}
    {tkO0 tkO1 tkO2 tkTR0 tkTA20 : Tok}
    (qG : PySem.W.nsIn K mainGlobals "Machine" = some (some (.ref gC)))
    (qO : PySem.W.nsIn K mainGlobals "OPERATIONS" = some (some (.ref tO)))
    (ltO : K.lookup tO = some ⟨.type "tuple", odtO, .seq #[.str "add" tkO0, .str "sub" tkO1, .str "less" tkO2] ntO, sltO⟩)
    (aA : PySem.W.nsIn K mainGlobals "answer_of" = some (some (.ref fA)))
    (lA : K.lookup fA = some ⟨ocA, odA, .func (PySem.W.fnOf "answer_of" "answer_of" (defArgs sAns) (defBody sAns) (defScope sAns) .none kVA dcA pmA anA cdA ctA), slA⟩)
    (cA : PySem.W.codeIn K cdA "answer_of" = true)
    (kA : PySem.W.keepIn K (.ref fA) = true)
    (aVI : PySem.W.nsIn K mainGlobals "value_in" = some (some (.ref fVI)))
    (lVI : K.lookup fVI = some ⟨ocVI, odVI, .func (PySem.W.fnOf "value_in" "value_in" (defArgs sVIn) (defBody sVIn) (defScope sVIn) .none kVVI dcVI pmVI anVI cdVI ctVI), slVI⟩)
    (cVI : PySem.W.codeIn K cdVI "value_in" = true)
    (kVI : PySem.W.keepIn K (.ref fVI) = true)
    (aRK : PySem.W.nsIn K mainGlobals "reckoned" = some (some (.ref fRK)))
    (lRK : K.lookup fRK = some ⟨ocRK, odRK, .func (PySem.W.fnOf "reckoned" "reckoned" (defArgs sReck) (defBody sReck) (defScope sReck) .none kVRK dcRK pmRK anRK cdRK ctRK), slRK⟩)
    (cRK : PySem.W.codeIn K cdRK "reckoned" = true)
    (kRK : PySem.W.keepIn K (.ref fRK) = true)
    (aE1 : PySem.W.nsIn K mainGlobals "inner_cores" = some (some (.ref fE1)))
    (lE1 : K.lookup fE1 = some ⟨ocE1, odE1, .func (PySem.W.fnOf "inner_cores" "inner_cores" (defArgs sInner) (defBody sInner) (defScope sInner) .none kVE1 dcE1 pmE1 anE1 cdE1 ctE1), slE1⟩)
    (cE1 : PySem.W.codeIn K cdE1 "inner_cores" = true)
    (kE1 : PySem.W.keepIn K (.ref fE1) = true)
    (aE2 : PySem.W.nsIn K mainGlobals "with_inner" = some (some (.ref fE2)))
    (lE2 : K.lookup fE2 = some ⟨ocE2, odE2, .func (PySem.W.fnOf "with_inner" "with_inner" (defArgs sWith) (defBody sWith) (defScope sWith) .none kVE2 dcE2 pmE2 anE2 cdE2 ctE2), slE2⟩)
    (cE2 : PySem.W.codeIn K cdE2 "with_inner" = true)
    (kE2 : PySem.W.keepIn K (.ref fE2) = true)
    (aE3 : PySem.W.nsIn K mainGlobals "cores_within" = some (some (.ref fE3)))
    (lE3 : K.lookup fE3 = some ⟨ocE3, odE3, .func (PySem.W.fnOf "cores_within" "cores_within" (defArgs sWithin) (defBody sWithin) (defScope sWithin) .none kVE3 dcE3 pmE3 anE3 cdE3 ctE3), slE3⟩)
    (cE3 : PySem.W.codeIn K cdE3 "cores_within" = true)
    (kE3 : PySem.W.keepIn K (.ref fE3) = true)
    (aH1 : PySem.W.nsIn K mainGlobals "ahead_in" = some (some (.ref fH1)))
    (lH1 : K.lookup fH1 = some ⟨ocH1, odH1, .func (PySem.W.fnOf "ahead_in" "ahead_in" (defArgs sAh) (defBody sAh) (defScope sAh) .none kVH1 dcH1 pmH1 anH1 cdH1 ctH1), slH1⟩)
    (cH1 : PySem.W.codeIn K cdH1 "ahead_in" = true)
    (kH1 : PySem.W.keepIn K (.ref fH1) = true)
    (aH2 : PySem.W.nsIn K mainGlobals "number_of" = some (some (.ref fH2)))
    (lH2 : K.lookup fH2 = some ⟨ocH2, odH2, .func (PySem.W.fnOf "number_of" "number_of" (defArgs sNum) (defBody sNum) (defScope sNum) .none kVH2 dcH2 pmH2 anH2 cdH2 ctH2), slH2⟩)
    (cH2 : PySem.W.codeIn K cdH2 "number_of" = true)
    (kH2 : PySem.W.keepIn K (.ref fH2) = true)
    (aH3 : PySem.W.nsIn K mainGlobals "sees_outside" = some (some (.ref fH3)))
    (lH3 : K.lookup fH3 = some ⟨ocH3, odH3, .func (PySem.W.fnOf "sees_outside" "sees_outside" (defArgs sSees) (defBody sSees) (defScope sSees) .none kVH3 dcH3 pmH3 anH3 cdH3 ctH3), slH3⟩)
    (cH3 : PySem.W.codeIn K cdH3 "sees_outside" = true)
    (kH3 : PySem.W.keepIn K (.ref fH3) = true)
    (aC : PySem.W.nsIn K mainGlobals "_law_cell_at" = some (some (.ref fC)))
    (lC : K.lookup fC = some ⟨ocC, odC, .func (PySem.W.fnOf "_law_cell_at" "_law_cell_at" (defArgs sCell) (defBody sCell) (defScope sCell) .none kVC dcC pmC anC cdC ctC), slC⟩)
    (cC : PySem.W.codeIn K cdC "_law_cell_at" = true)
    (kC : PySem.W.keepIn K (.ref fC) = true)
    (aD2 : PySem.W.nsIn K mainGlobals "_law_draws" = some (some (.ref fD2)))
    (lD2 : K.lookup fD2 = some ⟨ocD2, odD2, .func (PySem.W.fnOf "_law_draws" "_law_draws" (defArgs sDraws) (defBody sDraws) (defScope sDraws) .none kVD2 dcD2 pmD2 anD2 cdD2 ctD2), slD2⟩)
    (cD2 : PySem.W.codeIn K cdD2 "_law_draws" = true)
    (kD2 : PySem.W.keepIn K (.ref fD2) = true)
    (aN : PySem.W.nsIn K mainGlobals "_law_next" = some (some (.ref fN)))
    (lN : K.lookup fN = some ⟨ocN, odN, .func (PySem.W.fnOf "_law_next" "_law_next" (defArgs sNext) (defBody sNext) (defScope sNext) .none kVN dcN pmN anN cdN ctN), slN⟩)
    (cN : PySem.W.codeIn K cdN "_law_next" = true)
    (kN : PySem.W.keepIn K (.ref fN) = true)
    (aL2 : PySem.W.nsIn K mainGlobals "_law_leaf" = some (some (.ref fL2)))
    (lL2 : K.lookup fL2 = some ⟨ocL2, odL2, .func (PySem.W.fnOf "_law_leaf" "_law_leaf" (defArgs sLeaf) (defBody sLeaf) (defScope sLeaf) .none kVL2 dcL2 pmL2 anL2 cdL2 ctL2), slL2⟩)
    (cL2 : PySem.W.codeIn K cdL2 "_law_leaf" = true)
    (kL2 : PySem.W.keepIn K (.ref fL2) = true)
    (aW : PySem.W.nsIn K mainGlobals "_law_new" = some (some (.ref fW)))
    (lW : K.lookup fW = some ⟨ocW, odW, .func (PySem.W.fnOf "_law_new" "_law_new" (defArgs sNew) (defBody sNew) (defScope sNew) .none kVW dcW pmW anW cdW ctW), slW⟩)
    (cW : PySem.W.codeIn K cdW "_law_new" = true)
    (kW : PySem.W.keepIn K (.ref fW) = true)
    (aM2 : PySem.W.nsIn K mainGlobals "_law_many" = some (some (.ref fM2)))
    (lM2 : K.lookup fM2 = some ⟨ocM2, odM2, .func (PySem.W.fnOf "_law_many" "_law_many" (defArgs sMany) (defBody sMany) (defScope sMany) .none kVM2 dcM2 pmM2 anM2 cdM2 ctM2), slM2⟩)
    (cM2 : PySem.W.codeIn K cdM2 "_law_many" = true)
    (kM2 : PySem.W.keepIn K (.ref fM2) = true)
    (aF2 : PySem.W.nsIn K mainGlobals "_law_fn" = some (some (.ref fF2)))
    (lF2 : K.lookup fF2 = some ⟨ocF2, odF2, .func (PySem.W.fnOf "_law_fn" "_law_fn" (defArgs sFn) (defBody sFn) (defScope sFn) .none kVF2 dcF2 pmF2 anF2 cdF2 ctF2), slF2⟩)
    (cF2 : PySem.W.codeIn K cdF2 "_law_fn" = true)
    (kF2 : PySem.W.keepIn K (.ref fF2) = true)
    (aQ2 : PySem.W.nsIn K mainGlobals "_law_called" = some (some (.ref fQ2)))
    (lQ2 : K.lookup fQ2 = some ⟨ocQ2, odQ2, .func (PySem.W.fnOf "_law_called" "_law_called" (defArgs sCalled) (defBody sCalled) (defScope sCalled) .none kVQ2 dcQ2 pmQ2 anQ2 cdQ2 ctQ2), slQ2⟩)
    (cQ2 : PySem.W.codeIn K cdQ2 "_law_called" = true)
    (kQ2 : PySem.W.keepIn K (.ref fQ2) = true)
    (aO2 : PySem.W.nsIn K mainGlobals "_law_odd" = some (some (.ref fO2)))
    (lO2 : K.lookup fO2 = some ⟨ocO2, odO2, .func (PySem.W.fnOf "_law_odd" "_law_odd" (defArgs sOdd) (defBody sOdd) (defScope sOdd) .none kVO2 dcO2 pmO2 anO2 cdO2 ctO2), slO2⟩)
    (cO2 : PySem.W.codeIn K cdO2 "_law_odd" = true)
    (kO2 : PySem.W.keepIn K (.ref fO2) = true)
    (aS : PySem.W.nsIn K mainGlobals "_law_sum" = some (some (.ref fS)))
    (lS : K.lookup fS = some ⟨ocS, odS, .func (PySem.W.fnOf "_law_sum" "_law_sum" (defArgs sSum) (defBody sSum) (defScope sSum) .none kVS dcS pmS anS cdS ctS), slS⟩)
    (cS : PySem.W.codeIn K cdS "_law_sum" = true)
    (kS : PySem.W.keepIn K (.ref fS) = true)
    (aI2 : PySem.W.nsIn K mainGlobals "_law_items" = some (some (.ref fI2)))
    (lI2 : K.lookup fI2 = some ⟨ocI2, odI2, .func (PySem.W.fnOf "_law_items" "_law_items" (defArgs sItems) (defBody sItems) (defScope sItems) .none kVI2 dcI2 pmI2 anI2 cdI2 ctI2), slI2⟩)
    (cI2 : PySem.W.codeIn K cdI2 "_law_items" = true)
    (kI2 : PySem.W.keepIn K (.ref fI2) = true)
    (aJ2 : PySem.W.nsIn K mainGlobals "_law_alike" = some (some (.ref fJ2)))
    (lJ2 : K.lookup fJ2 = some ⟨ocJ2, odJ2, .func (PySem.W.fnOf "_law_alike" "_law_alike" (defArgs sAl) (defBody sAl) (defScope sAl) .none kVJ2 dcJ2 pmJ2 anJ2 cdJ2 ctJ2), slJ2⟩)
    (cJ2 : PySem.W.codeIn K cdJ2 "_law_alike" = true)
    (kJ2 : PySem.W.keepIn K (.ref fJ2) = true)
    (aZ : PySem.W.nsIn K mainGlobals "law" = some (some (.ref fZ)))
    (lZ : K.lookup fZ = some ⟨ocZ, odZ, .func (PySem.W.fnOf "law" "law" (defArgs sLaw) (defBody sLaw) (defScope sLaw) .none kVZ dcZ pmZ anZ cdZ ctZ), slZ⟩)
    (cZ : PySem.W.codeIn K cdZ "law" = true)
    (kZ : PySem.W.keepIn K (.ref fZ) = true)
    (aR : PySem.W.nsIn K mainGlobals "run" = some (some (.ref fR)))
    (lR : K.lookup fR = some ⟨ocR, odR, .func (PySem.W.fnOf "run" "run" (defArgs sRun) (defBody sRun) (defScope sRun) (.ref TR) kVR dcR pmR anR cdR ctR), slR⟩)
    (cR : PySem.W.codeIn K cdR "run" = true)
    (kR : PySem.W.keepIn K (.ref fR) = true)
    (lTR : K.lookup TR = some ⟨ocTR, odTR, .seq #[.int 200 tkTR0] nTR, slTR⟩)
    (aA2 : PySem.W.nsIn K mainGlobals "ahead" = some (some (.ref fA2)))
    (lA2 : K.lookup fA2 = some ⟨ocA2, odA2, .func (PySem.W.fnOf "ahead" "ahead" (defArgs sAhead) (defBody sAhead) (defScope sAhead) (.ref TA2) kVA2 dcA2 pmA2 anA2 cdA2 ctA2), slA2⟩)
    (cA2 : PySem.W.codeIn K cdA2 "ahead" = true)
    (kA2 : PySem.W.keepIn K (.ref fA2) = true)
    (lTA2 : K.lookup TA2 = some ⟨ocTA2, odTA2, .seq #[.int 200 tkTA20] nTA2, slTA2⟩)
    (aMI : PySem.W.findIn K (.ref gC) "__init__" = some (some (.ref fMI)))
    (lMI : K.lookup fMI = some ⟨ocMI, odMI, .func (PySem.W.fnOf "__init__" "Machine.__init__" (defArgs sMInit) (defBody sMInit) (defScope sMInit) .none kVMI dcMI pmMI anMI cdMI ctMI), slMI⟩)
    (cMI : PySem.W.codeIn K cdMI "Machine.__init__" = true)
    (kMI : PySem.W.keepIn K (.ref fMI) = true)
    (iMI : PySem.W.isFn K (.ref fMI) = true)
    (aMV : PySem.W.findIn K (.ref gC) "value_of" = some (some (.ref fMV)))
    (lMV : K.lookup fMV = some ⟨ocMV, odMV, .func (PySem.W.fnOf "value_of" "Machine.value_of" (defArgs sValue) (defBody sValue) (defScope sValue) .none kVMV dcMV pmMV anMV cdMV ctMV), slMV⟩)
    (cMV : PySem.W.codeIn K cdMV "Machine.value_of" = true)
    (kMV : PySem.W.keepIn K (.ref fMV) = true)
    (iMV : PySem.W.isFn K (.ref fMV) = true)
    (aMW : PySem.W.findIn K (.ref gC) "work" = some (some (.ref fMW)))
    (lMW : K.lookup fMW = some ⟨ocMW, odMW, .func (PySem.W.fnOf "work" "Machine.work" (defArgs sWork) (defBody sWork) (defScope sWork) .none kVMW dcMW pmMW anMW cdMW ctMW), slMW⟩)
    (cMW : PySem.W.codeIn K cdMW "Machine.work" = true)
    (kMW : PySem.W.keepIn K (.ref fMW) = true)
    (iMW : PySem.W.isFn K (.ref fMW) = true)
    (aMF : PySem.W.findIn K (.ref gC) "found_as" = some (some (.ref fMF)))
    (lMF : K.lookup fMF = some ⟨ocMF, odMF, .func (PySem.W.fnOf "found_as" "Machine.found_as" (defArgs sFound) (defBody sFound) (defScope sFound) .none kVMF dcMF pmMF anMF cdMF ctMF), slMF⟩)
    (cMF : PySem.W.codeIn K cdMF "Machine.found_as" = true)
    (kMF : PySem.W.keepIn K (.ref fMF) = true)
    (iMF : PySem.W.isFn K (.ref fMF) = true)
    (aMC : PySem.W.findIn K (.ref gC) "choose" = some (some (.ref fMC)))
    (lMC : K.lookup fMC = some ⟨ocMC, odMC, .func (PySem.W.fnOf "choose" "Machine.choose" (defArgs sChoose) (defBody sChoose) (defScope sChoose) .none kVMC dcMC pmMC anMC cdMC ctMC), slMC⟩)
    (cMC : PySem.W.codeIn K cdMC "Machine.choose" = true)
    (kMC : PySem.W.keepIn K (.ref fMC) = true)
    (iMC : PySem.W.isFn K (.ref fMC) = true)
    (aMB : PySem.W.findIn K (.ref gC) "begin_call" = some (some (.ref fMB)))
    (lMB : K.lookup fMB = some ⟨ocMB, odMB, .func (PySem.W.fnOf "begin_call" "Machine.begin_call" (defArgs sBegin) (defBody sBegin) (defScope sBegin) .none kVMB dcMB pmMB anMB cdMB ctMB), slMB⟩)
    (cMB : PySem.W.codeIn K cdMB "Machine.begin_call" = true)
    (kMB : PySem.W.keepIn K (.ref fMB) = true)
    (iMB : PySem.W.isFn K (.ref fMB) = true)
    (aME : PySem.W.findIn K (.ref gC) "end_call" = some (some (.ref fME)))
    (lME : K.lookup fME = some ⟨ocME, odME, .func (PySem.W.fnOf "end_call" "Machine.end_call" (defArgs sEnd) (defBody sEnd) (defScope sEnd) .none kVME dcME pmME anME cdME ctME), slME⟩)
    (cME : PySem.W.codeIn K cdME "Machine.end_call" = true)
    (kME : PySem.W.keepIn K (.ref fME) = true)
    (iME : PySem.W.isFn K (.ref fME) = true)
    (aML : PySem.W.findIn K (.ref gC) "call_fn" = some (some (.ref fML)))
    (lML : K.lookup fML = some ⟨ocML, odML, .func (PySem.W.fnOf "call_fn" "Machine.call_fn" (defArgs sCallFn) (defBody sCallFn) (defScope sCallFn) .none kVML dcML pmML anML cdML ctML), slML⟩)
    (cML : PySem.W.codeIn K cdML "Machine.call_fn" = true)
    (kML : PySem.W.keepIn K (.ref fML) = true)
    (iML : PySem.W.isFn K (.ref fML) = true)
    (mkC : PySem.W.makesIn K gC = true)
    (kcC : PySem.W.keepIn K (.ref gC) = true)
    (pgC : PySem.W.plainGet K gC Str.empty = true)
    (hdC : PySem.W.hasDictIn K gC = true)
    (poC : PySem.W.plainOver K gC = true)
    (saC : PySem.W.findIn K (.ref gC) "__setattr__" = some (some (.builtin "object.__setattr__")))
    (n_fuel : PySem.W.findIn K (.ref gC) "fuel" = some none)
    (n_known : PySem.W.findIn K (.ref gC) "known" = some none)
    (n_tasks : PySem.W.findIn K (.ref gC) "tasks" = some none)
    (n_results : PySem.W.findIn K (.ref gC) "results" = some none)
    (n_ending : PySem.W.findIn K (.ref gC) "ending" = some none)
    (z0 : PySem.W.nsIn K mainGlobals "len" = some none)
    (z1 : PySem.W.nsIn K mainGlobals "list" = some none)
    (z2 : PySem.W.nsIn K mainGlobals "reversed" = some none)
    (z3 : PySem.W.nsIn K mainGlobals "range" = some none)
    (z4 : PySem.W.nsIn K mainGlobals "isinstance" = some none)
    (z5 : PySem.W.nsIn K mainGlobals "tuple" = some none)
    (z6 : PySem.W.nsIn K mainGlobals "int" = some none)
    (z7 : PySem.W.nsIn K mainGlobals "bool" = some none)
    (z8 : PySem.W.nsIn K mainGlobals "max" = some none)
    (z9 : PySem.W.nsIn K mainGlobals "min" = some none)
    (z10 : PySem.W.nsIn K mainGlobals "sum" = some none)
    (z11 : PySem.W.nsIn K mainGlobals "zip" = some none)
    (z12 : PySem.W.nsIn K mainGlobals "dict" = some none)
    (z13 : PySem.W.nsIn K mainGlobals "any" = some none)
    (z14 : PySem.W.nsIn K mainGlobals "abs" = some none)
    (z15 : PySem.W.nsIn K mainGlobals "all" = some none)
    : ∃ fd : FuncData, (∀ (s : Shared) (v : Value), BindsTo s fd ⟨[v], []⟩ [("_law_script", v)]) ∧ ∀ base : Heap, K.In base → base.Ns mainGlobals mg → FnOk l.prog w K mg base CX0 39 fa fd ["_law_script"] (spLaw K) := by
  have e := hfa.symm.trans (PySem.W.mg_of X G aZ)
  cases e
  have opO : ∀ H, SqT K H tO [.str "add", .str "sub", .str "less"] := fun H => .inr ⟨_, _, _, ltO, rfl, rfl, (by show 3 ≤ sizeLine; rw [sizeLine_eq]; decide), (.cons ⟨_, rfl⟩ (.cons ⟨_, rfl⟩ (.cons ⟨_, rfl⟩ .nil)))⟩
  have FA := fun_mk (st := sAns) lA cA kA
  have bA := FA.binds (ps := ["value"]) fun _ _ _ _ _ _ us hl => by obtain ⟨_, rfl⟩ := len1 hl; rfl
  have FVI := fun_mk (st := sVIn) lVI cVI kVI
  have bVI := FVI.binds (ps := ["frame", "place", "known"]) fun _ _ _ _ _ _ us hl => by obtain ⟨_, _, _, rfl⟩ := len3 hl; rfl
  have FRK := fun_mk (st := sReck) lRK cRK kRK
  have bRK := FRK.binds (ps := ["operation", "values"]) fun _ _ _ _ _ _ us hl => by obtain ⟨_, _, rfl⟩ := len2 hl; rfl
  have FE1 := fun_mk (st := sInner) lE1 cE1 kE1
  have bE1 := FE1.binds (ps := ["core"]) fun _ _ _ _ _ _ us hl => by obtain ⟨_, rfl⟩ := len1 hl; rfl
  have FE2 := fun_mk (st := sWith) lE2 cE2 kE2
  have bE2 := FE2.binds (ps := ["core", "inner"]) fun _ _ _ _ _ _ us hl => by obtain ⟨_, _, rfl⟩ := len2 hl; rfl
  have FE3 := fun_mk (st := sWithin) lE3 cE3 kE3
  have bE3 := FE3.binds (ps := ["core"]) fun _ _ _ _ _ _ us hl => by obtain ⟨_, rfl⟩ := len1 hl; rfl
  have FH1 := fun_mk (st := sAh) lH1 cH1 kH1
  have bH1 := FH1.binds (ps := ["core", "fuel"]) fun _ _ _ _ _ _ us hl => by obtain ⟨_, _, rfl⟩ := len2 hl; rfl
  have FH2 := fun_mk (st := sNum) lH2 cH2 kH2
  have bH2 := FH2.binds (ps := ["core", "fuel"]) fun _ _ _ _ _ _ us hl => by obtain ⟨_, _, rfl⟩ := len2 hl; rfl
  have FH3 := fun_mk (st := sSees) lH3 cH3 kH3
  have bH3 := FH3.binds (ps := ["core"]) fun _ _ _ _ _ _ us hl => by obtain ⟨_, rfl⟩ := len1 hl; rfl
  have FC := fun_mk (st := sCell) lC cC kC
  have bC := FC.binds (ps := ["_law_script", "_law_k"]) fun _ _ _ _ _ _ us hl => by obtain ⟨_, _, rfl⟩ := len2 hl; rfl
  have FD2 := fun_mk (st := sDraws) lD2 cD2 kD2
  have bD2 := FD2.binds (ps := ["_law_script", "_law_at", "_law_many_here", "_law_base"]) fun _ _ _ _ _ _ us hl => by obtain ⟨_, _, _, _, rfl⟩ := len4 hl; rfl
  have FN := fun_mk (st := sNext) lN cN kN
  have bN := FN.binds (ps := ["_law_draws_here"]) fun _ _ _ _ _ _ us hl => by obtain ⟨_, rfl⟩ := len1 hl; rfl
  have FL2 := fun_mk (st := sLeaf) lL2 cL2 kL2
  have bL2 := FL2.binds (ps := ["_law_cell", "_law_known"]) fun _ _ _ _ _ _ us hl => by obtain ⟨_, _, rfl⟩ := len2 hl; rfl
  have FW := fun_mk (st := sNew) lW cW kW
  have bW := FW.binds (ps := ["_law_count", "_law_many_here"]) fun _ _ _ _ _ _ us hl => by obtain ⟨_, _, rfl⟩ := len2 hl; rfl
  have FM2 := fun_mk (st := sMany) lM2 cM2 kM2
  have bM2 := FM2.binds (ps := ["_law_draws_here", "_law_depth", "_law_known", "_law_tops", "_law_count", "_law_many_here"]) fun _ _ _ _ _ _ us hl => by obtain ⟨_, _, _, _, _, _, rfl⟩ := len6 hl; rfl
  have FF2 := fun_mk (st := sFn) lF2 cF2 kF2
  have bF2 := FF2.binds (ps := ["_law_draws_here", "_law_depth", "_law_known", "_law_tops", "_law_count", "_law_many_here"]) fun _ _ _ _ _ _ us hl => by obtain ⟨_, _, _, _, _, _, rfl⟩ := len6 hl; rfl
  have FQ2 := fun_mk (st := sCalled) lQ2 cQ2 kQ2
  have bQ2 := FQ2.binds (ps := ["_law_draws_here", "_law_depth", "_law_known", "_law_tops", "_law_count", "_law_more"]) fun _ _ _ _ _ _ us hl => by obtain ⟨_, _, _, _, _, _, rfl⟩ := len6 hl; rfl
  have FO2 := fun_mk (st := sOdd) lO2 cO2 kO2
  have bO2 := FO2.binds (ps := ["_law_draws_here", "_law_depth", "_law_known", "_law_tops", "_law_count", "_law_more"]) fun _ _ _ _ _ _ us hl => by obtain ⟨_, _, _, _, _, _, rfl⟩ := len6 hl; rfl
  have FS := fun_mk (st := sSum) lS cS kS
  have bS := FS.binds (ps := ["_law_draws_here", "_law_depth", "_law_known", "_law_tops", "_law_count"]) fun _ _ _ _ _ _ us hl => by obtain ⟨_, _, _, _, _, rfl⟩ := len5 hl; rfl
  have FI2 := fun_mk (st := sItems) lI2 cI2 kI2
  have bI2 := FI2.binds (ps := ["_law_cells", "_law_head", "_law_count"]) fun _ _ _ _ _ _ us hl => by obtain ⟨_, _, _, rfl⟩ := len3 hl; rfl
  have FJ2 := fun_mk (st := sAl) lJ2 cJ2 kJ2
  have bJ2 := FJ2.binds (ps := ["_law_core", "_law_other"]) fun _ _ _ _ _ _ us hl => by obtain ⟨_, _, rfl⟩ := len2 hl; rfl
  have FZ := fun_mk (st := sLaw) lZ cZ kZ
  have FMI := fun_mk (st := sMInit) lMI cMI kMI
  have bMI := FMI.binds (ps := ["self", "fuel"]) fun _ _ _ _ _ _ us hl => by obtain ⟨_, _, rfl⟩ := len2 hl; rfl
  have FMV := fun_mk (st := sValue) lMV cMV kMV
  have bMV := FMV.binds (ps := ["self", "core"]) fun _ _ _ _ _ _ us hl => by obtain ⟨_, _, rfl⟩ := len2 hl; rfl
  have FMW := fun_mk (st := sWork) lMW cMW kMW
  have bMW := FMW.binds (ps := ["self", "core", "frame"]) fun _ _ _ _ _ _ us hl => by obtain ⟨_, _, _, rfl⟩ := len3 hl; rfl
  have FMF := fun_mk (st := sFound) lMF cMF kMF
  have bMF := FMF.binds (ps := ["self", "value"]) fun _ _ _ _ _ _ us hl => by obtain ⟨_, _, rfl⟩ := len2 hl; rfl
  have FMC := fun_mk (st := sChoose) lMC cMC kMC
  have bMC := FMC.binds (ps := ["self", "core", "frame"]) fun _ _ _ _ _ _ us hl => by obtain ⟨_, _, _, rfl⟩ := len3 hl; rfl
  have FMB := fun_mk (st := sBegin) lMB cMB kMB
  have bMB := FMB.binds (ps := ["self", "core", "frame"]) fun _ _ _ _ _ _ us hl => by obtain ⟨_, _, _, rfl⟩ := len3 hl; rfl
  have FME := fun_mk (st := sEnd) lME cME kME
  have bME := FME.binds (ps := ["self", "count"]) fun _ _ _ _ _ _ us hl => by obtain ⟨_, _, rfl⟩ := len2 hl; rfl
  have FML := fun_mk (st := sCallFn) lML cML kML
  have bML := FML.binds (ps := ["self", "value", "values"]) fun _ _ _ _ _ _ us hl => by obtain ⟨_, _, _, rfl⟩ := len3 hl; rfl
  have FR := fund_mk (st := sRun) lR cR kR
  have bR : Binds K (PySem.W.fnOf "run" "run" (defArgs sRun) (defBody sRun) (defScope sRun) (.ref TR) kVR dcR pmR anR cdR ctR) ["items", "fuel"] [.int 200 tkTR0] := fun s us hK hl => by
    obtain ⟨_, rfl⟩ := len1 (show us.length = 1 by simpa using hl)
    exact PySem.W.binds_K hK rfl lTR rfl rfl rfl
  have bRf : Binds K (PySem.W.fnOf "run" "run" (defArgs sRun) (defBody sRun) (defScope sRun) (.ref TR) kVR dcR pmR anR cdR ctR) ["items", "fuel"] [] := fun s us hK hl => by
    obtain ⟨_, _, rfl⟩ := len2 (show us.length = 2 by simpa using hl)
    exact PySem.W.binds_K hK rfl lTR rfl rfl rfl
  have FA2 := fund_mk (st := sAhead) lA2 cA2 kA2
  have bA2 : Binds K (PySem.W.fnOf "ahead" "ahead" (defArgs sAhead) (defBody sAhead) (defScope sAhead) (.ref TA2) kVA2 dcA2 pmA2 anA2 cdA2 ctA2) ["items", "fuel"] [.int 200 tkTA20] := fun s us hK hl => by
    obtain ⟨_, rfl⟩ := len1 (show us.length = 1 by simpa using hl)
    exact PySem.W.binds_K hK rfl lTA2 rfl rfl rfl
  have bA2f : Binds K (PySem.W.fnOf "ahead" "ahead" (defArgs sAhead) (defBody sAhead) (defScope sAhead) (.ref TA2) kVA2 dcA2 pmA2 anA2 cdA2 ctA2) ["items", "fuel"] [] := fun s us hK hl => by
    obtain ⟨_, _, rfl⟩ := len2 (show us.length = 2 by simpa using hl)
    exact PySem.W.binds_K hK rfl lTA2 rfl rfl rfl
  have mA := PySem.W.mg_of X G aA
  have mVI := PySem.W.mg_of X G aVI
  have mRK := PySem.W.mg_of X G aRK
  have mE1 := PySem.W.mg_of X G aE1
  have mE2 := PySem.W.mg_of X G aE2
  have mE3 := PySem.W.mg_of X G aE3
  have mH1 := PySem.W.mg_of X G aH1
  have mH2 := PySem.W.mg_of X G aH2
  have mH3 := PySem.W.mg_of X G aH3
  have mC := PySem.W.mg_of X G aC
  have mD2 := PySem.W.mg_of X G aD2
  have mN := PySem.W.mg_of X G aN
  have mL2 := PySem.W.mg_of X G aL2
  have mW := PySem.W.mg_of X G aW
  have mM2 := PySem.W.mg_of X G aM2
  have mF2 := PySem.W.mg_of X G aF2
  have mQ2 := PySem.W.mg_of X G aQ2
  have mO2 := PySem.W.mg_of X G aO2
  have mS := PySem.W.mg_of X G aS
  have mI2 := PySem.W.mg_of X G aI2
  have mJ2 := PySem.W.mg_of X G aJ2
  have mR := PySem.W.mg_of X G aR
  have mA2 := PySem.W.mg_of X G aA2
  have mMV : Meth K gC "value_of" fMV := ⟨aMV, iMV, kMV⟩
  have mMW : Meth K gC "work" fMW := ⟨aMW, iMW, kMW⟩
  have mMF : Meth K gC "found_as" fMF := ⟨aMF, iMF, kMF⟩
  have mMC : Meth K gC "choose" fMC := ⟨aMC, iMC, kMC⟩
  have mMB : Meth K gC "begin_call" fMB := ⟨aMB, iMB, kMB⟩
  have mME : Meth K gC "end_call" fME := ⟨aME, iME, kME⟩
  have mML : Meth K gC "call_fn" fML := ⟨aML, iML, kML⟩
  have mMI : L2.Mk K gC fMI := ⟨mkC, aMI, iMI, kcC⟩
  have T : MT K mg gC tO := ⟨⟨pgC, hdC, poC, saC⟩, n_fuel, n_known, n_tasks, n_results, n_ending, PySem.W.mg_of X G qG, PySem.W.mg_of X G qO, opO, PySem.W.mg_none_of X G z0, PySem.W.mg_none_of X G z1, PySem.W.mg_none_of X G z2, PySem.W.mg_none_of X G z3, PySem.W.mg_none_of X G z4, PySem.W.mg_none_of X G z5, PySem.W.mg_none_of X G z6, PySem.W.mg_none_of X G z7, PySem.W.mg_none_of X G z8, PySem.W.mg_none_of X G z9, PySem.W.mg_none_of X G z10, PySem.W.mg_none_of X G z11, PySem.W.mg_none_of X G z12⟩
  have hany : mg "any" = none := PySem.W.mg_none_of X G z13
  have habs : mg "abs" = none := PySem.W.mg_none_of X G z14
  have hall : mg "all" = none := PySem.W.mg_none_of X G z15
  refine ⟨PySem.W.fnOf "law" "law" (defArgs sLaw) (defBody sLaw) (defScope sLaw) .none kVZ dcZ pmZ anZ cdZ ctZ, fun s v => .of_eq rfl, fun base _ _ => ?_⟩
  have GE := ok_end (P := l.prog) (w := w) (base := base) FME T FRK bRK mRK FMF bMF mMF FML bML mML
  have GW := ok_work FMW T FMF bMF mMF FVI bVI mVI FMC bMC mMC FMB bMB mMB bME mME GE
  have GV := ok_value FMV T bMW mMW GW
  have GR := ok_run FR T FMI bMI mMI bMV mMV GV FA bA mA
  have GI := ok_inner (P := l.prog) (w := w) (base := base) FE1 T
  have GT := ok_with (P := l.prog) (w := w) (base := base) FE2 T
  have GWi := ok_within (P := l.prog) (w := w) (base := base) FE3 T FE1 bE1 mE1
  have GSe := ok_sees FH3 T hany kE3 bE3 mE3 GWi
  have GN := ok_num FH2 T habs kH3 bH3 mH3 GSe kR bRf mR GR
  have GAh := ok_ah FH1 T kE1 bE1 mE1 GI kE2 bE2 mE2 GT kH2 bH2 mH2 GN bH1 mH1 30
  have GA := ok_ahead FA2 T kH1 bH1 mH1 GAh
  have GS := ok_sum (P := l.prog) (w := w) (base := base) FS T bS mS FN bN mN FL2 bL2 mL2 FW bW mW FF2 bF2 mF2 FM2 bM2 mM2 FQ2 bQ2 mQ2 FO2 bO2 mO2
  have GF := ok_fn (k := 10) FF2 T FW bW mW kS bS mS (GS 3 (by decide))
  have GIt := ok_items FI2 T FW bW mW kF2 bF2 mF2 GF kS bS mS (GS 4 (by decide))
  have GAl := ok_al (P := l.prog) (w := w) (base := base) FJ2 T hall bJ2 mJ2 20
  exact ok_law FZ T kR bRf mR GR kA2 bA2f mA2 GA kJ2 bJ2 mJ2 GAl FC bC mC FD2 bD2 mD2 kI2 bI2 mI2 GIt
theorem walk {l : PySem.W.OpenLaw} {q : Program} {loose : List Str} {XP : (Str → Option Value) → Heap → Prop} {YP : World → Heap → Prop} {d : DefRec} {K : Params → PySem.W.Frag} (hn : l.most = some 63) (hdf : d.params.defaults = [])
    (hY : ∀ (w : World) (h : Heap), YP w h → (K w.params).In h)
    (F : ∀ (w : World) (mg : Str → Option Value) (fa : Addr) (h : Heap), (K w.params).In h → h.Ns mainGlobals mg → mg d.name = some (.ref fa) →
      ∃ fd : FuncData, (∀ (s : Shared) (u : Value), BindsTo s fd ⟨[u], []⟩ [("_law_script", u)]) ∧ ∀ base : Heap, (K w.params).In base → base.Ns mainGlobals mg → FnOk l.prog w (K w.params) mg base CX0 39 fa fd ["_law_script"] (spLaw (K w.params))) :
    PySem.W.WalkO q loose XP YP l.row.toRowW d [] (fun f vs => PySem.call f vs) :=
  L2.walk_of (n := 63) (k := 39) (x := "_law_script") (CX := fun _ => CX0) (sp := fun w => spLaw (K w.params)) hn (by decide) hdf ⟨rfl, by decide, by decide⟩ hY F (fun _ _ a ns hl _ hS => ⟨a, ns, rfl, hS, hl, fun _ => rfl⟩) fun _ _ _ _ _ z => z
end K69
open PySem PySem.W PyProof.Rows
theorem PySem.W.Fast.te18140804048351586512 : True := True.intro
set_option maxRecDepth 100000 in
set_option maxHeartbeats 0 in
theorem PySem.Challenge.cw_macrohouse_k69_whole_ahead_holds : PySem.Challenge.rw_macrohouse_k69_whole_ahead.Holds := by
  w_on; o_law; k_head; (case hw => w_witness2)
  k_fill
  refine K69.walk (l := PySem.Challenge.rw_macrohouse_k69_whole_ahead) rfl rfl (fun w h Y => PySem.W.kIn_of Y) ?F
  case F =>
    intro w mg fa h KX G hmg
    refine' K69.all_mk KX G hmg ?qG ?qO ?ltO ?aA ?lA ?cA ?kA ?aVI ?lVI ?cVI ?kVI ?aRK ?lRK ?cRK ?kRK ?aE1 ?lE1 ?cE1 ?kE1 ?aE2 ?lE2 ?cE2 ?kE2 ?aE3 ?lE3 ?cE3 ?kE3 ?aH1 ?lH1 ?cH1 ?kH1 ?aH2 ?lH2 ?cH2 ?kH2 ?aH3 ?lH3 ?cH3 ?kH3 ?aC ?lC ?cC ?kC ?aD2 ?lD2 ?cD2 ?kD2 ?aN ?lN ?cN ?kN ?aL2 ?lL2 ?cL2 ?kL2 ?aW ?lW ?cW ?kW ?aM2 ?lM2 ?cM2 ?kM2 ?aF2 ?lF2 ?cF2 ?kF2 ?aQ2 ?lQ2 ?cQ2 ?kQ2 ?aO2 ?lO2 ?cO2 ?kO2 ?aS ?lS ?cS ?kS ?aI2 ?lI2 ?cI2 ?kI2 ?aJ2 ?lJ2 ?cJ2 ?kJ2 ?aZ ?lZ ?cZ ?kZ ?aR ?lR ?cR ?kR ?lTR ?aA2 ?lA2 ?cA2 ?kA2 ?lTA2 ?aMI ?lMI ?cMI ?kMI ?iMI ?aMV ?lMV ?cMV ?kMV ?iMV ?aMW ?lMW ?cMW ?kMW ?iMW ?aMF ?lMF ?cMF ?kMF ?iMF ?aMC ?lMC ?cMC ?kMC ?iMC ?aMB ?lMB ?cMB ?kMB ?iMB ?aME ?lME ?cME ?kME ?iME ?aML ?lML ?cML ?kML ?iML ?mkC ?kcC ?pgC ?hdC ?poC ?saC ?n_fuel ?n_known ?n_tasks ?n_results ?n_ending ?z0 ?z1 ?z2 ?z3 ?z4 ?z5 ?z6 ?z7 ?z8 ?z9 ?z10 ?z11 ?z12 ?z13 ?z14 ?z15
    (case qG => k_is); (case qO => k_is); (case ltO => k_is); (case aA => k_is); (case lA => k_is); (case cA => k_is)
    (case kA => k_is); (case aVI => k_is); (case lVI => k_is); (case cVI => k_is); (case kVI => k_is); (case aRK => k_is)
    (case lRK => k_is); (case cRK => k_is); (case kRK => k_is); (case aE1 => k_is); (case lE1 => k_is); (case cE1 => k_is)
    (case kE1 => k_is); (case aE2 => k_is); (case lE2 => k_is); (case cE2 => k_is); (case kE2 => k_is); (case aE3 => k_is)
    (case lE3 => k_is); (case cE3 => k_is); (case kE3 => k_is); (case aH1 => k_is); (case lH1 => k_is); (case cH1 => k_is)
    (case kH1 => k_is); (case aH2 => k_is); (case lH2 => k_is); (case cH2 => k_is); (case kH2 => k_is); (case aH3 => k_is)
    (case lH3 => k_is); (case cH3 => k_is); (case kH3 => k_is); (case aC => k_is); (case lC => k_is); (case cC => k_is)
    (case kC => k_is); (case aD2 => k_is); (case lD2 => k_is); (case cD2 => k_is); (case kD2 => k_is); (case aN => k_is)
    (case lN => k_is); (case cN => k_is); (case kN => k_is); (case aL2 => k_is); (case lL2 => k_is); (case cL2 => k_is)
    (case kL2 => k_is); (case aW => k_is); (case lW => k_is); (case cW => k_is); (case kW => k_is); (case aM2 => k_is)
    (case lM2 => k_is); (case cM2 => k_is); (case kM2 => k_is); (case aF2 => k_is); (case lF2 => k_is); (case cF2 => k_is)
    (case kF2 => k_is); (case aQ2 => k_is); (case lQ2 => k_is); (case cQ2 => k_is); (case kQ2 => k_is); (case aO2 => k_is)
    (case lO2 => k_is); (case cO2 => k_is); (case kO2 => k_is); (case aS => k_is); (case lS => k_is); (case cS => k_is)
    (case kS => k_is); (case aI2 => k_is); (case lI2 => k_is); (case cI2 => k_is); (case kI2 => k_is); (case aJ2 => k_is)
    (case lJ2 => k_is); (case cJ2 => k_is); (case kJ2 => k_is); (case aZ => k_is); (case lZ => k_is); (case cZ => k_is)
    (case kZ => k_is); (case aR => k_is); (case lR => k_is); (case cR => k_is); (case kR => k_is); (case lTR => k_is)
    (case aA2 => k_is); (case lA2 => k_is); (case cA2 => k_is); (case kA2 => k_is); (case lTA2 => k_is); (case aMI => k_is)
    (case lMI => k_is); (case cMI => k_is); (case kMI => k_is); (case iMI => k_is); (case aMV => k_is); (case lMV => k_is)
    (case cMV => k_is); (case kMV => k_is); (case iMV => k_is); (case aMW => k_is); (case lMW => k_is); (case cMW => k_is)
    (case kMW => k_is); (case iMW => k_is); (case aMF => k_is); (case lMF => k_is); (case cMF => k_is); (case kMF => k_is)
    (case iMF => k_is); (case aMC => k_is); (case lMC => k_is); (case cMC => k_is); (case kMC => k_is); (case iMC => k_is)
    (case aMB => k_is); (case lMB => k_is); (case cMB => k_is); (case kMB => k_is); (case iMB => k_is); (case aME => k_is)
    (case lME => k_is); (case cME => k_is); (case kME => k_is); (case iME => k_is); (case aML => k_is); (case lML => k_is)
    (case cML => k_is); (case kML => k_is); (case iML => k_is); (case mkC => k_is); (case kcC => k_is); (case pgC => k_is)
    (case hdC => k_is); (case poC => k_is); (case saC => k_is); (case n_fuel => k_is); (case n_known => k_is); (case n_tasks => k_is)
    (case n_results => k_is); (case n_ending => k_is); (case z0 => k_is); (case z1 => k_is); (case z2 => k_is); (case z3 => k_is)
    (case z4 => k_is); (case z5 => k_is); (case z6 => k_is); (case z7 => k_is); (case z8 => k_is); (case z9 => k_is)
    (case z10 => k_is); (case z11 => k_is); (case z12 => k_is); (case z13 => k_is); (case z14 => k_is); (case z15 => k_is)
#print axioms PySem.Challenge.cw_macrohouse_k69_whole_ahead_holds
