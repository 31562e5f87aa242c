import PyProof.Rows.All
import PyProof.FactsAll.NoneType_1
import Wide.All
import OpenK.AllK
import Wide.FinOn
import Lean
import PyProof.EqAt
import PyProof.EqKinds
import PyProof.TupleCall
import PyProof.SetScanFacts
import PyProof.SetKind
import PyProof.DictStraight
import PyProof.DictIter
import PyProof.Seq
import PyProof.CollectWalk
import PyProof.MakeMany
import PyProof.Rows.SetFrom
import PyProof.Rows.SortShell
import PyProof.ListRange
import PyProof.SetRoads
import PyProof.NeKinds
import PyProof.SumAny
import PyProof.Rows.RuleM_int
import PyProof.ZipIter
import PyProof.EnumFor
import PyProof.EnumMake
import PyProof.EnumStmt
import PyProof.MinMaxWalk
import PyProof.Rows.CallKwBuiltin
import KE.KRevIter
import PyProof.CollectIter
import PyProof.DictUpdate
import PyProof.StrBlockH
import PyProof.StrWalks
import PyProof.StrLawsReplace
import PyProof.StrLawsTight
import PyProof.StrLawsChain
import PyProof.StrLawsIn
import PyProof.StrOps2
import PyProof.StrCalls6
import PyProof.ToksMono
import PyProof.Rows.StrNews
import PyProof.StrLawsJoin
import PySem.Challenge.RW_macrohouse_k63_stuck_or_on
set_option Elab.async false
set_option linter.all false
set_option maxRecDepth 100000
/-! THE HAND LAYER, for ints, bools, texts, own classes, LISTS and tuples (index, slices, in, append, pop ..), calls, loops. Paste it whole ahead of your own text; what your proof does not reach may be deleted. -/
namespace L2
open PySem PySem.Spec PyProof.Rows

theorem hash_none {prog : Program} {w : World} {A : Around} {E : Value → Shared → Prop} {s : Shared} {Q : Int → Shared → Prop} (h : Q 0xFCA86420 { s with toks := s.toks + 1 }) : wpAny (model prog w) A (pyHash .none) Q E s := by
  have hT : s.TypeIs .none "NoneType" := rfl
  unfold pyHash
  have hv : [Value.none].any Value.onHeap = false := rfl
  refine wpAny_bind ?_
  rw [cRoomFor, if_neg (by rw [hv]; exact Bool.false_ne_true)]
  refine wpAny_pure ?_
  refine wpAny_bind (wpAny_specialOf hT PySem.F.slot_NoneType_hash.lookup ?_)
  show wpAny _ _ (if (some (Value.builtin "NoneType.__hash__") == some Value.none) = true then _ else _) Q E s
  rw [if_neg (by rw [beq_builtin_none]; exact Bool.false_ne_true)]
  refine wpAny_bind (wpAny_specialOf hT PySem.F.slot_NoneType_hash.lookup ?_)
  show wpAny _ _ (callSpecialIfBoundUnlessNone? .none "__hash__" _ >>= _) Q E s
  refine wpAny_bind (wpAny_callSpecialIfBoundUnlessNone?_slot hT PySem.F.slot_NoneType_hash (wpAny_call_entry PySem.F.slot_NoneType_hash hT PySem.F.entry_NoneType_hash (show wpAny _ _ (retInt 0xFCA86420) _ _ s from wpAny_ret_mkInt ?_) (PySem.F.args_NoneType_hash_1 _)))
  show wpAny _ _ (if (decide (-(2 : Int) ^ 63 ≤ 0xFCA86420) && decide ((0xFCA86420 : Int) < 2 ^ 63)) = true then _ else _) Q E _
  rw [if_pos (by decide)]
  exact wpAny_pure h
theorem eqb_none {prog : Program} {w : World} {A : Around} {E : Value → Shared → Prop} {s : Shared} {Q : Bool → Shared → Prop} (h : Q true s) : wpAny (model prog w) A (eqBool .none .none) Q E s := by
  exact SeqAt.EqAt.same _ _ _ _ _ h
/-- a key: None, an int or a str -/
abbrev Key := Sum (Option Int) Str
def keyIs : Key → Value → Bool
  | .inl none, v => v == Value.none
  | .inl (some k), v => Value.isInt k v
  | .inr x, v => Value.isStrOf x v
def keyH (w : World) : Key → Int
  | .inl none => 0xFCA86420
  | .inl (some k) => hashInt k
  | .inr x => hashStr w x
theorem keyIs_shape : ∀ {k : Key} {v : Value}, keyIs k v = true → (k = Sum.inl none ∧ v = Value.none) ∨ (∃ i t, k = Sum.inl (some i) ∧ v = Value.int i t) ∨ (∃ x t, k = Sum.inr x ∧ v = Value.str x t)
  | .inl none, v, h => .inl ⟨rfl, eq_of_beq h⟩
  | .inl (some i), v, h => by
    obtain ⟨t, e⟩ := Value.isInt_shape (k := i) (v := v) h
    exact .inr (.inl ⟨i, t, rfl, e⟩)
  | .inr x, v, h => by
    obtain ⟨t, e⟩ := Value.isStrOf_shape (x := x) (v := v) h
    exact .inr (.inr ⟨x, t, rfl, e⟩)
theorem keyIs_int (i : Int) (t : Tok) : keyIs (.inl (some i)) (.int i t) = true := by simp [keyIs, Value.isInt]
theorem keyIs_str (x : Str) (t : Tok) : keyIs (.inr x) (.str x t) = true := by simp [keyIs, Value.isStrOf]
theorem keyIs_none : keyIs (.inl none) .none = true := rfl
theorem key_ne {a b : Key} (h : a ≠ b) : decide (a = b) = false := decide_eq_false h
theorem key_ll (a b : Int) : decide ((Sum.inl (some a) : Key) = Sum.inl (some b)) = (a == b) := by
  by_cases e : a = b
  · subst e; simp
  · rw [key_ne fun q => e (Option.some.inj (Sum.inl.inj q))]
    exact (beq_eq_false_iff_ne.mpr e).symm
theorem key_rr (a b : Str) : decide ((Sum.inr a : Key) = Sum.inr b) = decide (a = b) := by
  by_cases e : a = b
  · subst e; simp
  · rw [key_ne fun q => e (Sum.inr.inj q), decide_eq_false e]
def mixKind (prog : Program) (w : World) : PySem.KeyKind prog w Key where
  is := keyIs
  hash := keyH w
  inj := fun v a b ha hb => by
    rcases keyIs_shape ha with ⟨rfl, rfl⟩ | ⟨i, t, rfl, rfl⟩ | ⟨x, t, rfl, rfl⟩ <;> rcases keyIs_shape hb with ⟨rfl, e⟩ | ⟨j, u, rfl, e⟩ | ⟨y, u, rfl, e⟩
    · rfl
    · exact nomatch e
    · exact nomatch e
    · exact nomatch e
    · injection e with e1 _; rw [e1]
    · exact nomatch e
    · exact nomatch e
    · exact nomatch e
    · injection e with e1 _; rw [e1]
  byValue := fun k v h => by
    rcases keyIs_shape h with ⟨rfl, rfl⟩ | ⟨i, t, rfl, rfl⟩ | ⟨x, t, rfl, rfl⟩ <;> rfl
  pyHash := fun hv h => by
    rcases keyIs_shape hv with ⟨rfl, rfl⟩ | ⟨i, t, rfl, rfl⟩ | ⟨x, t, rfl, rfl⟩
    · exact hash_none h
    · exact wpAny_pyHash_int h
    · exact wpAny_pyHash_str h
  eqBool := fun hu hv h => by
    rcases keyIs_shape hu with ⟨rfl, rfl⟩ | ⟨i, t, rfl, rfl⟩ | ⟨x, t, rfl, rfl⟩ <;> rcases keyIs_shape hv with ⟨rfl, rfl⟩ | ⟨j, u, rfl, rfl⟩ | ⟨y, u, rfl, rfl⟩
    · exact eqb_none h
    · rw [key_ne] at h
      · exact SeqAt.EqAt.none_int j u _ _ _ _ h
      · intro q; cases q
    · rw [key_ne] at h
      · exact SeqAt.EqAt.none_str y u _ _ _ _ h
      · intro q; cases q
    · rw [key_ne] at h
      · exact SeqAt.EqAt.int_none i t _ _ _ _ h
      · intro q; cases q
    · rw [key_ll] at h; exact wpAny_eqBool_int h
    · rw [key_ne] at h
      · exact SeqAt.EqAt.int_str i t y u _ _ _ _ h
      · intro q; cases q
    · rw [key_ne] at h
      · exact SeqAt.EqAt.str_none x t _ _ _ _ h
      · intro q; cases q
    · rw [key_ne] at h
      · exact SeqAt.EqAt.str_int x t j u _ _ _ _ h
      · intro q; cases q
    · rw [key_rr] at h; exact wpAny_eqBool_str h
  «strs» := fun k x t v h => by
    rcases keyIs_shape h with ⟨rfl, e⟩ | ⟨i, u, rfl, e⟩ | ⟨y, u, rfl, e⟩
    · exact nomatch e
    · exact nomatch e
    · injection e with e1 _
      subst e1
      cases v <;> rfl

theorem mixKind_none (prog : Program) (w : World) : (mixKind prog w).is (.inl none) .none = true := keyIs_none
theorem mixKind_int (prog : Program) (w : World) (i : Int) (t : Tok) : (mixKind prog w).is (.inl (some i)) (.int i t) = true := keyIs_int i t
theorem mixKind_str (prog : Program) (w : World) (x : Str) (t : Tok) : (mixKind prog w).is (.inr x) (.str x t) = true := keyIs_str x t
end L2

namespace L2
open PySem PySem.Spec PyProof.Rows

/-- a value, without the heap -/
inductive V where
  | non | bl (b : Bool) | int (i : Int) | str (x : Str) | byt (b : Array UInt8) | flt (b : UInt64) | ref (a : Addr) | ty (n : String)
  deriving DecidableEq

def RelV : V → Value → Prop
  | .non, u => u = Value.none
  | .bl b, u => u = Value.bool b
  | .int i, u => ∃ t, u = Value.int i t
  | .str x, u => ∃ t, u = Value.str x t
  | .byt b, u => ∃ t, u = Value.bytes b t
  | .flt b, u => ∃ t, u = Value.float b t
  | .ref a, u => u = Value.ref a
  | .ty n, u => u = Value.type n

abbrev Vals : List V → List Value → Prop := Paired RelV
theorem Vals.length {xs : List V} {us : List Value} (r : Vals xs us) : xs.length = us.length := Paired.length r
theorem Vals.get : ∀ {xs : List V} {us : List Value} {i : Nat} {x : V}, Vals xs us → xs[i]? = some x → ∃ u, us[i]? = some u ∧ RelV x u
  | _, _, _, _, .nil, e => by simp at e
  | _, _, 0, _, .cons r _, e => by simp at e; subst e; exact ⟨_, rfl, r⟩
  | _, _, i + 1, x, .cons _ t, e => by
    obtain ⟨u, h1, h2⟩ := Vals.get (i := i) (x := x) t (by simpa using e)
    exact ⟨u, by simpa using h1, h2⟩
theorem Vals.append : ∀ {xs ys : List V} {us ws : List Value}, Vals xs us → Vals ys ws → Vals (xs ++ ys) (us ++ ws)
  | _, _, _, _, .nil, s => s
  | _, _, _, _, .cons r t, s => .cons r (Vals.append t s)
theorem Vals.take : ∀ {xs : List V} {us : List Value} (n : Nat), Vals xs us → Vals (xs.take n) (us.take n)
  | _, _, 0, _ => .nil
  | _, _, _ + 1, .nil => .nil
  | _, _, n + 1, .cons r t => .cons r (Vals.take n t)
theorem Vals.drop : ∀ {xs : List V} {us : List Value} (n : Nat), Vals xs us → Vals (xs.drop n) (us.drop n)
  | _, _, 0, r => r
  | _, _, _ + 1, .nil => .nil
  | _, _, n + 1, .cons _ t => Vals.drop n t

def RelO : Option V → Option Value → Prop
  | some v, some u => RelV v u
  | none, none => True
  | _, _ => False
def KV {κ : Type} : List (κ × V) → List (κ × Value) → Prop := Paired fun (p : κ × V) (q : κ × Value) => p.1 = q.1 ∧ RelV p.2 q.2

/-- a key of a dict (00_mix): an int or a text -/
def kV : Key → V
  | .inl none => .non
  | .inl (some i) => .int i
  | .inr x => .str x

/-- what stands at a tracked address -/
inductive HO where
  /-- a list -/
  | lst (xs : List V)
  /-- a tuple (never changes) -/
  | tup (xs : List V)
  /-- a dict whose keys are ints and texts; one whose keys are tuples of ints and texts (the empty one is both) -/
  | dK (kvs : List (Key × V)) | dT (kvs : List (List Key × V))
  /-- a set of ints: its members, its size -/
  | set (S : Int → Bool) (n : Nat)
  /-- an instance of the class at C, its dict at dx, its attributes -/
  | ins (C dx : Addr) (fs : List (Str × V))
  /-- the dict of the instance at x -/
  | own (x : Addr)
  /-- the dict of an exception -/
  | xd (fs : List (Str × V))
  /-- a bound method, f of x -/
  | met (f x : Addr)
  /-- a range object lo, lo + 1, .. below hi -/
  | rng (lo hi : Int)
  /-- a thing that is known to the object (the script; a dict while a loop walks it): read, never written while it is so -/
  | frz (o : Obj) (u : HO)
  /-- a code object's table -/
  | tbl (ps : Array Value)
  /-- any other thing, by what is true of its one object (a def of one's own: SetO a S n := HO.ext fun h => ..) -/
  | ext (φ : Heap → Prop)

abbrev Hp := Addr → Option HO
def upd (H : Hp) (a : Addr) (o : HO) : Hp := fun b => if b = a then some o else H b
theorem upd_same {H : Hp} {a : Addr} {o : HO} : upd H a o a = some o := by unfold upd; rw [if_pos rfl]
theorem upd_ne {H : Hp} {a b : Addr} {o : HO} (h : b ≠ a) : upd H a o b = H b := by unfold upd; rw [if_neg h]
/-- two objects of different content stand apart -/
theorem ne_of {H : Hp} {a b : Addr} {o u : HO} (h : H a = some o) (h' : H b = some u) (d : o ≠ u) : a ≠ b := by
  intro e; subst e; rw [h] at h'; exact d (Option.some.inj h')
theorem ne_of_none {H : Hp} {a b : Addr} {o : HO} (h : H a = some o) (h' : H b = none) : a ≠ b := by
  intro e; subst e; rw [h] at h'; cases h'

section
variable (P : Program) (w : World)
def ObjOk (H : Hp) (h : Heap) (a : Addr) : HO → Prop
  | .lst xs => xs.length ≤ sizeLine ∧ ∃ (its : List Value) (n : Nat), Vals xs its ∧ h.get? a = some { cls := .type "list", data := .seq its.toArray n }
  | .tup xs => xs.length ≤ sizeLine ∧ ∃ its : List Value, Vals xs its ∧ IsTup h a its.toArray
  | .dK kvs => kvs.length ≤ sizeLine ∧ (a == sysModules) = false ∧ ∃ vs, KV kvs vs ∧ h.DictOf (mixKind P w) a vs
  | .dT kvs => kvs.length ≤ sizeLine ∧ (a == sysModules) = false ∧ ∃ xs : List (List Key × Addr × Value),
      Paired (fun (p : List Key × V) (q : List Key × Addr × Value) => p.1 = q.1 ∧ H q.2.1 = some (.tup (p.1.map kV)) ∧ RelV p.2 q.2.2) kvs xs ∧
      ∃ o es ep, h.get? a = some o ∧ o.ExactDict ∧ o.data = .dict es ep ∧ es.toList = xs.map (entryOfKey (tupleKind (mixKind P w))) ∧ (xs.map (·.1)).Nodup
  | .set S n => h.SetOf (intKind P w) a S n
  | .ins C dx fs => H dx = some (.own a) ∧ fs.length ≤ 1000 ∧ dx ≠ a ∧ h.get? a = some (PySem.W.instObj C dx) ∧
      ∃ mA, h.Ns1 dx mA ∧ (∀ f, RelO (fs.lookup f) (mA f)) ∧ PySem.Within mA (fs.map (·.1))
  | .own _ => ∃ o, h.get? a = some o
  | .xd fs => ∃ mA, h.Ns1 a mA ∧ ∀ f, RelO (fs.lookup f) (mA f)
  | .rng lo hi => ∃ t u v, h.get? a = some { cls := .type "range", data := .fields #[.int lo t, .int hi u, .int 1 v] }
  | .frz o u => h.get? a = some o ∧ ObjOk H h a u
  | .tbl ps => h.get? a = some { cls := .none, data := .fields ps }
  | .met f x => h.get? a = some (PySem.W.methodObj (.ref f) (.ref x))
  | .ext φ => φ h ∧ (∃ o, h.get? a = some o) ∧ ∀ h1 h2 : Heap, φ h1 → (∀ o, h1.get? a = some o → h2.get? a = some o) → φ h2
/-- the abstract heap is held -/
def HOk (H : Hp) (h : Heap) : Prop := ∀ a o, H a = some o → ObjOk P w H h a o
end

section
variable {P : Program} {w : World} {H H' : Hp} {h h' : Heap} {a : Addr} {o : HO}
theorem ObjOk.lt (x : ObjOk P w H h a o) : a < h.objs.size := by
  cases o with
  | lst xs => obtain ⟨_, _, _, _, e⟩ := x; exact Heap.lt_size e
  | tup xs => obtain ⟨_, _, _, p⟩ := x; exact p.lt
  | dK kvs => obtain ⟨_, _, _, _, o, _, _, e, _⟩ := x; exact Heap.lt_size e
  | dT kvs => obtain ⟨_, _, _, _, o, _, _, e, _⟩ := x; exact Heap.lt_size e
  | set S n => obtain ⟨o, _, _, _, e, _⟩ := x; exact Heap.lt_size e
  | ins C dx fs => obtain ⟨_, _, _, e, _⟩ := x; exact Heap.lt_size e
  | own y => obtain ⟨_, e⟩ := x; exact Heap.lt_size e
  | xd fs => obtain ⟨_, ⟨_, _, _, e, _⟩, _⟩ := x; exact Heap.lt_size e
  | rng lo hi => obtain ⟨_, _, _, e⟩ := x; exact Heap.lt_size e
  | frz ob u => obtain ⟨e, _⟩ := x; exact Heap.lt_size e
  | tbl ps => exact Heap.lt_size (show h.get? a = some _ from x)
  | met f y => exact Heap.lt_size (show h.get? a = some _ from x)
  | ext φ => obtain ⟨_, ⟨_, e⟩, _⟩ := x; exact Heap.lt_size e
theorem Paired.mapP {α β : Type} {F G : α → β → Prop} : ∀ {l₁ : List α} {l₂ : List β}, Paired F l₁ l₂ → (∀ a b, F a b → G a b) → Paired G l₁ l₂
  | _, _, .nil, _ => .nil
  | _, _, .cons r t, f => .cons (f _ _ r) (Paired.mapP t f)
/-- what an object's description leans on: its own object, its own dict, the tuples -/
theorem ObjOk.stay (x : ObjOk P w H h a o) (k : ∀ b u, (b = a ∨ H b = some (.own a)) → h.get? b = some u → h'.get? b = some u)
    (ho : ∀ b, H b = some (.own a) → H' b = some (.own a)) (ht : ∀ b xs, H b = some (.tup xs) → H' b = some (.tup xs)) : ObjOk P w H' h' a o := by
  induction o with
  | lst xs => obtain ⟨z, its, n, r, e⟩ := x; exact ⟨z, its, n, r, k _ _ (.inl rfl) e⟩
  | tup xs => obtain ⟨z, its, r, ob, e, c⟩ := x; exact ⟨z, its, r, ob, k _ _ (.inl rfl) e, c⟩
  | dK kvs => obtain ⟨z, y, vs, r, ob, es, ep, e, c⟩ := x; exact ⟨z, y, vs, r, ob, es, ep, k _ _ (.inl rfl) e, c⟩
  | dT kvs =>
    obtain ⟨z, y, xs, r, ob, es, ep, e, c⟩ := x
    exact ⟨z, y, xs, Paired.mapP r fun p q z => ⟨z.1, ht _ _ z.2.1, z.2.2⟩, ob, es, ep, k _ _ (.inl rfl) e, c⟩
  | set S n => obtain ⟨ob, es, ep, t, e, c⟩ := x; exact ⟨ob, es, ep, t, k _ _ (.inl rfl) e, c⟩
  | ins C dx fs =>
    obtain ⟨d, z, ne, e, mA, ⟨od, es, ep, e2, c⟩, r⟩ := x
    exact ⟨ho _ d, z, ne, k _ _ (.inl rfl) e, mA, ⟨od, es, ep, k _ _ (.inr d) e2, c⟩, r⟩
  | own y => obtain ⟨ob, e⟩ := x; exact ⟨ob, k _ _ (.inl rfl) e⟩
  | xd fs => obtain ⟨mA, ⟨od, es, ep, e, c⟩, r⟩ := x; exact ⟨mA, ⟨od, es, ep, k _ _ (.inl rfl) e, c⟩, r⟩
  | rng lo hi => obtain ⟨t, u, v, e⟩ := x; exact ⟨t, u, v, k _ _ (.inl rfl) e⟩
  | frz ob u ih => obtain ⟨e, q⟩ := x; exact ⟨k _ _ (.inl rfl) e, ih q⟩
  | tbl ps =>
    have e : h.get? a = some { cls := .none, data := .fields ps } := x
    show h'.get? a = some { cls := .none, data := .fields ps }
    exact k a _ (.inl rfl) e
  | met f y =>
    have e : h.get? a = some (PySem.W.methodObj (.ref f) (.ref y)) := x
    show h'.get? a = some (PySem.W.methodObj (.ref f) (.ref y))
    exact k a _ (.inl rfl) e
  | ext φ => obtain ⟨p, ⟨o, e⟩, st⟩ := x; exact ⟨st _ _ p fun o q => k _ _ (.inl rfl) q, ⟨o, k _ _ (.inl rfl) e⟩, st⟩
theorem HOk.lt (x : HOk P w H h) (e : H a = some o) : a < h.objs.size := (x a o e).lt
theorem HOk.fresh (x : HOk P w H h) (e : h.objs.size ≤ a) : H a = none := by
  cases q : H a with
  | none => rfl
  | some u => exact absurd (Nat.lt_of_lt_of_le (x.lt q) e) (Nat.lt_irrefl _)
/-- every object of the heap is kept -/
theorem HOk.kept (x : HOk P w H h) (k : ∀ b u, h.get? b = some u → h'.get? b = some u) : HOk P w H h' := fun a o e =>
  (x a o e).stay (fun b u _ q => k b u q) (fun _ q => q) fun _ _ q => q
/-- a new object is laid and tracked -/
theorem HOk.laid (x : HOk P w H h) (k : ∀ b u, h.get? b = some u → h'.get? b = some u) (hp : h.objs.size ≤ a) (new : ObjOk P w (upd H a o) h' a o) : HOk P w (upd H a o) h' := fun b u e => by
  have hn := x.fresh hp
  by_cases hb : b = a
  · subst hb; rw [upd_same] at e; cases e; exact new
  · rw [upd_ne hb] at e
    exact (x b u e).stay (fun c v _ q => k c v q) (fun c q => by rw [upd_ne (ne_of_none q hn)]; exact q) fun c xs q => by rw [upd_ne (ne_of_none q hn)]; exact q
end

/-- what may be read as u: it is u, or a known u -/
def Rd (H : Hp) (a : Addr) (u : HO) : Prop := H a = some u ∨ ∃ o, H a = some (.frz o u)
theorem Rd.ok {P : Program} {w : World} {H : Hp} {h : Heap} {a : Addr} {u : HO} (r : Rd H a u) (x : HOk P w H h) : ObjOk P w H h a u := by
  rcases r with r | ⟨o, r⟩
  · exact x a u r
  · obtain ⟨_, q⟩ := x a _ r
    exact q
/-- what may be written -/
def Mut : Option HO → Prop
  | some (.lst _) => True
  | some (.dK _) => True
  | some (.dT _) => True
  | some (.set _ _) => True
  | some (.ins _ _ _) => True
  | some (.ext _) => True
  | _ => False
section
variable {P : Program} {w : World} {H : Hp} {h h' : Heap} {x e : Addr} {o' : HO}
/-- the object at e is changed: x itself, or the dict of the instance x -/
theorem HOk.write (ok : HOk P w H h) (mu : Mut (H x)) (he : e = x ∨ H e = some (.own x)) (k : ∀ b u, b ≠ e → h.get? b = some u → h'.get? b = some u) (heo : ∃ u, h'.get? e = some u)
    (new : ObjOk P w (upd H x o') h' x o') : HOk P w (upd H x o') h' := fun b u q => by
  have nown : ∀ c y, H c = some (.own y) → c ≠ x := fun c y r z => by subst z; rw [r] at mu; exact mu
  have ntup : ∀ c xs, H c = some (.tup xs) → c ≠ x := fun c xs r z => by subst z; rw [r] at mu; exact mu
  by_cases hb : b = x
  · subst hb; rw [upd_same] at q; cases q; exact new
  · rw [upd_ne hb] at q
    by_cases hbe : b = e
    · have q' : H b = some (.own x) := by
        rcases he with z | z
        · exact absurd (hbe.trans z) hb
        · rw [hbe]; exact z
      rw [q] at q'; cases q'
      obtain ⟨v, hv⟩ := heo
      exact ⟨v, by rw [hbe]; exact hv⟩
    · refine (ok b u q).stay (fun c v hc r => k c v ?_ r) (fun c r => by rw [upd_ne (nown c b r)]; exact r) fun c xs r => by rw [upd_ne (ntup c xs r)]; exact r
      rcases hc with rfl | hc
      · exact hbe
      · rintro rfl
        rcases he with z | z
        · exact nown c b hc z
        · rw [hc] at z; cases z; exact hb rfl
end

/-! ### kept unless tracked; of the frames at fs (the callers') the slots may change (an exception that passes writes there); of the records at ex (iterators) nothing is said -/
structure Un (fs ex : List Addr) (H H' : Hp) (h h' : Heap) : Prop where
  keep : ∀ b o, h.get? b = some o → H b = none → b ∉ fs → b ∉ ex → h'.get? b = some o
  slot : ∀ b o, h.get? b = some o → H b = none → b ∈ fs → b ∉ ex → ∃ sl, h'.get? b = some { o with slots := sl }
  free : ∀ b o, h.get? b = some o → H b = none → b ∉ ex → H' b = none
  there : ∀ b o, h.get? b = some o → b ∉ ex → ∃ o', h'.get? b = some o'
  tups : ∀ b xs, H b = some (.tup xs) → H' b = some (.tup xs)
  frzs : ∀ b o u, H b = some (.frz o u) → H' b = some (.frz o u)
  tbls : ∀ b ps, H b = some (.tbl ps) → ∃ more, H' b = some (.tbl (ps ++ more))
section
variable {fs fs' ex ex' : List Addr} {H H1 H2 : Hp} {h h1 h2 h' : Heap} {a x e : Addr} {o : HO}
theorem Un.any (u : Un fs ex H H1 h h1) {b : Addr} {ob : Obj} (q : h.get? b = some ob) (n : H b = none) (hx : b ∉ ex) : ∃ sl, h1.get? b = some { ob with slots := sl } := by
  by_cases hb : b ∈ fs
  · exact u.slot b ob q n hb hx
  · exact ⟨ob.slots, u.keep b ob q n hb hx⟩
theorem Un.kept (k : ∀ b u, h.get? b = some u → h'.get? b = some u) : Un fs ex H H h h' :=
  ⟨fun b ob q _ _ _ => k b ob q, fun b ob q _ _ _ => ⟨ob.slots, k b ob q⟩, fun _ _ _ n _ => n, fun b ob q _ => ⟨ob, k b ob q⟩, fun _ _ q => q, fun _ _ _ q => q, fun _ ps q => ⟨#[], by rw [q]; simp⟩⟩
theorem Un.refl : Un fs ex H H h h := Un.kept fun _ _ q => q
theorem Un.laid (k : ∀ b u, h.get? b = some u → h'.get? b = some u) (hp : h.objs.size ≤ a) (hn : H a = none) : Un fs ex H (upd H a o) h h' where
  keep := fun b u q _ _ _ => k b u q
  slot := fun b u q _ _ _ => ⟨u.slots, k b u q⟩
  free := fun b u q n _ => by rw [upd_ne (Nat.ne_of_lt (Nat.lt_of_lt_of_le (Heap.lt_size q) hp))]; exact n
  there := fun b u q _ => ⟨u, k b u q⟩
  tups := fun b xs q => by rw [upd_ne (ne_of_none q hn)]; exact q
  frzs := fun b u xs q => by rw [upd_ne (ne_of_none q hn)]; exact q
  tbls := fun b ps q => ⟨#[], by rw [upd_ne (ne_of_none q hn), q]; simp⟩
theorem Un.write (mu : Mut (H x)) (he : e = x ∨ H e = some (.own x)) (k : ∀ b u, b ≠ e → h.get? b = some u → h'.get? b = some u) (heo : ∃ u, h'.get? e = some u) : Un fs ex H (upd H x o) h h' := by
  have hx : ∀ b, H b = none → b ≠ x := fun b n z => by subst z; rw [n] at mu; exact mu
  have hb : ∀ b, H b = none → b ≠ e := fun b n z => by
    subst z
    rcases he with r | r
    · exact hx b n r
    · rw [n] at r; cases r
  have hm : ∀ b u, H b = some u → ¬ Mut (some u) → b ≠ x := fun b u q nm z => by subst z; rw [q] at mu; exact nm mu
  refine ⟨fun b u q n _ _ => k b u (hb b n) q, fun b u q n _ _ => ⟨u.slots, k b u (hb b n) q⟩, fun b u q n _ => by rw [upd_ne (hx b n)]; exact n, fun b u q _ => ?_,
    fun b xs q => by rw [upd_ne (hm b _ q fun z => z)]; exact q, fun b u xs q => by rw [upd_ne (hm b _ q fun z => z)]; exact q, fun b ps q => ⟨#[], by rw [upd_ne (hm b _ q fun z => z), q]; simp⟩⟩
  by_cases hbe : b = e
  · subst hbe; exact heo
  · exact ⟨u, k b u hbe q⟩
end

/-! ### the heap without what is tracked -/
def trk (h : Heap) (H : Hp) : List Addr := (List.range h.objs.size).filter fun a => (H a).isSome
def hidT (h : Heap) (H : Hp) : Heap := PySem.W.hideAll h (trk h H)
theorem hidT_size (h : Heap) (H : Hp) : (hidT h H).objs.size = h.objs.size := PySem.W.hideAll_size _ _
theorem hidT_get {h : Heap} {H : Hp} {b : Addr} {o : Obj} (e : h.get? b = some o) (n : H b = none) : (hidT h H).get? b = some o :=
  PySem.W.hideAll_get _ e fun hm => by
    have q : (H b).isSome = true := (List.mem_filter.mp hm).2
    rw [n] at q; simp at q
theorem of_hidT {h : Heap} {H : Hp} {b : Addr} {o : Obj} (e : (hidT h H).get? b = some o) : h.get? b = some o ∧ H b = none := by
  have e' : h.get? b = some o := PySem.W.of_hideAll (trk h H) e
  refine ⟨e', ?_⟩
  cases q : H b with
  | none => rfl
  | some x =>
    have hm : b ∈ trk h H := List.mem_filter.mpr ⟨List.mem_range.mpr (Heap.lt_size e'), by simp [q]⟩
    have z : (hidT h H).get? b = none := PySem.W.hideAll_none (trk h H) hm
    rw [z] at e; cases e

/-! ### OpenK's ledger, filled with every new object but one -/
def allNews (g h : Heap) (L : Addr) : List (Addr × Obj) := (List.range h.objs.size).filterMap fun a => if a = L ∨ (g.get? a).isSome = true then none else (h.get? a).map fun o => (a, o)
def rest (g h : Heap) (L d : Addr) : List (Addr × Obj) := (allNews g h L).filter fun p => decide (p.1 ≠ d)
end L2

namespace L2
open PySem PySem.Spec PyProof.Rows

/-- the module's facts, over the base: the heap at the law's entry without what is tracked there -/
structure Mod (K : PySem.W.Frag) (mg : Str → Option Value) (base : Heap) : Prop where
  kin : K.In base
  glob : base.Ns mainGlobals mg
  blt : ∃ mb, base.Ns builtinsNs mb ∧ ∀ x : Str, x ≠ "__name__" → mb x = bootBuiltins x
  nolimit : base.NoLimit

/-- the context: a def's body (or a comprehension's block) running. base: fixed through the whole law; s₀, H₀: the entry; outer: the frames whose slots others may change (a def's callers); stack: all frames that run;
   ex: iterators that were made ahead of the entry and are walked here (a comprehension's); fn: the names whose cells were made at the entry (a def: all; a comprehension's block: its own); calm: not within an except suite; pn: pins that every state bears; xe: what is wanted of an exception that leaves the code -/
structure Cx where
  prog : Program
  w : World
  K : PySem.W.Frag
  mg : Str → Option Value
  base : Heap
  A : Around
  N : List Str
  s₀ : Shared
  H₀ : Hp
  env : Env
  outer : List Env
  stack : List Env
  ex : List Addr
  fn : Str → Bool
  calm : Bool
  pn : List (Addr × Obj)
  xe : Value → Shared → Prop
/-- the callers' frames -/
def frs (l : List Env) : List Addr := l.filterMap (·.frame)
abbrev Cx.fs (X : Cx) : List Addr := frs X.outer

def Vis (sc : Scope) (x : Str) : Prop := sc.names.lookup x = some .local ∨ sc.names.lookup x = some .cell ∨ sc.names.lookup x = some .free
def Loc (sc : Scope) (x : Str) : Prop := sc.names.lookup x = some .local ∨ sc.names.lookup x = some .cell
def Look (env : Env) (h : Heap) (m : Str → Option Value) (x : Str) (u : Value) : Prop :=
  (env.kindOf x = some .local ∧ m x = some u) ∨ ((env.kindOf x = some .cell ∨ env.kindOf x = some .free) ∧ ∃ c, env.cells.lookup x = some c ∧ h.IsCell c (some u))

structure Cx.Ok (X : Cx) : Prop where
  mod : Mod X.K X.mg X.base
  kind : X.env.scope.kind = .function
  glob : X.env.globals = mainGlobals
  blt : X.env.builtins = builtinsNs
  above : X.s₀.heap.objs.size ≤ X.env.locals
  inj : ∀ x y c, X.env.cells.lookup x = some c → X.env.cells.lookup y = some c → x = y
  has : ∀ x, (X.env.kindOf x = some .cell ∨ X.env.kindOf x = some .free) → ∃ c, X.env.cells.lookup x = some c
  cab : ∀ x c, X.fn x = true → X.env.cells.lookup x = some c → X.s₀.heap.objs.size ≤ c
  hd : X.calm = true → X.A.handled = none
  frames : X.A.frames = some X.stack
  stk : X.stack = X.outer ∨ (X.stack = X.env :: X.outer ∧ X.env.frame = some X.env.locals)
  exf : ∀ b ∈ X.ex, b ≠ X.env.locals ∧ ∀ x c, X.env.cells.lookup x = some c → c ≠ b
  bs : ∀ b o, X.base.get? b = some o → X.s₀.heap.get? b = some o ∧ X.H₀ b = none
  bsz : X.base.objs.size ≤ X.s₀.heap.objs.size
  noex : ∀ b o, X.base.get? b = some o → b ∉ X.ex
  exfs : ∀ b ∈ X.ex, b ∉ X.fs
  funs : X.s₀.heap.FunFrames X.base X.outer
  frf : ∀ b ∈ X.fs, X.H₀ b = none

structure Inv (X : Cx) (pins : List (Addr × Obj)) (σ : List (Option V)) (H : Hp) (s : Shared) : Prop where
  ok : X.Ok
  os : s.os = X.s₀.os
  bare : AllBare s.gens
  base : Un X.fs X.ex X.H₀ H X.s₀.heap s.heap
  loc : ∃ m, s.heap.Ns X.env.locals m ∧ ∀ (i : Nat) (x : Str) (v : V), X.N[i]? = some x → σ[i]? = some (some v) → Vis X.env.scope x → ∃ u, RelV v u ∧ Look X.env s.heap m x u
  cell : ∀ x c, X.env.cells.lookup x = some c → ∃ v, s.heap.IsCell c v
  free : H X.env.locals = none
  freeC : ∀ x c, X.env.cells.lookup x = some c → H c = none
  pin : ∀ p ∈ X.pn ++ pins, s.heap.get? p.1 = some p.2 ∧ H p.1 = none ∧ p.1 ≠ X.env.locals ∧ p.1 ∉ X.fs ∧ ∀ v, p.2.data ≠ .cell v
  hok : HOk X.prog X.w H s.heap
  len : σ.length = X.N.length

section
variable {X : Cx} {pins : List (Addr × Obj)} {σ : List (Option V)} {H H' : Hp} {s : Shared} {h' : Heap}

theorem Cx.Ok.nofr (ok : X.Ok) {b : Addr} {o : Obj} (e : X.base.get? b = some o) : b ∉ X.fs := fun hb => by
  have := (ok.funs.mem hb).1
  rw [e] at this; cases this
theorem Inv.bs (I : Inv X pins σ H s) : ∀ b o, X.base.get? b = some o → s.heap.get? b = some o ∧ H b = none := fun b o e =>
  ⟨I.base.keep b o (I.ok.bs b o e).1 (I.ok.bs b o e).2 (I.ok.nofr e) (I.ok.noex b o e), I.base.free b o (I.ok.bs b o e).1 (I.ok.bs b o e).2 (I.ok.noex b o e)⟩
theorem Inv.bk (I : Inv X pins σ H s) : ∀ b o, X.base.get? b = some o → s.heap.get? b = some o := fun b o e => (I.bs b o e).1
theorem Inv.mod (I : Inv X pins σ H s) : Mod X.K X.mg X.base := I.ok.mod
theorem Inv.kIn (I : Inv X pins σ H s) : X.K.In s.heap := I.ok.mod.kin.keeps I.bk
theorem Inv.lt (I : Inv X pins σ H s) : X.env.locals < s.heap.objs.size := let ⟨_, hn, _⟩ := I.loc; hn.lt
theorem Inv.sz (I : Inv X pins σ H s) : X.s₀.heap.objs.size ≤ s.heap.objs.size := Nat.le_trans I.ok.above (Nat.le_of_lt I.lt)
theorem Inv.nofs (I : Inv X pins σ H s) {a : Addr} (h : s.heap.objs.size ≤ a) : a ∉ X.fs := fun hb => by
  obtain ⟨_, o, ho, _⟩ := I.ok.funs.mem hb
  exact absurd (Nat.lt_of_lt_of_le (Heap.lt_size ho) (Nat.le_trans I.sz h)) (Nat.lt_irrefl _)
theorem Inv.cne (I : Inv X pins σ H s) : ∀ x c, X.env.cells.lookup x = some c → c ≠ X.env.locals := fun x c e z => by
  obtain ⟨v, o, ho, hd⟩ := I.cell x c e
  obtain ⟨m, ⟨o', es, ep, ho', hd', _⟩, _⟩ := I.loc
  rw [z, ho'] at ho; cases ho; rw [hd'] at hd; cases hd
theorem Inv.funs (I : Inv X pins σ H s) : s.heap.FunFrames X.base X.outer := by
  have all : ∀ (l : List Env), (∀ b ∈ frs l, b ∈ X.fs) → X.s₀.heap.FunFrames X.base l → s.heap.FunFrames X.base l := by
    intro l
    induction l with
    | nil => intro _ _; trivial
    | cons env r ih =>
      intro hs hl
      obtain ⟨hk, ⟨L, o, hf, hn, ho, hd⟩, hr⟩ := hl
      have hL : L ∈ X.fs := hs L (by unfold frs; rw [List.filterMap_cons, hf]; exact List.mem_cons_self)
      obtain ⟨sl, e⟩ := I.base.slot L o ho (I.ok.frf L hL) hL fun z => I.ok.exfs L z hL
      exact ⟨hk, ⟨L, _, hf, hn, e, hd⟩, ih (fun b hb => hs b (by unfold frs; rw [List.filterMap_cons, hf]; exact List.mem_cons_of_mem _ hb)) hr⟩
  exact all X.outer (fun _ hb => hb) I.ok.funs

/-- the frames that run, for a call -/
theorem Inv.stack (I : Inv X pins σ H s) : s.heap.FunFrames X.base X.stack := by
  rcases I.ok.stk with e | ⟨e, hf⟩
  · rw [e]; exact I.funs
  · rw [e]
    obtain ⟨m, hn, _⟩ := I.loc
    refine .cons (by rw [I.ok.kind]; decide) hf hn ?_ I.funs
    exact Heap.get?_none_of_le (Nat.le_trans I.ok.bsz I.ok.above)
theorem Inv.stkSub (I : Inv X pins σ H s) : ∀ b ∈ frs X.stack, b ∈ X.env.locals :: X.fs := fun b hb => by
  rcases I.ok.stk with e | ⟨e, hf⟩
  · rw [e] at hb; exact List.mem_cons_of_mem _ hb
  · rw [e] at hb
    unfold frs at hb
    rw [List.filterMap_cons, hf] at hb
    exact hb
theorem Inv.stkFree (I : Inv X pins σ H s) : ∀ b ∈ frs X.stack, H b = none := fun b hb => by
  rcases List.mem_cons.mp (I.stkSub b hb) with e | hb
  · rw [e]; exact I.free
  · obtain ⟨_, o, ho, _⟩ := I.ok.funs.mem hb
    exact I.base.free b o ho (I.ok.frf b hb) fun z => I.ok.exfs b z hb

/-- THE STEP: the untracked objects but the frame and the records at ch are kept (the callers' frames up to slots), the frame's map is kept, the new abstract heap is held -/
theorem Inv.step {g' : Array GenState} {t' : Nat} {d' : Drawn} {ch : List Addr} (I : Inv X pins σ H s)
    (hch : ∀ b ∈ ch, (b ∈ X.ex ∨ X.s₀.heap.objs.size ≤ b) ∧ b ≠ X.env.locals ∧ (∀ x c, X.env.cells.lookup x = some c → c ≠ b) ∧ ∀ p ∈ X.pn ++ pins, p.1 ≠ b)
    (keep : ∀ b o, b ≠ X.env.locals → b ∉ X.fs → b ∉ ch → s.heap.get? b = some o → H b = none → h'.get? b = some o)
    (slot : ∀ b o, b ≠ X.env.locals → b ∈ X.fs → b ∉ ch → s.heap.get? b = some o → H b = none → ∃ sl, h'.get? b = some { o with slots := sl }) (free : ∀ b o, b ∉ ch → s.heap.get? b = some o → H b = none → H' b = none)
    (there : ∀ b o, b ∉ ch → s.heap.get? b = some o → ∃ o', h'.get? b = some o')
    (tups : ∀ b xs, H b = some (.tup xs) → H' b = some (.tup xs)) (frzs : ∀ b o u, H b = some (.frz o u) → H' b = some (.frz o u)) (tbls : ∀ b ps, H b = some (.tbl ps) → ∃ more, H' b = some (.tbl (ps ++ more)))
    (ns : ∀ m, s.heap.Ns X.env.locals m → h'.Ns X.env.locals m) (hok : HOk X.prog X.w H' h') (hg : AllBare g') :
    Inv X pins σ H' { s with heap := h', gens := g', drawn := d', toks := t' } := by
  have neL : ∀ b o, X.s₀.heap.get? b = some o → b ≠ X.env.locals := fun b o e => Nat.ne_of_lt (Nat.lt_of_lt_of_le (Heap.lt_size e) I.ok.above)
  have neC : ∀ b o, X.s₀.heap.get? b = some o → b ∉ X.ex → b ∉ ch := fun b o e hx hb => by
    rcases (hch b hb).1 with z | z
    · exact hx z
    · exact absurd (Nat.lt_of_lt_of_le (Heap.lt_size e) z) (Nat.lt_irrefl _)
  have cellK : ∀ x c, X.env.cells.lookup x = some c → ∀ v, s.heap.IsCell c v → h'.IsCell c v := fun x c e v ⟨o, ho, hd⟩ => by
    have nch : c ∉ ch := fun z => (hch c z).2.2.1 x c e rfl
    by_cases hc : c ∈ X.fs
    · obtain ⟨sl, q⟩ := slot c o (I.cne x c e) hc nch ho (I.freeC x c e)
      exact ⟨_, q, hd⟩
    · exact ⟨o, keep c o (I.cne x c e) hc nch ho (I.freeC x c e), hd⟩
  refine ⟨I.ok, I.os, hg, ⟨fun b o e n hb hx => ?_, fun b o e n hb hx => ?_, fun b o e n hx => ?_, fun b o e hx => ?_, fun b xs e => tups b xs (I.base.tups b xs e), fun b o xs e => frzs b o xs (I.base.frzs b o xs e), fun b ps e => ?_⟩, ?_, fun x c e => ?_, ?_, fun x c e => ?_, fun p hp => ?_, hok, I.len⟩
  · exact keep b o (neL b o e) hb (neC b o e hx) (I.base.keep b o e n hb hx) (I.base.free b o e n hx)
  · obtain ⟨sl, e1⟩ := I.base.slot b o e n hb hx
    obtain ⟨sl', e2⟩ := slot b _ (neL b o e) hb (neC b o e hx) e1 (I.base.free b o e n hx)
    exact ⟨sl', e2⟩
  · obtain ⟨o', e1⟩ := I.base.there b o e hx
    exact free b o' (neC b o e hx) e1 (I.base.free b o e n hx)
  · obtain ⟨o', e1⟩ := I.base.there b o e hx
    exact there b o' (neC b o e hx) e1
  · obtain ⟨m1, e1⟩ := I.base.tbls b ps e
    obtain ⟨m2, e2⟩ := tbls b _ e1
    exact ⟨m1 ++ m2, by rw [e2, Array.append_assoc]⟩
  · obtain ⟨m, hn, hl⟩ := I.loc
    refine ⟨m, ns m hn, fun i x v e1 e2 e3 => ?_⟩
    obtain ⟨u, r, l⟩ := hl i x v e1 e2 e3
    refine ⟨u, r, ?_⟩
    rcases l with l | ⟨k, c, e, z⟩
    · exact .inl l
    · exact .inr ⟨k, c, e, cellK x c e _ z⟩
  · obtain ⟨v, z⟩ := I.cell x c e
    exact ⟨v, cellK x c e v z⟩
  · obtain ⟨m, ⟨o, _, _, ho, _⟩, _⟩ := I.loc
    exact free _ o (fun z => (hch _ z).2.1 rfl) ho I.free
  · obtain ⟨v, o, ho, hd⟩ := I.cell x c e
    exact free c o (fun z => (hch c z).2.2.1 x c e rfl) ho (I.freeC x c e)
  · obtain ⟨e, n, ne, nf, d⟩ := I.pin p hp
    have nch : p.1 ∉ ch := fun z => (hch p.1 z).2.2.2 p hp rfl
    exact ⟨keep p.1 p.2 ne nf nch e n, free p.1 p.2 nch e n, ne, nf, d⟩
/-- .. where the frame's own object is kept too -/
theorem Inv.un {t' : Nat} (I : Inv X pins σ H s) (u : Un X.fs [] H H' s.heap h') (hok : HOk X.prog X.w H' h') : Inv X pins σ H' { s with heap := h', toks := t' } := by
  obtain ⟨m, ⟨o, es, ep, ho, r⟩, _⟩ := id I.loc
  obtain ⟨sl, hL⟩ := u.any ho I.free (by simp)
  exact I.step (g' := s.gens) (d' := s.drawn) (ch := []) (fun _ z => nomatch z) (fun b o _ hb _ e n => u.keep b o e n hb (by simp)) (fun b o _ hb _ e n => u.slot b o e n hb (by simp)) (fun b o _ e n => u.free b o e n (by simp)) (fun b o _ e => u.there b o e (by simp)) u.tups u.frzs u.tbls (fun m' hm => by
    obtain ⟨o', es', ep', ho', r'⟩ := hm
    rw [ho] at ho'; cases ho'
    exact ⟨_, es', ep', hL, r'⟩) hok I.bare
/-- behind a call (or a comprehension's block): the slots of this frame may have changed too, the records at ch may have turned -/
theorem Inv.call {g' : Array GenState} {t' : Nat} {d' : Drawn} {ch : List Addr} (I : Inv X pins σ H s) (u : Un (frs X.stack) ch H H' s.heap h') (hok : HOk X.prog X.w H' h') (hg : AllBare g')
    (hch : ∀ b ∈ ch, (b ∈ X.ex ∨ X.s₀.heap.objs.size ≤ b) ∧ b ≠ X.env.locals ∧ (∀ x c, X.env.cells.lookup x = some c → c ≠ b) ∧ ∀ p ∈ X.pn ++ pins, p.1 ≠ b) :
    Inv X pins σ H' { s with heap := h', gens := g', drawn := d', toks := t' } := by
  obtain ⟨m, ⟨o, es, ep, ho, r⟩, _⟩ := id I.loc
  obtain ⟨sl, hL⟩ := u.any ho I.free fun z => (hch _ z).2.1 rfl
  exact I.step (ch := ch) hch (fun b o hL hb hc e n => u.keep b o e n (fun z => (List.mem_cons.mp (I.stkSub b z)).elim hL hb) hc) (fun b o _ _ hc e n => u.any e n hc) (fun b o hc e n => u.free b o e n hc) (fun b o hc e => u.there b o e hc) u.tups u.frzs u.tbls (fun m' hm => by
    obtain ⟨o', es', ep', ho', r'⟩ := hm
    rw [ho] at ho'; cases ho'
    exact ⟨_, es', ep', hL, r'⟩) hok hg
/-- an untracked record of ours (an iterator) has turned -/
theorem Inv.turned {t' : Nat} {it : Addr} (I : Inv X pins σ H s) (k : ∀ b o, b ≠ it → s.heap.get? b = some o → h'.get? b = some o) (hn : H it = none) (hL : it ≠ X.env.locals)
    (h1 : it ∈ X.ex ∨ X.s₀.heap.objs.size ≤ it) (h2 : ∀ x c, X.env.cells.lookup x = some c → c ≠ it) (h3 : ∀ p ∈ X.pn ++ pins, p.1 ≠ it) : Inv X pins σ H { s with heap := h', toks := t' } := by
  have nit : ∀ b u, H b = some u → b ≠ it := fun b u e z => by rw [z, hn] at e; cases e
  refine I.step (g' := s.gens) (d' := s.drawn) (ch := [it]) (fun b hb => ?_) (fun b o _ _ hc e _ => k b o (fun z => hc (by simp [z])) e) (fun b o _ _ hc e _ => ⟨o.slots, k b o (fun z => hc (by simp [z])) e⟩) (fun _ _ _ _ n => n)
    (fun b o hc e => ⟨o, k b o (fun z => hc (by simp [z])) e⟩) (fun _ _ e => e) (fun _ _ _ e => e) (fun b ps e => ⟨#[], by rw [e]; simp⟩) (fun m hm => ?_) (fun b u e => ?_) I.bare
  · have e : b = it := by simpa using hb
    subst e
    exact ⟨h1, hL, h2, h3⟩
  · obtain ⟨o, es, ep, ho, r⟩ := hm
    exact ⟨o, es, ep, k _ o (Ne.symm hL) ho, r⟩
  · refine (I.hok b u e).stay (fun c v hc q => k c v ?_ q) (fun _ q => q) fun _ _ q => q
    rcases hc with z | z
    · rw [z]; exact nit b u e
    · exact nit c _ z
theorem Inv.tok (I : Inv X pins σ H s) (t : Nat) : Inv X pins σ H { s with toks := t } := I.un (h' := s.heap) (t' := t) Un.refl I.hok
/-- all objects kept -/
theorem Inv.kept {t' : Nat} (I : Inv X pins σ H s) (k : ∀ b u, s.heap.get? b = some u → h'.get? b = some u) : Inv X pins σ H { s with heap := h', toks := t' } := I.un (Un.kept k) (I.hok.kept k)
/-- a new object laid and tracked -/
theorem Inv.laid {a : Addr} {o : HO} {t' : Nat} (I : Inv X pins σ H s) (k : ∀ b u, s.heap.get? b = some u → h'.get? b = some u) (hp : s.heap.objs.size ≤ a) (new : ObjOk X.prog X.w (upd H a o) h' a o) :
    Inv X pins σ (upd H a o) { s with heap := h', toks := t' } := I.un (Un.laid k hp (I.hok.fresh hp)) (I.hok.laid k hp new)
/-- an object written -/
theorem Inv.write {x e : Addr} {o : HO} {t' : Nat} (I : Inv X pins σ H s) (mu : Mut (H x)) (he : e = x ∨ H e = some (.own x)) (k : ∀ b u, b ≠ e → s.heap.get? b = some u → h'.get? b = some u) (heo : ∃ u, h'.get? e = some u)
    (new : ObjOk X.prog X.w (upd H x o) h' x o) : Inv X pins σ (upd H x o) { s with heap := h', toks := t' } := I.un (Un.write mu he k heo) (I.hok.write mu he k heo new)
theorem Inv.pins_of {pins' : List (Addr × Obj)} (I : Inv X pins σ H s) (h : ∀ p ∈ pins', s.heap.get? p.1 = some p.2 ∧ H p.1 = none ∧ p.1 ≠ X.env.locals ∧ p.1 ∉ X.fs ∧ ∀ v, p.2.data ≠ .cell v) : Inv X pins' σ H s :=
  ⟨I.ok, I.os, I.bare, I.base, I.loc, I.cell, I.free, I.freeC, fun p hp => (List.mem_append.mp hp).elim (fun z => I.pin p (List.mem_append_left _ z)) (h p), I.hok, I.len⟩

theorem nodup_ix {N : List Str} (hN : N.Nodup) {i j : Nat} {x : Str} (a : N[i]? = some x) (b : N[j]? = some x) : i = j := by
  obtain ⟨h1, e1⟩ := List.getElem?_eq_some_iff.mp a
  obtain ⟨h2, e2⟩ := List.getElem?_eq_some_iff.mp b
  exact (List.getElem_inj hN).mp (e1.trans e2.symm)

/-- a name is stored; what changed -/
theorem store_ok2 {M : Model} {A : Around} {E : Value → Shared → Prop} {i : Nat} {x : Str} {v : V} {u : Value} {Q : Unit → Shared → Prop} (I : Inv X pins σ H s) (hN : X.N.Nodup) (hi : X.N[i]? = some x) (hx : Loc X.env.scope x) (r : RelV v u)
    (h : ∀ s', Inv X pins (σ.set i (some v)) H s' → (∃ a, Heap.SameBut a s.heap s'.heap ∧ (a = X.env.locals ∨ X.env.cells.lookup x = some a)) → Q () s') (hf : X.fn x = true ∨ X.env.scope.names.lookup x = some .local := by first | exact .inl rfl | exact .inr rfl | assumption) : wpAny M A (storeName X.env x u) Q E s := by
  obtain ⟨m, hn, hl⟩ := id I.loc
  have hcls : (X.env.scope.kind == .class || (X.env.scope.kind == .module && X.env.locals != X.env.globals)) = false := by rw [I.ok.kind]; rfl
  have hiσ : i < σ.length := by rw [I.len]; exact (List.getElem?_eq_some_iff.mp hi).1
  have cne := I.cne
  have tracked : ∀ {a : Addr} {h' : Heap}, (∃ o, s.heap.get? a = some o ∧ H a = none) → Heap.SameBut a s.heap h' → HOk X.prog X.w H h' := fun {a h'} ha hs b ob e => by
    obtain ⟨_, _, hfree⟩ := ha
    refine (I.hok b ob e).stay (fun c w' hc q => (hs.2 c ?_).trans q) (fun _ q => q) fun _ _ q => q
    rintro rfl
    rcases hc with rfl | hc
    · rw [hfree] at e; cases e
    · rw [hfree] at hc; cases hc
  rcases hx with hk | hk
  · refine wpAny_storeName_local hk hn (fun h' hn' hs => ?_) hcls
    obtain ⟨oL, _, _, hoL, _⟩ := id hn
    refine h _ ⟨I.ok, I.os, I.bare, ⟨fun b o e n hb hx => ?_, fun b o e n hb hx => ?_, I.base.free, fun b o e hx => ?_, I.base.tups, I.base.frzs, I.base.tbls⟩, ⟨_, hn', fun j y v' e1 e2 e3 => ?_⟩, fun y c e => ?_, I.free, I.freeC, fun p hp => ?_, tracked ⟨oL, hoL, I.free⟩ hs, by simpa using I.len⟩ ⟨_, hs, .inl rfl⟩
    · exact (hs.2 b (Nat.ne_of_lt (Nat.lt_of_lt_of_le (Heap.lt_size e) I.ok.above))).trans (I.base.keep b o e n hb hx)
    · obtain ⟨sl, e1⟩ := I.base.slot b o e n hb hx
      exact ⟨sl, (hs.2 b (Nat.ne_of_lt (Nat.lt_of_lt_of_le (Heap.lt_size e) I.ok.above))).trans e1⟩
    · obtain ⟨o', e1⟩ := I.base.there b o e hx
      exact ⟨o', (hs.2 b (Nat.ne_of_lt (Nat.lt_of_lt_of_le (Heap.lt_size e) I.ok.above))).trans e1⟩
    · by_cases hj : j = i
      · subst hj
        rw [hi] at e1; cases e1
        rw [List.getElem?_set_self hiσ] at e2
        cases e2
        exact ⟨u, r, .inl ⟨hk, by simp⟩⟩
      · rw [List.getElem?_set_ne (Ne.symm hj)] at e2
        obtain ⟨u', r', q⟩ := hl j y v' e1 e2 e3
        refine ⟨u', r', ?_⟩
        rcases q with ⟨k, e⟩ | ⟨k, c, e, z⟩
        · refine .inl ⟨k, ?_⟩
          have : y ≠ x := fun e => hj (nodup_ix hN e1 (e ▸ hi))
          simp [this, e]
        · exact .inr ⟨k, c, e, z.sameBut hs (cne y c e)⟩
    · obtain ⟨w', z⟩ := I.cell y c e
      exact ⟨w', z.sameBut hs (cne y c e)⟩
    · obtain ⟨e, n, ne, nf, d⟩ := I.pin p hp
      exact ⟨(hs.2 p.1 ne).trans e, n, ne, nf, d⟩
  · have hfn : X.fn x = true := by
      rcases hf with z | z
      · exact z
      · rw [z] at hk; cases hk
    obtain ⟨c, hc⟩ := I.ok.has x (.inl hk)
    obtain ⟨w', z⟩ := I.cell x c hc
    refine wpAny_storeName_cell I.ok.kind hk hc z (fun h' hc' hs => ?_)
    obtain ⟨oc, hoc, hocd⟩ := id z
    refine h { s with heap := h' } ⟨I.ok, I.os, I.bare, ⟨fun b o e n hb hx => ?_, fun b o e n hb hx => ?_, I.base.free, fun b o e hx => ?_, I.base.tups, I.base.frzs, I.base.tbls⟩, ⟨m, hn.sameBut hs (Ne.symm (cne x c hc)), fun j y v' e1 e2 e3 => ?_⟩, fun y c' e => ?_, I.free, I.freeC, fun p hp => ?_, tracked ⟨oc, hoc, I.freeC x c hc⟩ hs, by simpa using I.len⟩ ⟨c, hs, .inr hc⟩
    · exact (hs.2 b (Nat.ne_of_lt (Nat.lt_of_lt_of_le (Heap.lt_size e) (I.ok.cab x c hfn hc)))).trans (I.base.keep b o e n hb hx)
    · obtain ⟨sl, e1⟩ := I.base.slot b o e n hb hx
      exact ⟨sl, (hs.2 b (Nat.ne_of_lt (Nat.lt_of_lt_of_le (Heap.lt_size e) (I.ok.cab x c hfn hc)))).trans e1⟩
    · obtain ⟨o', e1⟩ := I.base.there b o e hx
      exact ⟨o', (hs.2 b (Nat.ne_of_lt (Nat.lt_of_lt_of_le (Heap.lt_size e) (I.ok.cab x c hfn hc)))).trans e1⟩
    · by_cases hj : j = i
      · subst hj
        rw [hi] at e1; cases e1
        rw [List.getElem?_set_self hiσ] at e2
        cases e2
        exact ⟨u, r, .inr ⟨.inl hk, c, hc, hc'⟩⟩
      · rw [List.getElem?_set_ne (Ne.symm hj)] at e2
        obtain ⟨u', r', q⟩ := hl j y v' e1 e2 e3
        refine ⟨u', r', ?_⟩
        rcases q with q | ⟨k, c', e, z'⟩
        · exact .inl q
        · refine .inr ⟨k, c', e, z'.sameBut hs ?_⟩
          rintro rfl
          exact hj (nodup_ix hN e1 (I.ok.inj _ _ _ e hc ▸ hi))
    · by_cases hcc : c' = c
      · subst hcc; exact ⟨_, hc'⟩
      · obtain ⟨w2, z2⟩ := I.cell y c' e
        exact ⟨w2, z2.sameBut hs hcc⟩
    · obtain ⟨e, n, ne, nf, d⟩ := I.pin p hp
      refine ⟨(hs.2 p.1 ?_).trans e, n, ne, nf, d⟩
      intro q
      rw [q, hoc] at e
      have q' : oc = p.2 := Option.some.inj e
      exact d w' (by rw [← q']; exact hocd)
theorem store_ok {M : Model} {A : Around} {E : Value → Shared → Prop} {i : Nat} {x : Str} {v : V} {u : Value} {Q : Unit → Shared → Prop} (I : Inv X pins σ H s) (hN : X.N.Nodup) (hi : X.N[i]? = some x) (hx : Loc X.env.scope x) (r : RelV v u)
    (h : ∀ s', Inv X pins (σ.set i (some v)) H s' → Q () s') (hf : X.fn x = true ∨ X.env.scope.names.lookup x = some .local := by first | exact .inl rfl | exact .inr rfl | assumption) : wpAny M A (storeName X.env x u) Q E s :=
  store_ok2 I hN hi hx r (fun s' I' _ => h s' I') hf
/-- behind a call or a block, the state as it is -/
theorem Inv.call' {s' : Shared} {ch : List Addr} (I : Inv X pins σ H s) (ho : s'.os = s.os) (u : Un (frs X.stack) ch H H' s.heap s'.heap) (hok : HOk X.prog X.w H' s'.heap) (hg : AllBare s'.gens)
    (hch : ∀ b ∈ ch, (b ∈ X.ex ∨ X.s₀.heap.objs.size ≤ b) ∧ b ≠ X.env.locals ∧ (∀ x c, X.env.cells.lookup x = some c → c ≠ b) ∧ ∀ p ∈ X.pn ++ pins, p.1 ≠ b) : Inv X pins σ H' s' := by
  obtain ⟨h', g', d', t', o'⟩ := s'
  have e : o' = s.os := ho
  subst e
  exact I.call (g' := g') (t' := t') (d' := d') u hok hg hch
end

/-! ### the judgements -/
/-- an exception: its class, its own dict's address (where it has one), the abstract heap behind it -/
abbrev XK := Value → Option Addr → Hp → Prop
abbrev St := List (Option V)
abbrev VK := V → Hp → Prop
/-- an expression's reading; a test's; an argument list's -/
abbrev TE := St → Hp → VK → Prop
abbrev TT := St → Hp → (Bool → Hp → Prop) → Prop
abbrev TA := St → Hp → (List V → Hp → Prop) → Prop
/-- what is wanted behind a statement -/
structure Ends where
  nx : St → Hp → Prop
  rt : VK
  bk : St → Hp → Prop := fun _ _ => False
  ct : St → Hp → Prop := fun _ _ => False
abbrev TS := Ends → St → Hp → Prop

def EP (X : Cx) (pins : List (Addr × Obj)) (σ : St) (Q : VK) (u : Value) (s' : Shared) : Prop := ∃ v H', Inv X pins σ H' s' ∧ RelV v u ∧ Q v H'
def TP (X : Cx) (pins : List (Addr × Obj)) (σ : St) (Q : Bool → Hp → Prop) (b : Bool) (s' : Shared) : Prop := ∃ H', Inv X pins σ H' s' ∧ Q b H'
def AP (X : Cx) (pins : List (Addr × Obj)) (σ : St) (Q : List V → Hp → Prop) (us : List Value) (s' : Shared) : Prop := ∃ vs H', Inv X pins σ H' s' ∧ Vals vs us ∧ Q vs H'
def SP (X : Cx) (pins : List (Addr × Obj)) (D : Ends) (f : Flow) (s' : Shared) : Prop :=
  match f with
  | .next => ∃ σ' H', Inv X pins σ' H' s' ∧ D.nx σ' H'
  | .brk => ∃ σ' H', Inv X pins σ' H' s' ∧ D.bk σ' H'
  | .cont => ∃ σ' H', Inv X pins σ' H' s' ∧ D.ct σ' H'
  | .ret u => ∃ v σ' H', Inv X pins σ' H' s' ∧ RelV v u ∧ D.rt v H'

def PE (X : Cx) (e : Expr) (t : TE) : Prop :=
  ∀ (pins : List (Addr × Obj)) (s : Shared) (σ : St) (H : Hp) (Q : VK), Inv X pins σ H s → t σ H Q → wpAny (model X.prog X.w) X.A (eval e X.env) (EP X pins σ Q) X.xe s
def PT (X : Cx) (e : Expr) (t : TT) : Prop :=
  ∀ (pins : List (Addr × Obj)) (s : Shared) (σ : St) (H : Hp) (Q : Bool → Hp → Prop), Inv X pins σ H s → t σ H Q → wpAny (model X.prog X.w) X.A (isTrue e X.env (eval e X.env)) (TP X pins σ Q) X.xe s
/-- a test whatever its 'whole' is (and, or) -/
def PW (X : Cx) (e : Expr) (t : TT) : Prop :=
  ∀ (whole : Sem Value) (pins : List (Addr × Obj)) (s : Shared) (σ : St) (H : Hp) (Q : Bool → Hp → Prop), Inv X pins σ H s → t σ H Q → wpAny (model X.prog X.w) X.A (isTrue e X.env whole) (TP X pins σ Q) X.xe s
theorem PW.pt {X : Cx} {e : Expr} {t : TT} (h : PW X e t) : PT X e t := h _
/-- an argument list (no star), from the left -/
def PA (X : Cx) (es : List Expr) (t : TA) : Prop :=
  ∀ (pos : Pos) (pins : List (Addr × Obj)) (s : Shared) (σ : St) (H : Hp) (Q : List V → Hp → Prop), Inv X pins σ H s → t σ H Q → wpAny (model X.prog X.w) X.A (spliced (backTo pos (starEach es X.env))) (AP X pins σ Q) X.xe s
def PS (X : Cx) (st : Stmt) (t : TS) : Prop :=
  ∀ (pins : List (Addr × Obj)) (s : Shared) (σ : St) (H : Hp) (D : Ends), Inv X pins σ H s → t D σ H → wpAny (model X.prog X.w) X.A (exec st X.env) (SP X pins D) X.xe s
def PSs (X : Cx) (st : List Stmt) (t : TS) : Prop :=
  ∀ (pins : List (Addr × Obj)) (s : Shared) (σ : St) (H : Hp) (D : Ends), Inv X pins σ H s → t D σ H → wpAny (model X.prog X.w) X.A (execs st X.env) (SP X pins D) X.xe s
/-- weaken the end -/
theorem thn {α : Type} {t : Sem α} {Q Q' : α → Shared → Prop} {M : Model} {A : Around} {E : Value → Shared → Prop} {s : Shared} (h : wpAny M A t Q E s) (hQ : ∀ a s, Q a s → Q' a s) : wpAny M A t Q' E s := wpAny_mono h hQ fun _ _ x => x
end L2

namespace L2
open PySem PySem.Spec PyProof.Rows
section
variable {X : Cx}


/-! ### names and constants -/
def tVar (i : Nat) : TE := fun σ H Q => ∃ v, σ[i]? = some (some v) ∧ Q v H
def tC (v : V) : TE := fun _ H Q => Q v H
theorem pe_var {i : Nat} {x : Str} {pos : Pos} (hN : X.N[i]? = some x) (hv : Vis X.env.scope x) (hd : (x == ("__debug__" : Str)) = false := by decide) (hcd : (x == ("__classdict__" : Str)) = false := by decide) : PE X (.Name x pos) (tVar i) := by
  intro pins s σ H Q I h
  obtain ⟨v, e, h⟩ := h
  obtain ⟨m, hn, hl⟩ := I.loc
  obtain ⟨u, r, l⟩ := hl i x v hN e hv
  have fin : EP X pins σ Q u s := ⟨v, H, I, r, h⟩
  rcases l with ⟨hk, hm⟩ | ⟨hk, c, hc, hcell⟩
  · exact wpAny_Name (wpAny_loadName_local I.ok.kind hk hn hm fin) hd
  · rcases hk with hk | hk
    · exact wpAny_Name (wpAny_loadName_cell I.ok.kind hk hc hcell fin) hd
    · exact wpAny_Name (wpAny_loadName_free I.ok.kind hk hc hcell fin hcd) hd
theorem pe_int {i j pos} : PE X (.Constant (.int i) j pos) (tC (.int i)) := fun _ _ _ H _ I h => wpAny_Constant_int ⟨.int i, H, I.tok _, ⟨_, rfl⟩, h⟩
theorem pe_bl {b j pos} : PE X (.Constant (.bool b) j pos) (tC (.bl b)) := fun _ _ _ H _ I h => Constant_bool ⟨.bl b, H, I, rfl, h⟩
theorem pe_non {j pos} : PE X (.Constant .none j pos) (tC .non) := fun _ _ _ H _ I h => Constant_none ⟨.non, H, I, rfl, h⟩
theorem pe_str {x j pos} : PE X (.Constant (.str x) j pos) (tC (.str x)) := fun _ _ _ H _ I h => Calls.Constant_str ⟨.str x, H, I.tok _, ⟨_, rfl⟩, h⟩

/-- a global name of the def -/
def Gl (X : Cx) (x : Str) : Prop := X.env.kindOf x = some .globalImplicit
theorem ld_glob {E : Value → Shared → Prop} {pins : List (Addr × Obj)} {s : Shared} {σ : St} {H : Hp} {x : Str} {u : Value} {pos : Pos} {Q : Value → Shared → Prop} (I : Inv X pins σ H s) (hg : Gl X x) (hm : X.mg x = some u) (h : Q u s)
    (hd : (x == ("__debug__" : Str)) = false := by decide) : wpAny (model X.prog X.w) X.A (eval (.Name x pos) X.env) Q E s :=
  Calls.Name_function_global I.ok.kind hg (Calls.loadGlobal_global (by rw [I.ok.glob]; exact I.mod.glob.keeps I.bk) hm h) hd
theorem ld_blt {E : Value → Shared → Prop} {pins : List (Addr × Obj)} {s : Shared} {σ : St} {H : Hp} {x : Str} {u : Value} {pos : Pos} {Q : Value → Shared → Prop} (I : Inv X pins σ H s) (hg : Gl X x) (hm : X.mg x = none) (hv : bootBuiltins x = some u) (h : Q u s)
    (hn : x ≠ "__name__" := by decide) (hd : (x == ("__debug__" : Str)) = false := by decide) : wpAny (model X.prog X.w) X.A (eval (.Name x pos) X.env) Q E s := by
  obtain ⟨mb, h1, h2⟩ := I.mod.blt
  exact Calls.Name_function_global I.ok.kind hg (Calls.loadGlobal_builtin (by rw [I.ok.glob]; exact I.mod.glob.keeps I.bk) hm (by rw [I.ok.blt]; exact h1.keeps I.bk) ((h2 x hn).trans hv) h) hd
/-- a module's constant, a class, a function, as a value -/
theorem pe_glob {x : Str} {v : V} {u : Value} {pos : Pos} (hg : Gl X x) (hm : X.mg x = some u) (r : RelV v u) (hd : (x == ("__debug__" : Str)) = false := by decide) : PE X (.Name x pos) (tC v) :=
  fun _ _ _ H _ I h => ld_glob I hg hm ⟨v, H, I, r, h⟩ hd
theorem pe_bltn {x : Str} {v : V} {u : Value} {pos : Pos} (hg : Gl X x) (hm : X.mg x = none) (hv : bootBuiltins x = some u) (r : RelV v u) (hn : x ≠ "__name__" := by decide) (hd : (x == ("__debug__" : Str)) = false := by decide) : PE X (.Name x pos) (tC v) :=
  fun _ _ _ H _ I h => ld_blt I hg hm hv ⟨v, H, I, r, h⟩ hn hd

/-! ### arithmetic -/
variable {a b : Expr} {ta tb : TE} {pos : Pos}

/-! ### comparisons -/
/-- a comparison as a value, as a test -/
def tB (t : TE) : TT := fun σ H Q => t σ H fun x H1 => ∃ c, x = .bl c ∧ Q c H1
/-- an expression whose value is a bool, as a test -/
theorem pt_val {e : Expr} {t : TE} (h : PE X e t) (he : ∀ whole, isTrue e X.env whole = (do let v ← whole; standAt e.pos; holding [v] (truthy v)) := by intro _; rfl) : PT X e (tB t) := by
  intro pins s σ H Q I hw
  refine isTrue_plain (thn (h pins s σ H _ I hw) fun v s1 ⟨x, H1, I1, r1, q1⟩ => ?_) (he _)
  obtain ⟨d, rfl, q⟩ := q1
  cases r1
  exact wpAny_truthy_bool ⟨H1, I1, q⟩

/-! ### and, or, not -/
variable {tA tB' : TT} {rest : List Expr}
def tAnd (t u : TT) : TT := fun σ H Q => t σ H fun c H1 => if c = true then u σ H1 Q else Q false H1
def tOr (t u : TT) : TT := fun σ H Q => t σ H fun c H1 => if c = true then Q true H1 else u σ H1 Q
def tNot (t : TT) : TT := fun σ H Q => t σ H fun c H1 => Q (!c) H1
theorem pw_and1 (ha : PT X a tA) : PW X (.BoolOp .And [a] pos) tA := by
  intro wh pins s σ H Q I h
  refine isTrue_and (thn (ha pins s σ H Q I h) fun c s1 e => ?_)
  cases c with
  | true => exact isTrue_and_nil e
  | false => exact e
theorem pw_or1 (ha : PT X a tA) : PW X (.BoolOp .Or [a] pos) tA := by
  intro wh pins s σ H Q I h
  refine isTrue_or (thn (ha pins s σ H Q I h) fun c s1 e => ?_)
  cases c with
  | false => exact isTrue_or_nil e
  | true => exact e
theorem pw_and (ha : PT X a tA) (hb : PW X (.BoolOp .And (b :: rest) pos) tB') : PW X (.BoolOp .And (a :: b :: rest) pos) (tAnd tA tB') := by
  intro wh pins s σ H Q I h
  refine isTrue_and (thn (ha pins s σ H _ I h) fun c s1 ⟨H1, I1, q1⟩ => ?_)
  cases c with
  | true => exact hb wh pins s1 σ H1 Q I1 q1
  | false => exact ⟨H1, I1, q1⟩
theorem pw_or (ha : PT X a tA) (hb : PW X (.BoolOp .Or (b :: rest) pos) tB') : PW X (.BoolOp .Or (a :: b :: rest) pos) (tOr tA tB') := by
  intro wh pins s σ H Q I h
  refine isTrue_or (thn (ha pins s σ H _ I h) fun c s1 ⟨H1, I1, q1⟩ => ?_)
  cases c with
  | true => exact ⟨H1, I1, q1⟩
  | false => exact hb wh pins s1 σ H1 Q I1 q1
theorem pt_not (ha : PT X a tA) : PT X (.UnaryOp .Not a pos) (tNot tA) := by
  intro pins s σ H Q I h
  exact isTrue_not (ha pins s σ H (fun c H1 => Q (!c) H1) I h)
/-- a if t else b -/
def tIf (t : TT) (ta tb : TE) : TE := fun σ H Q => t σ H fun c H1 => if c = true then ta σ H1 Q else tb σ H1 Q
theorem pe_ifExp {c : Expr} (hc : PT X c tA) (ha : PE X a ta) (hb : PE X b tb) : PE X (.IfExp c a b pos) (tIf tA ta tb) := by
  intro pins s σ H Q I h
  refine wpAny_IfExp (thn (hc pins s σ H _ I h) fun d s1 ⟨H1, I1, q1⟩ => ?_)
  cases d with
  | true => exact ha pins s1 σ H1 Q I1 q1
  | false => exact hb pins s1 σ H1 Q I1 q1
end
end L2

namespace L2
open PySem PySem.Spec PyProof.Rows

/-! ### a list, a tuple that is read: tracked, frozen, or an object of the module -/
def SqL (K : PySem.W.Frag) (H : Hp) (a : Addr) (xs : List V) : Prop :=
  Rd H a (.lst xs) ∨
    ∃ (o : Obj) (its : Array Value) (n : Nat), K.lookup a = some o ∧ o.cls = .type "list" ∧ o.dict = none ∧ o.data = .seq its n ∧ its.size ≤ sizeLine ∧ Vals xs its.toList
def SqT (K : PySem.W.Frag) (H : Hp) (a : Addr) (xs : List V) : Prop :=
  Rd H a (.tup xs) ∨
    ∃ (o : Obj) (its : Array Value) (n : Nat), K.lookup a = some o ∧ o.cls = .type "tuple" ∧ o.data = .seq its n ∧ its.size ≤ sizeLine ∧ Vals xs its.toList
def absV : Value → Option V
  | .none => some .non
  | .bool b => some (.bl b)
  | .int i _ => some (.int i)
  | .str x _ => some (.str x)
  | .bytes b _ => some (.byt b)
  | .float b _ => some (.flt b)
  | .ref a => some (.ref a)
  | .type n => some (.ty n)
  | _ => none
theorem RelV.abs {x : V} {u : Value} (r : RelV x u) : absV u = some x := by
  cases x with
  | non => cases r; rfl
  | bl _ => cases r; rfl
  | int _ => obtain ⟨t, rfl⟩ := r; rfl
  | str _ => obtain ⟨t, rfl⟩ := r; rfl
  | byt _ => obtain ⟨t, rfl⟩ := r; rfl
  | flt _ => obtain ⟨t, rfl⟩ := r; rfl
  | ref _ => cases r; rfl
  | ty _ => cases r; rfl
theorem RelV.inj {x y : V} {u : Value} (r : RelV x u) (q : RelV y u) : x = y := Option.some.inj (r.abs.symm.trans q.abs)
theorem Vals.inj : ∀ {xs ys : List V} {us : List Value}, Vals xs us → Vals ys us → xs = ys
  | _, _, _, .nil, .nil => rfl
  | _, _, _, .cons r t, .cons r' t' => by rw [r.inj r', Vals.inj t t']
section
variable {X : Cx} {pins : List (Addr × Obj)} {σ : St} {H : Hp} {s : Shared} {a : Addr} {xs ys : List V}
theorem SqL.of {K : PySem.W.Frag} (h : H a = some (.lst xs)) : SqL K H a xs := .inl (.inl h)
theorem SqT.of {K : PySem.W.Frag} (h : H a = some (.tup xs)) : SqT K H a xs := .inl (.inl h)
theorem Inv.list (I : Inv X pins σ H s) (h : SqL X.K H a xs) : ∃ its : List Value, Vals xs its ∧ PlainL s.heap a its.toArray ∧ xs.length ≤ sizeLine := by
  rcases h with h | ⟨o, its, n, hk, hc, hd, hs, hz, r⟩
  · obtain ⟨z, its, n, r, e⟩ := h.ok I.hok
    exact ⟨its, r, ⟨_, n, e, rfl, rfl, rfl⟩, z⟩
  · refine ⟨its.toList, r, ⟨o, n, I.kIn a o hk, hc, hd, by simpa using hs⟩, ?_⟩
    have e := r.length
    simp only [Array.length_toList] at e
    omega
theorem Inv.tuple (I : Inv X pins σ H s) (h : SqT X.K H a xs) : ∃ its : List Value, Vals xs its ∧ IsTup s.heap a its.toArray ∧ xs.length ≤ sizeLine := by
  rcases h with h | ⟨o, its, n, hk, hc, hs, hz, r⟩
  · obtain ⟨z, its, r, p⟩ := h.ok I.hok
    exact ⟨its, r, p, z⟩
  · refine ⟨its.toList, r, ⟨o, I.kIn a o hk, hc, n, by simpa using hs⟩, ?_⟩
    have e := r.length
    simp only [Array.length_toList] at e
    omega
theorem Inv.list_inj (I : Inv X pins σ H s) (h : SqL X.K H a xs) (h' : SqL X.K H a ys) : xs = ys := by
  obtain ⟨its, r, ⟨o, n, e, _, _, d⟩, _⟩ := I.list h
  obtain ⟨its', r', ⟨o', n', e', _, _, d'⟩, _⟩ := I.list h'
  rw [e] at e'; cases e'
  rw [d] at d'
  injection d' with d1 _
  have : its = its' := by simpa using congrArg Array.toList d1
  subst this
  exact r.inj r'
theorem Inv.tuple_inj (I : Inv X pins σ H s) (h : SqT X.K H a xs) (h' : SqT X.K H a ys) : xs = ys := by
  obtain ⟨its, r, ⟨o, e, _, n, d⟩, _⟩ := I.tuple h
  obtain ⟨its', r', ⟨o', e', _, n', d'⟩, _⟩ := I.tuple h'
  rw [e] at e'; cases e'
  rw [d] at d'
  injection d' with d1 _
  have : its = its' := by simpa using congrArg Array.toList d1
  subst this
  exact r.inj r'
end

/-! ### another wish about exceptions -/
abbrev Cx.wish (X : Cx) (E : Value → Shared → Prop) : Cx := { X with xe := E }
/-- no exception leaves -/
abbrev Cx.nox (X : Cx) : Cx := X.wish fun _ _ => False
theorem Cx.Ok.wish {X : Cx} (ok : X.Ok) (E : Value → Shared → Prop) : (X.wish E).Ok :=
  ⟨ok.mod, ok.kind, ok.glob, ok.blt, ok.above, ok.inj, ok.has, ok.cab, ok.hd, ok.frames, ok.stk, ok.exf, ok.bs, ok.bsz, ok.noex, ok.exfs, ok.funs, ok.frf⟩
theorem Cx.Ok.unwish {X : Cx} {E : Value → Shared → Prop} (ok : (X.wish E).Ok) : X.Ok :=
  ⟨ok.mod, ok.kind, ok.glob, ok.blt, ok.above, ok.inj, ok.has, ok.cab, ok.hd, ok.frames, ok.stk, ok.exf, ok.bs, ok.bsz, ok.noex, ok.exfs, ok.funs, ok.frf⟩
section
variable {X : Cx} {pins : List (Addr × Obj)} {σ : St} {H : Hp} {s : Shared} {E : Value → Shared → Prop}
theorem Inv.wish (I : Inv X pins σ H s) (E : Value → Shared → Prop) : Inv (X.wish E) pins σ H s := ⟨I.ok.wish E, I.os, I.bare, I.base, I.loc, I.cell, I.free, I.freeC, I.pin, I.hok, I.len⟩
theorem Inv.unwish (I : Inv (X.wish E) pins σ H s) : Inv X pins σ H s := ⟨I.ok.unwish, I.os, I.bare, I.base, I.loc, I.cell, I.free, I.freeC, I.pin, I.hok, I.len⟩
theorem SP.unwish {D : Ends} {f : Flow} {s' : Shared} (h : SP (X.wish E) pins D f s') : SP X pins D f s' := by
  cases f with
  | next => obtain ⟨σ', H', I, q⟩ := h; exact ⟨σ', H', I.unwish, q⟩
  | brk => obtain ⟨σ', H', I, q⟩ := h; exact ⟨σ', H', I.unwish, q⟩
  | cont => obtain ⟨σ', H', I, q⟩ := h; exact ⟨σ', H', I.unwish, q⟩
  | ret u => obtain ⟨v, σ', H', I, r, q⟩ := h; exact ⟨v, σ', H', I.unwish, r, q⟩
theorem PSs.nox {st : List Stmt} {t : TS} (h : PSs X.nox st t) : PSs X st t := fun pins s σ H D I hw =>
  wpAny_mono (h pins s σ H D (I.wish _) hw) (fun _ _ q => q.unwish) fun _ _ z => False.elim z
end

/-! ### blocks and small statements -/
section
variable {X : Cx} {st : Stmt} {rest : List Stmt} {t u : TS} {e : Expr} {te : TE} {pos : Pos}
def tNext : TS := fun D σ H => D.nx σ H
def tSeq (t u : TS) : TS := fun D σ H => t { D with nx := u D } σ H
theorem pss_nil : PSs X [] tNext := fun _ _ σ H _ I h => wpAny_execs_nil ⟨σ, H, I, h⟩
theorem pss_cons (h1 : PS X st t) (h2 : PSs X rest u) : PSs X (st :: rest) (tSeq t u) := by
  intro pins s σ H D I h
  refine wpAny_execs_cons (thn (h1 pins s σ H { D with nx := u D } I h) fun f s1 q => ?_)
  cases f with
  | next =>
    obtain ⟨σ', H', I', q⟩ := q
    exact h2 pins s1 σ' H' D I' q
  | ret v => exact q
  | brk => exact q
  | cont => exact q
theorem pss_one (h1 : PS X st t) : PSs X [st] t := by
  intro pins s σ H D I h
  refine wpAny_execs_cons (thn (h1 pins s σ H D I h) fun f s1 q => ?_)
  cases f with
  | next => exact wpAny_execs_nil q
  | ret v => exact q
  | brk => exact q
  | cont => exact q
/-- in a def's body nothing is shown -/
theorem Inv.quiet {pins : List (Addr × Obj)} {σ : St} {H : Hp} {s : Shared} (I : Inv X pins σ H s) : interactive X.env = false := by simp [interactive, I.ok.kind]
/-- an expression whose value is dropped -/
def tDrop (te : TE) : TS := fun D σ H => te σ H fun _ H1 => D.nx σ H1
theorem ps_expr (he : PE X e te) (hs : swapsWith e none pos.line X.env = pure false := by rfl) : PS X (.Expr e pos) (tDrop te) := by
  intro pins s σ H D I h
  exact wpAny_Expr_any (thn (he pins s σ H _ I h) fun v s1 ⟨x, H1, I1, r1, q1⟩ => ⟨σ, H1, I1, q1⟩) I.quiet hs
def tRet (te : TE) : TS := fun D σ H => te σ H D.rt
theorem ps_ret (he : PE X e te) : PS X (.Return (some e) pos) (tRet te) := by
  intro pins s σ H D I h
  exact wpAny_Return_some (thn (he pins s σ H _ I h) fun v s1 ⟨x, H1, I1, r1, q1⟩ => ⟨x, σ, H1, I1, r1, q1⟩)
def tIfS (c : TT) (t u : TS) : TS := fun D σ H => c σ H fun b H1 => if b = true then t D σ H1 else u D σ H1
theorem ps_if {c : Expr} {a b : List Stmt} {tc : TT} (hc : PT X c tc) (ha : PSs X a t) (hb : PSs X b u) : PS X (.If c a b pos) (tIfS tc t u) := by
  intro pins s σ H D I h
  refine wpAny_If (thn (hc pins s σ H _ I h) fun d s1 ⟨H1, I1, q1⟩ => ?_)
  cases d with
  | true => exact ha pins s1 σ H1 D I1 q1
  | false => exact hb pins s1 σ H1 D I1 q1
/-- code that the proof never comes to -/
def tNever : TS := fun _ _ _ => False
theorem pss_never {sts : List Stmt} : PSs X sts tNever := fun _ _ _ _ _ _ h => h.elim
end

/-! ### targets -/
abbrev TG := V → St → Hp → (St → Hp → Prop) → Prop
def PG (X : Cx) (target : Expr) (t : TG) : Prop :=
  ∀ (pins : List (Addr × Obj)) (s : Shared) (σ : St) (H : Hp) (v : V) (u : Value) (Q : St → Hp → Prop), Inv X pins σ H s → RelV v u → t v σ H Q →
    wpAny (model X.prog X.w) X.A (assign target X.env u) (fun _ s' => ∃ σ' H', Inv X pins σ' H' s' ∧ Q σ' H') X.xe s
section
variable {X : Cx} {pos : Pos}
def gName (i : Nat) : TG := fun v σ H Q => Q (σ.set i (some v)) H
theorem pg_name {i : Nat} {x : Str} (hN : X.N.Nodup) (hi : X.N[i]? = some x) (hx : Loc X.env.scope x) (hf : X.fn x = true ∨ X.env.scope.names.lookup x = some .local := by first | exact .inl rfl | exact .inr rfl | assumption) : PG X (.Name x pos) (gName i) := by
  intro pins s σ H v u Q I r h
  exact wpAny_assign_Name (store_ok I hN hi hx r (fun s' I' => ⟨_, H, I', h⟩) hf)
/-- target = value -/
def tAsg (te : TE) (g : TG) : TS := fun D σ H => te σ H fun x H1 => g x σ H1 D.nx
/-- name = value -/
theorem ps_set {i : Nat} {x : Str} {e : Expr} {te : TE} {pos' : Pos} (hN : X.N.Nodup) (hi : X.N[i]? = some x) (hx : Loc X.env.scope x) (he : PE X e te) (hs : swapsWith e (some (.Name x pos')) pos.line X.env = pure false := by rfl) (hf : X.fn x = true ∨ X.env.scope.names.lookup x = some .local := by first | exact .inl rfl | exact .inr rfl | assumption) :
    PS X (.Assign [.Name x pos'] e pos) (tAsg te (gName i)) := by
  intro pins s σ H D I h
  refine wpAny_Assign_Name (thn (he pins s σ H _ I h) fun v s1 ⟨y, H1, I1, r1, q1⟩ => ?_) hs
  exact store_ok I1 hN hi hx r1 (fun s2 I2 => ⟨_, H1, I2, q1⟩) hf
end

/-! ### while -/
section
variable {X : Cx} {pos : Pos}
/-- the invariant W with its measure -/
def tWhile (c : TT) (tb : TS) : TS := fun D σ H => ∃ W : Nat → St → Hp → Prop, (∃ m, W m σ H) ∧ ∀ m σ H, W m σ H →
  c σ H fun b H1 => if b = true then ∃ N : St → Hp → Prop, (∀ σ' H', N σ' H' → ∃ m', m' < m ∧ W m' σ' H') ∧ tb { D with nx := N, ct := N, bk := D.nx } σ H1 else D.nx σ H1
theorem ps_while {c : Expr} {body : List Stmt} {tc : TT} {tb : TS} (hp : PassesOwn (model X.prog X.w) X.A X.env X.xe) (hc : PT X c tc) (hb : PSs X body tb) : PS X (.While c body [] pos) (tWhile tc tb) := by
  intro pins s σ H D I h
  obtain ⟨W, ⟨m0, w0⟩, turn⟩ := h
  refine wpAny_While (codeAny_whileLoop (fun n s' => ∃ σ' H', Inv X pins σ' H' s' ∧ W n σ' H') ?_ m0 ⟨σ, H, I, w0⟩)
  rintro n s1 ⟨σ1, H1, I1, w1⟩
  refine wpAny_passesOwn hp (thn (hc pins s1 σ1 H1 _ I1 (turn n σ1 H1 w1)) fun b s2 ⟨H2, I2, q2⟩ => ?_)
  cases b with
  | true =>
    obtain ⟨N, hN, q2⟩ := q2
    rw [if_pos rfl]
    refine wpAny_passesOwn hp (thn (hb pins s2 σ1 H2 _ I2 q2) fun f s3 q3 => ?_)
    cases f with
    | next =>
      obtain ⟨σ3, H3, I3, n3⟩ := q3
      obtain ⟨m', hm, w3⟩ := hN σ3 H3 n3
      exact ⟨m', hm, σ3, H3, I3, w3⟩
    | cont =>
      obtain ⟨σ3, H3, I3, n3⟩ := q3
      obtain ⟨m', hm, w3⟩ := hN σ3 H3 n3
      exact ⟨m', hm, σ3, H3, I3, w3⟩
    | brk => exact q3
    | ret v => exact q3
  | false =>
    rw [if_neg Bool.false_ne_true]
    exact wpAny_execs_nil ⟨σ1, H2, I2, q2⟩
end

/-! ### what a loop or a comprehension walks -/
/-- at turn i: it yields x (the heap may grow), or it stops -/
structure It where
  go : Nat → Hp → Prop
  yld : Nat → Hp → V → Hp → Prop
  stop : Nat → Hp → Prop
/-- the iterator's own objects may turn: they are not the frame's, not pinned, younger than the entry (or a comprehension's own) -/
def FpOk (X : Cx) (pins : List (Addr × Obj)) (H : Hp) (b : Addr) : Prop :=
  H b = none ∧ b ≠ X.env.locals ∧ b ∉ X.fs ∧ (b ∈ X.ex ∨ X.s₀.heap.objs.size ≤ b) ∧ (∀ x c, X.env.cells.lookup x = some c → c ≠ b) ∧ ∀ p ∈ X.pn ++ pins, p.1 ≠ b
theorem Inv.fpOk {X : Cx} {pins : List (Addr × Obj)} {σ : St} {H H' : Hp} {s : Shared} {b : Addr} (I : Inv X pins σ H s) (hb : s.heap.objs.size ≤ b) (hn : H' b = none) : FpOk X pins H' b := by
  refine ⟨hn, Nat.ne_of_gt (Nat.lt_of_lt_of_le I.lt hb), I.nofs hb, .inr (Nat.le_trans I.sz hb), fun x c e z => ?_, fun p hp z => ?_⟩
  · obtain ⟨v, q⟩ := I.cell x c e
    exact absurd (Nat.lt_of_lt_of_le q.lt (by rw [z]; exact hb)) (Nat.lt_irrefl _)
  · exact absurd (Nat.lt_of_lt_of_le (Heap.lt_size (I.pin p hp).1) (by rw [z]; exact hb)) (Nat.lt_irrefl _)
structure Turn (P : Program) (w : World) (K : PySem.W.Frag) (tg : Expr) (J : It) (fp : List Addr) (it : Addr) (tn : Nat → Heap → Prop) : Prop where
  mem : it ∈ fp
  obj : ∀ i h, tn i h → ∀ b ∈ fp, ∃ o, h.get? b = some o ∧ ∀ v, o.data ≠ .cell v
  keep : ∀ i h h', tn i h → (∀ b ∈ fp, ∀ o, h.get? b = some o → h'.get? b = some o) → tn i h'
  item : ∀ (X : Cx), X.prog = P → X.w = w → X.K = K → X.calm = true → ∀ (i : Nat) (pins : List (Addr × Obj)) (s : Shared) (σ : St) (H : Hp) (E : Value → Shared → Prop), Inv X pins σ H s → (∀ b ∈ fp, FpOk X pins H b) → tn i s.heap → J.go i H →
    wpAny (model P w) X.A (pyNext (.ref it)) (fun r s1 => ∃ u, r = some u ∧
      wpAny (model P w) X.A (letOwnedTupleGo tg (.ref it) u) (fun _ s2 => ∃ x H', Inv X pins σ H' s2 ∧ RelV x u ∧ J.yld i H x H' ∧ tn (i + 1) s2.heap ∧ ∀ b ∈ fp, H' b = none) E s1) E s
  done : ∀ (X : Cx), X.prog = P → X.w = w → X.K = K → X.calm = true → ∀ (i : Nat) (pins : List (Addr × Obj)) (s : Shared) (σ : St) (H : Hp) (E : Value → Shared → Prop), Inv X pins σ H s → (∀ b ∈ fp, FpOk X pins H b) → tn i s.heap → J.stop i H →
    wpAny (model P w) X.A (pyNext (.ref it)) (fun r s1 => r = none ∧ Inv X pins σ H s1) E s
  self : ∀ (A : Around) (i : Nat) (s : Shared) (Q : Value → Shared → Prop) (E : Value → Shared → Prop), tn i s.heap → Q (.ref it) s → wpAny (model P w) A (pyIter (.ref it)) Q E s
abbrev TI := St → Hp → (It → Hp → Prop) → Prop
/-- an iterator has come -/
def PIE (X : Cx) (pins : List (Addr × Obj)) (σ : St) (tg : Expr) (R : It → Hp → Prop) (itv : Value) (s2 : Shared) : Prop :=
  ∃ (it : Addr) (fp : List Addr) (tn : Nat → Heap → Prop) (J : It) (H' : Hp), itv = .ref it ∧ Inv X pins σ H' s2 ∧ Turn X.prog X.w X.K tg J fp it tn ∧ tn 0 s2.heap ∧ (∀ b ∈ fp, FpOk X pins H' b) ∧ R J H'
def PI (X : Cx) (tg iter : Expr) (wi : TI) : Prop :=
  ∀ (pins : List (Addr × Obj)) (s : Shared) (σ : St) (H : Hp) (R : It → Hp → Prop), Inv X pins σ H s → wi σ H R →
    wpAny (model X.prog X.w) X.A (eval iter X.env) (fun v s1 => wpAny (model X.prog X.w) X.A (pyIter v) (PIE X pins σ tg R) X.xe s1) X.xe s

/-- the step ahead of the store is nothing for an iterator that keeps no tuple -/
theorem go_of {M : Model} {A : Around} {E : Value → Shared → Prop} {s : Shared} {tg : Expr} {it : Addr} {u : Value} {o : Obj} {n : String} {vs : Array Value} {Q : Unit → Shared → Prop} (ho : s.heap.get? it = some o) (hc : o.cls = .type n) (hd : o.data = .fields vs)
    (hn : ["enumerate", "zip", "dict_itemiterator", "dict_reverseitemiterator", "odict_iterator", "itertools.zip_longest", "itertools.pairwise"].contains n = false) (hQ : Q () s) : wpAny M A (letOwnedTupleGo tg (.ref it) u) Q E s := by
  unfold letOwnedTupleGo
  cases tg <;> first
    | exact wpAny_pure hQ
    | (cases u <;> first
        | exact wpAny_pure hQ
        | (refine wpAny_bind (wpAny_load ho ?_)
           rw [hc, hd]
           show wpAny M A (if (["enumerate", "zip", "dict_itemiterator", "dict_reverseitemiterator", "odict_iterator", "itertools.zip_longest", "itertools.pairwise"].contains n && vs[0]? == some (rawInt _)) = true then _ else _) Q E s
           rw [if_neg (by intro h; rw [hn, Bool.false_and] at h; cases h)]
           exact wpAny_pure hQ))

/-- the list at a, as it stands at each turn (a loop may append to it) -/
def Itl (K : PySem.W.Frag) (a : Addr) : It :=
  ⟨fun i H => ∃ xs x, SqL K H a xs ∧ xs[i]? = some x, fun i H x H' => H' = H ∧ ∀ xs, SqL K H a xs → xs[i]? = some x, fun i H => ∃ xs, SqL K H a xs ∧ xs.length ≤ i⟩
/-- lo, lo + 1, .. (n of them) -/
def Itr (lo : Int) (n : Nat) : It := ⟨fun i _ => i < n, fun i H x H' => H' = H ∧ x = .int (lo + i), fun i _ => n ≤ i⟩
theorem turn_list {P : Program} {w : World} {K : PySem.W.Frag} {tg : Expr} (a it : Addr) : Turn P w K tg (Itl K a) [it] it (fun i h => h.IsListIter it a i) where
  mem := by simp
  obj := fun i h st b hb => by
    have e : b = it := by simpa using hb
    subst e
    obtain ⟨o, e, c, d⟩ := st
    exact ⟨o, e, fun v z => by rw [d] at z; cases z⟩
  keep := fun i h h' st k => st.at fun o e => k it (by simp) o e
  item := by
    intro X hP hw hK hc i pins s σ H E I hf st hg
    subst hP hw hK
    obtain ⟨xs, x, hq, hx⟩ := hg
    obtain ⟨its, rv, p, hz⟩ := I.list hq
    obtain ⟨u, hu, ru⟩ := rv.get hx
    obtain ⟨f0, f1, f2, f3, f4, f5⟩ := hf it (by simp)
    refine wpAny_pyNext_list_item st p.isList (x := u) (by simpa using hu) fun h' st' sb => ?_
    have I1 : Inv X pins σ H { s with heap := h' } := I.turned (t' := s.toks) (fun b o hb e => (sb.2 b hb).trans e) f0 f1 f3 f4 f5
    obtain ⟨o, e, c, d⟩ := id st'
    exact ⟨u, rfl, go_of (s := { s with heap := h' }) e c d (by decide) ⟨x, H, I1, ru, ⟨rfl, fun ys hy => by rw [I.list_inj hy hq]; exact hx⟩, st', fun b hb => (hf b hb).1⟩⟩
  done := by
    intro X hP hw hK hc i pins s σ H E I hf st hg
    subst hP hw hK
    obtain ⟨xs, hq, hx⟩ := hg
    obtain ⟨its, rv, p, hz⟩ := I.list hq
    obtain ⟨f0, f1, f2, f3, f4, f5⟩ := hf it (by simp)
    have hl := rv.length
    exact wpAny_pyNext_list_end (I.ok.hd hc) st p.isList (by simp; omega) fun h' eb => ⟨rfl, I.turned (t' := s.toks) (fun b o hb e => eb b o hb e) f0 f1 f3 f4 f5⟩
  self := fun _ _ _ _ _ st h => wpAny_pyIter_listiter st h
theorem turn_range {P : Program} {w : World} {K : PySem.W.Frag} {tg : Expr} (it : Addr) (lo : Int) (n : Nat) : Turn P w K tg (Itr lo n) [it] it (fun i h => IsRangeIter h it (lo + (i : Nat) * 1) ((n : Int) - (i : Nat)) 1) where
  mem := by simp
  obj := fun i h st b hb => by
    have e : b = it := by simpa using hb
    subst e
    exact ⟨_, st, fun v z => by
      have z' : Data.fields _ = Data.cell v := z
      cases z'⟩
  keep := fun i h h' st k => k it (by simp) _ st
  item := by
    intro X hP hw hK hc i pins s σ H E I hf st hg
    subst hP hw hK
    obtain ⟨f0, f1, f2, f3, f4, f5⟩ := hf it (by simp)
    have W := Walks.range (prog := X.prog) (w := X.w) (I.ok.hd hc) it lo 1 n
    refine W.item i s _ _ hg st fun v h' tk hv st' kk => ?_
    obtain ⟨t, rfl⟩ := hv
    have I1 : Inv X pins σ H { s with heap := h', toks := tk } := I.turned (fun b o hb e => kk b o (by simpa using hb) e) f0 f1 f3 f4 f5
    refine ⟨_, rfl, go_of (s := { s with heap := h', toks := tk }) (n := "range_iterator") st' rfl rfl (by decide) ⟨.int (lo + i), H, I1, ⟨t, ?_⟩, ⟨rfl, rfl⟩, st', fun b hb => (hf b hb).1⟩⟩
    rw [Int.mul_one]
  done := by
    intro X hP hw hK hc i pins s σ H E I hf st hg
    subst hP hw hK
    obtain ⟨f0, f1, f2, f3, f4, f5⟩ := hf it (by simp)
    exact wpAny_pyNext_range_end (I.ok.hd hc) st (by have : n ≤ i := hg; omega) fun h' eb => ⟨rfl, I.turned (t' := s.toks) (fun b o hb e => eb b o hb e) f0 f1 f3 f4 f5⟩
  self := fun _ _ _ _ _ st h => wpAny_pyIter_rangeiter st h
end L2

namespace L2
open PySem PySem.Spec PyProof.Rows
section
variable {X : Cx} {tg : Expr}
def iList (K : PySem.W.Frag) (tl : TE) : TI := fun σ H R => tl σ H fun x H1 => ∃ a, x = .ref a ∧ (∃ xs, SqL K H1 a xs) ∧ R (Itl K a) H1
theorem pi_list {l : Expr} {tl : TE} (hl : PE X l tl) : PI X tg l (iList X.K tl) := by
  intro pins s σ H R I h
  refine thn (hl pins s σ H _ I h) fun v s1 ⟨x, H1, I1, r1, q1⟩ => ?_
  obtain ⟨a, e, ⟨xs, hq⟩, q⟩ := q1
  subst e
  cases r1
  obtain ⟨its, rv, p, hz⟩ := I1.list hq
  refine wpAny_pyIter_list p.isList ?_
  refine ⟨s1.heap.objs.size, [s1.heap.objs.size], _, _, H1, rfl, I1.kept (t' := s1.toks) fun b o e => Heap.get?_push_of_some _ e, turn_list a _, ⟨_, Heap.get?_push_size _ rfl, rfl, rfl⟩, fun b hb => ?_, q⟩
  have e : b = s1.heap.objs.size := by simpa using hb
  subst e
  exact I1.fpOk (Nat.le_refl _) (I1.hok.fresh (Nat.le_refl _))
/-- a range object just made, walked -/
theorem range_it {pins : List (Addr × Obj)} {σ : St} {H : Hp} {s : Shared} {R : It → Hp → Prop} {E : Value → Shared → Prop} {lo hi : Int} {t u v : Tok} {tk : Nat} (I : Inv X pins σ H s) (h1 : -(2 ^ 62) ≤ lo) (h2 : lo < 2 ^ 62) (h3 : -(2 ^ 62) ≤ hi) (h4 : hi < 2 ^ 62)
    (q : R (Itr lo (hi - lo).toNat) H) : wpAny (model X.prog X.w) X.A (pyIter (.ref s.heap.objs.size)) (PIE X pins σ tg R) E { s with heap := s.heap.push { cls := .type "range", data := .fields #[.int lo t, .int hi u, .int 1 v] }, toks := tk } := by
  refine wpAny_pyIter_range (IsRange.new ..) (small_one h1 h2 h3 h4) ?_
  have I1 : Inv X pins σ H { s with heap := s.heap.push { cls := .type "range", data := .fields #[.int lo t, .int hi u, .int 1 v] }, toks := tk } := I.kept fun b o e => Heap.get?_push_of_some _ e
  refine ⟨(s.heap.push { cls := .type "range", data := .fields #[.int lo t, .int hi u, .int 1 v] }).objs.size, [(s.heap.push { cls := .type "range", data := .fields #[.int lo t, .int hi u, .int 1 v] }).objs.size], _, _, H, rfl,
    I1.kept (t' := tk) fun b o e => Heap.get?_push_of_some _ e, turn_range _ lo (hi - lo).toNat, ?_, fun b hb => ?_, q⟩
  · have e1 : lo + ((0 : Nat) : Int) * 1 = lo := by simp
    have e2 : (((hi - lo).toNat : Nat) : Int) - ((0 : Nat) : Int) = Builtin.Range.rangeSize lo hi 1 := by rw [rangeSize_one]; split <;> omega
    show IsRangeIter _ _ (lo + ((0 : Nat) : Int) * 1) ((((hi - lo).toNat : Nat) : Int) - ((0 : Nat) : Int)) 1
    rw [e1, e2]
    exact Heap.get?_push_size _ rfl
  · have e : b = (s.heap.push { cls := .type "range", data := .fields #[.int lo t, .int hi u, .int 1 v] }).objs.size := by simpa using hb
    subst e
    exact I1.fpOk (Nat.le_refl _) (I1.hok.fresh (Nat.le_refl _))
def iRng1 (ta : TA) : TI := fun σ H R => ta σ H fun vs H1 => ∃ j : Int, vs = [.int j] ∧ -(2 ^ 62) ≤ j ∧ j < 2 ^ 62 ∧ R (Itr 0 j.toNat) H1
theorem pi_range1 {a : Expr} {ta : TA} {p pos : Pos} (hg : Gl X "range") (hm : X.mg "range" = none) (ha : PA X [a] ta) (hs : starEach [a] X.env = [(false, eval a X.env)] := by rfl) : PI X tg (.Call (.Name "range" p) [a] [] pos) (iRng1 ta) := by
  intro pins s σ H R I h
  refine Call_ (ld_blt I hg hm boot_range (PyProof.Rows.callWith_type1 (thn (ha pos pins s σ H _ I h) fun us s1 ⟨vs, H1, I1, r1, q1⟩ => ?_) hs rfl))
  obtain ⟨j, e, q1, q2, q⟩ := q1
  subst e
  cases r1 with
  | cons r rr =>
    cases rr
    obtain ⟨t, rfl⟩ := r
    exact call_range_1 (range_it I1 (by omega) (by omega) q1 q2 (by simpa using q))

/-! ### for -/
/-- W: the invariant by the turn and a measure; N: what the body is to reach -/
def tFor (wi : TI) (g : TG) (tb : TS) : TS := fun D σ H => wi σ H fun J H1 => ∃ W : Nat → Nat → St → Hp → Prop, (∃ m, W 0 m σ H1) ∧ ∀ i m σ H, W i m σ H →
  (J.stop i H ∧ D.nx σ H) ∨ (J.go i H ∧ ∃ N : St → Hp → Prop, (∀ σ' H', N σ' H' → ∃ m', m' < m ∧ W (i + 1) m' σ' H') ∧ ∀ x H', J.yld i H x H' → g x σ H' fun σ2 H2 => tb { D with nx := N, ct := N, bk := D.nx } σ2 H2)
/-- the records at fp as they stand -/
def pinsAt (fp : List Addr) (h : Heap) : List (Addr × Obj) := fp.filterMap fun b => (h.get? b).map fun o => (b, o)
theorem mem_pinsAt {fp : List Addr} {h : Heap} {b : Addr} {o : Obj} (hb : b ∈ fp) (e : h.get? b = some o) : (b, o) ∈ pinsAt fp h := List.mem_filterMap.mpr ⟨b, hb, by rw [e]; rfl⟩
theorem of_pinsAt {fp : List Addr} {h : Heap} {p : Addr × Obj} (hp : p ∈ pinsAt fp h) : p.1 ∈ fp ∧ h.get? p.1 = some p.2 := by
  obtain ⟨b, hb, e⟩ := List.mem_filterMap.mp hp
  cases q : h.get? b with
  | none => rw [q] at e; cases e
  | some o =>
    rw [q] at e
    have e' : (b, o) = p := Option.some.inj e
    subst e'
    exact ⟨hb, q⟩
theorem Inv.pinned {pins : List (Addr × Obj)} {σ : St} {H : Hp} {s : Shared} {fp : List Addr} (I : Inv X pins σ H s) (hf : ∀ b ∈ fp, FpOk X pins H b) (ho : ∀ b ∈ fp, ∃ o, s.heap.get? b = some o ∧ ∀ v, o.data ≠ .cell v) : Inv X (pins ++ pinsAt fp s.heap) σ H s :=
  I.pins_of fun p hp => (List.mem_append.mp hp).elim (fun z => I.pin p (List.mem_append_right _ z)) fun z => by
    obtain ⟨hb, e⟩ := of_pinsAt z
    obtain ⟨f0, f1, f2, _⟩ := hf p.1 hb
    obtain ⟨o, e', d⟩ := ho p.1 hb
    rw [e] at e'; cases e'
    exact ⟨e, f0, f1, f2, d⟩
theorem Inv.unpinned {pins pl : List (Addr × Obj)} {σ : St} {H : Hp} {s : Shared} (I : Inv X (pins ++ pl) σ H s) : Inv X pins σ H s := I.pins_of fun p hp => I.pin p (List.mem_append_right _ (List.mem_append_left _ hp))
theorem ps_for {iter : Expr} {body : List Stmt} {wi : TI} {g : TG} {tb : TS} {pos : Pos} (hp : PassesOwn (model X.prog X.w) X.A X.env X.xe) (hc : X.calm = true) (hi : PI X tg iter wi) (hg : PG X tg g) (hb : PSs X body tb)
    (hs : ∀ x, foldedSetIterable iter X.env x = pure x := by intro _; rfl) : PS X (.For tg iter body [] pos) (tFor wi g tb) := by
  intro pins s σ H D I h
  refine wpAny_For (thn (hi pins s σ H _ I h) fun v s1 h1 => thn h1 fun itv s2 h2 => ?_) hs
  obtain ⟨it, fp, tn, J, H2, e, I2, T, st2, f2, W, ⟨m0, w0⟩, turn⟩ := h2
  subst e
  -- what stays true of the iterator's objects through the loop
  have stat : ∀ {H' : Hp}, (∀ b ∈ fp, H' b = none) → ∀ b ∈ fp, FpOk X pins H' b := fun hn b hb => ⟨hn b hb, (f2 b hb).2⟩
  refine codeAny_forLoop_any (fun n s' => ∃ i σ' H', Inv X pins σ' H' s' ∧ tn i s'.heap ∧ (∀ b ∈ fp, H' b = none) ∧ W i n σ' H') ?_ m0 ⟨0, σ, H2, I2, st2, fun b hb => (f2 b hb).1, w0⟩
  rintro n s3 ⟨i, σ3, H3, I3, st3, fr3, w3⟩
  rcases turn i n σ3 H3 w3 with ⟨stop, qn⟩ | ⟨go, N, hN, step⟩
  · refine wpAny_passesOwn hp (thn (T.done X rfl rfl rfl hc i pins s3 σ3 H3 X.xe I3 (stat fr3) st3 stop) fun r s4 ⟨hr, I4⟩ => ?_)
    subst hr
    exact wpAny_execs_nil ⟨σ3, H3, I4, qn⟩
  · refine wpAny_passesOwn hp (thn (T.item X rfl rfl rfl hc i pins s3 σ3 H3 X.xe I3 (stat fr3) st3 go) fun r s4 ⟨u, hr, h4⟩ => ?_)
    subst hr
    refine wpAny_passesOwn hp (thn h4 fun _ s5 ⟨x, H5, I5, r5, y5, st5, fr5⟩ => ?_)
    have I5' := I5.pinned (stat fr5) (T.obj _ _ st5)
    refine wpAny_passesOwn hp (thn (hg _ s5 σ3 H5 x u _ I5' r5 (step x H5 y5)) fun _ s6 ⟨σ6, H6, I6, q6⟩ => ?_)
    refine wpAny_passesOwn hp (thn (hb _ s6 σ6 H6 _ I6 q6) fun f s7 q7 => ?_)
    have again : ∀ {σ7 : St} {H7 : Hp}, Inv X (pins ++ pinsAt fp s5.heap) σ7 H7 s7 → N σ7 H7 → ∃ m, m < n ∧ ∃ i σ' H', Inv X pins σ' H' s7 ∧ tn i s7.heap ∧ (∀ b ∈ fp, H' b = none) ∧ W i m σ' H' := fun {σ7 H7} I7 n7 => by
      obtain ⟨m', hm, w7⟩ := hN σ7 H7 n7
      refine ⟨m', hm, i + 1, σ7, H7, I7.unpinned, T.keep _ _ _ st5 fun b hb o e => (I7.pin (b, o) (List.mem_append_right _ (List.mem_append_right _ (mem_pinsAt hb e)))).1, fun b hb => ?_, w7⟩
      obtain ⟨o, e, d⟩ := T.obj _ _ st5 b hb
      exact (I7.pin (b, o) (List.mem_append_right _ (List.mem_append_right _ (mem_pinsAt hb e)))).2.1
    cases f with
    | next => obtain ⟨σ7, H7, I7, n7⟩ := q7; exact again I7 n7
    | cont => obtain ⟨σ7, H7, I7, n7⟩ := q7; exact again I7 n7
    | brk => obtain ⟨σ7, H7, I7, q7⟩ := q7; exact ⟨σ7, H7, I7.unpinned, q7⟩
    | ret v => obtain ⟨x7, σ7, H7, I7, r7, q7⟩ := q7; exact ⟨x7, σ7, H7, I7.unpinned, r7, q7⟩
end

/-! ### the forms one uses -/
/-- over a list that the body leaves as it is -/
theorem for_list {K : PySem.W.Frag} {a : Addr} {xs : List V} {g : TG} {tb : TS} {D : Ends} {σ : St} {H : Hp} (Pv : Nat → St → Hp → Prop) (h0 : Pv 0 σ H) (hl : ∀ i σ H, i ≤ xs.length → Pv i σ H → SqL K H a xs)
    (hs : ∀ i x σ H, xs[i]? = some x → Pv i σ H → g x σ H fun σ2 H2 => tb { D with nx := Pv (i + 1), ct := Pv (i + 1), bk := D.nx } σ2 H2) (hd : ∀ σ H, Pv xs.length σ H → D.nx σ H) :
    ∃ W : Nat → Nat → St → Hp → Prop, (∃ m, W 0 m σ H) ∧ ∀ i m σ H, W i m σ H →
      ((Itl K a).stop i H ∧ D.nx σ H) ∨ ((Itl K a).go i H ∧ ∃ N : St → Hp → Prop, (∀ σ' H', N σ' H' → ∃ m', m' < m ∧ W (i + 1) m' σ' H') ∧ ∀ x H', (Itl K a).yld i H x H' → g x σ H' fun σ2 H2 => tb { D with nx := N, ct := N, bk := D.nx } σ2 H2) := by
  refine ⟨fun i m σ H => m = xs.length - i ∧ i ≤ xs.length ∧ Pv i σ H, ⟨xs.length, by simp, Nat.zero_le _, h0⟩, ?_⟩
  rintro i m σ H ⟨rfl, hi, p⟩
  have q := hl i σ H hi p
  by_cases hlt : i < xs.length
  · refine .inr ⟨⟨xs, xs[i], q, by simp [hlt]⟩, Pv (i + 1), fun σ' H' p' => ⟨xs.length - (i + 1), by omega, rfl, hlt, p'⟩, fun x H' y => ?_⟩
    obtain ⟨e, y⟩ := y
    subst e
    exact hs i x σ _ (y xs q) p
  · have e : i = xs.length := by omega
    subst e
    exact .inl ⟨⟨xs, q, Nat.le_refl _⟩, hd σ H p⟩
theorem for_range {lo : Int} {n : Nat} {g : TG} {tb : TS} {D : Ends} {σ : St} {H : Hp} (Pv : Nat → St → Hp → Prop) (h0 : Pv 0 σ H)
    (hs : ∀ i σ H, i < n → Pv i σ H → g (.int (lo + i)) σ H fun σ2 H2 => tb { D with nx := Pv (i + 1), ct := Pv (i + 1), bk := D.nx } σ2 H2) (hd : ∀ σ H, Pv n σ H → D.nx σ H) :
    ∃ W : Nat → Nat → St → Hp → Prop, (∃ m, W 0 m σ H) ∧ ∀ i m σ H, W i m σ H →
      ((Itr lo n).stop i H ∧ D.nx σ H) ∨ ((Itr lo n).go i H ∧ ∃ N : St → Hp → Prop, (∀ σ' H', N σ' H' → ∃ m', m' < m ∧ W (i + 1) m' σ' H') ∧ ∀ x H', (Itr lo n).yld i H x H' → g x σ H' fun σ2 H2 => tb { D with nx := N, ct := N, bk := D.nx } σ2 H2) := by
  refine ⟨fun i m σ H => m = n - i ∧ i ≤ n ∧ Pv i σ H, ⟨n, by simp, Nat.zero_le _, h0⟩, ?_⟩
  rintro i m σ H ⟨rfl, hi, p⟩
  by_cases hlt : i < n
  · refine .inr ⟨hlt, Pv (i + 1), fun σ' H' p' => ⟨n - (i + 1), by omega, rfl, hlt, p'⟩, fun x H' y => ?_⟩
    obtain ⟨e, y⟩ := y
    subst e y
    exact hs i σ _ hlt p
  · have e : i = n := by omega
    subst e
    exact .inl ⟨Nat.le_refl _, hd σ H p⟩
end L2

namespace L2
open PySem PySem.Spec PyProof.Rows

abbrev R2 := V → V → Hp → VK → Prop
/-- a two-place operation on values: f is binaryOp op, inplaceOp op or compareOp op -/
def OpR (X : Cx) (f : Value → Value → Sem Value) (r : R2) : Prop :=
  ∀ (pins : List (Addr × Obj)) (s : Shared) (σ : St) (H : Hp) (x y : V) (v u : Value) (Q : VK), Inv X pins σ H s → RelV x v → RelV y u → r x y H Q →
    wpAny (model X.prog X.w) X.A (f v u) (EP X pins σ Q) X.xe s
/-- a one-place operation -/
def UnR (X : Cx) (f : Value → Sem Value) (r : V → Hp → VK → Prop) : Prop :=
  ∀ (pins : List (Addr × Obj)) (s : Shared) (σ : St) (H : Hp) (x : V) (v : Value) (Q : VK), Inv X pins σ H s → RelV x v → r x H Q →
    wpAny (model X.prog X.w) X.A (f v) (EP X pins σ Q) X.xe s
/-- a call of a value that is known (a builtin, a type) with values -/
def CallR (X : Cx) (f : Value) (r : List V → Hp → VK → Prop) : Prop :=
  ∀ (pins : List (Addr × Obj)) (s : Shared) (σ : St) (H : Hp) (xs : List V) (us : List Value) (Q : VK), Inv X pins σ H s → Vals xs us → r xs H Q →
    wpAny (model X.prog X.w) X.A (call f us) (EP X pins σ Q) X.xe s

def tOp (r : R2) (ta tb : TE) : TE := fun σ H Q => ta σ H fun x H1 => tb σ H1 fun y H2 => r x y H2 Q
def tUn (r : V → Hp → VK → Prop) (ta : TE) : TE := fun σ H Q => ta σ H fun x H1 => r x H1 Q
/-- ints in, under C, and a value out -/
def rI (C : Int → Int → Prop) (g : Int → Int → V) : R2 := fun x y H Q => ∃ i j, x = .int i ∧ y = .int j ∧ C i j ∧ Q (g i j) H
def rI0 (g : Int → Int → V) : R2 := fun x y H Q => ∃ i j, x = .int i ∧ y = .int j ∧ Q (g i j) H
def rU (g : Int → V) : V → Hp → VK → Prop := fun x H Q => ∃ i, x = .int i ∧ Q (g i) H

section
variable {X : Cx} {a b c : Expr} {ta tb tc : TE} {pos : Pos}

theorem binT (ha : PE X a ta) (hb : PE X b tb) {pins : List (Addr × Obj)} {s : Shared} {σ : St} {H : Hp} {R : V → V → Hp → Prop} (I : Inv X pins σ H s)
    (h : ta σ H fun x H1 => tb σ H1 fun y H2 => R x y H2) {Q : Value → Shared → Prop} {f : Value → Value → Sem Value}
    (hf : ∀ v u s2 x y H2, Inv X pins σ H2 s2 → RelV x v → RelV y u → R x y H2 → wpAny (model X.prog X.w) X.A (f v u) Q X.xe s2) :
    wpAny (model X.prog X.w) X.A (eval a X.env) (fun v s₁ => wpAny (model X.prog X.w) X.A (eval b X.env) (fun u s₂ => wpAny (model X.prog X.w) X.A (f v u) Q X.xe s₂) X.xe s₁) X.xe s := by
  refine thn (ha pins s σ H _ I h) fun v s1 ⟨x, H1, I1, r1, q1⟩ => ?_
  refine thn (hb pins s1 σ H1 _ I1 q1) fun u s2 ⟨y, H2, I2, r2, q2⟩ => ?_
  exact hf v u s2 x y H2 I2 r1 r2 q2

theorem pe_op {op : Operator} {r : R2} (ho : OpR X (binaryOp op) r) (ha : PE X a ta) (hb : PE X b tb) : PE X (.BinOp a op b pos) (tOp r ta tb) := by
  intro pins s σ H Q I h
  exact wpAny_BinOp (binT ha hb I h fun v u s2 x y H2 I2 rx ry q => ho pins s2 σ H2 x y v u Q I2 rx ry q)
theorem pe_un {op : UnaryOp} {r : V → Hp → VK → Prop} (ho : UnR X (unaryOp op) r) (ha : PE X a ta) : PE X (.UnaryOp op a pos) (tUn r ta) := by
  intro pins s σ H Q I h
  exact UnaryOp_ (thn (ha pins s σ H _ I h) fun v s1 ⟨x, H1, I1, r1, q1⟩ => ho pins s1 σ H1 x v Q I1 r1 q1)

/-! ### ints -/
theorem opI {f : Value → Value → Sem Value} {C : Int → Int → Prop} {g : Int → Int → Int}
    (rule : ∀ (i j : Int) (t u : Tok) (s : Shared) (Q : Value → Shared → Prop) (E : Value → Shared → Prop), C i j → Q (.int (g i j) s.toks) { s with toks := s.toks + 1 } → wpAny (model X.prog X.w) X.A (f (.int i t) (.int j u)) Q E s) :
    OpR X f (rI C fun i j => .int (g i j)) := by
  intro pins s σ H x y v u Q I rx ry h
  obtain ⟨i, j, rfl, rfl, hc, q⟩ := h
  obtain ⟨t, rfl⟩ := rx
  obtain ⟨t', rfl⟩ := ry
  exact rule i j t t' s _ _ hc ⟨.int (g i j), H, I.tok _, ⟨_, rfl⟩, q⟩
theorem opI0 {f : Value → Value → Sem Value} {g : Int → Int → Int}
    (rule : ∀ (i j : Int) (t u : Tok) (s : Shared) (Q : Value → Shared → Prop) (E : Value → Shared → Prop), Q (.int (g i j) s.toks) { s with toks := s.toks + 1 } → wpAny (model X.prog X.w) X.A (f (.int i t) (.int j u)) Q E s) :
    OpR X f (rI0 fun i j => .int (g i j)) := by
  intro pins s σ H x y v u Q I rx ry h
  obtain ⟨i, j, rfl, rfl, q⟩ := h
  obtain ⟨t, rfl⟩ := rx
  obtain ⟨t', rfl⟩ := ry
  exact rule i j t t' s _ _ ⟨.int (g i j), H, I.tok _, ⟨_, rfl⟩, q⟩
theorem opB0 {f : Value → Value → Sem Value} {g : Int → Int → Bool}
    (rule : ∀ (i j : Int) (t u : Tok) (s : Shared) (Q : Value → Shared → Prop) (E : Value → Shared → Prop), Q (.bool (g i j)) s → wpAny (model X.prog X.w) X.A (f (.int i t) (.int j u)) Q E s) :
    OpR X f (rI0 fun i j => .bl (g i j)) := by
  intro pins s σ H x y v u Q I rx ry h
  obtain ⟨i, j, rfl, rfl, q⟩ := h
  obtain ⟨t, rfl⟩ := rx
  obtain ⟨t', rfl⟩ := ry
  exact rule i j t t' s _ _ ⟨.bl (g i j), H, I, rfl, q⟩

def CDiv (i j : Int) : Prop := 0 < j ∧ j < 1073741824
def CPow (i j : Int) : Prop := 0 ≤ j ∧ j ≤ 1000000 ∧ i.natAbs < 2 ^ 64
def CMul (i j : Int) : Prop := (-(2 ^ 64) < i ∧ i < 2 ^ 64) ∨ (-(2 ^ 64) < j ∧ j < 2 ^ 64)
theorem CMul.ok {i j : Int} (h : CMul i j) : IntMulOk i j := by
  rcases h with ⟨h1, h2⟩ | ⟨h1, h2⟩
  · exact .of_left (intBits_le_64 h1 h2)
  · exact .of_right (intBits_le_64 h1 h2)

theorem op_add : OpR X (binaryOp .Add) (rI0 fun i j => .int (i + j)) := opI0 fun _ _ _ _ _ _ _ q => add_int q
theorem op_sub : OpR X (binaryOp .Sub) (rI0 fun i j => .int (i - j)) := opI0 fun _ _ _ _ _ _ _ q => sub_int q
theorem op_mul : OpR X (binaryOp .Mult) (rI CMul fun i j => .int (i * j)) := opI fun _ _ _ _ _ _ _ hc q => mul_int q hc.ok
/-- // by a positive divisor -/
theorem op_fdiv : OpR X (binaryOp .FloorDiv) (rI CDiv fun i j => .int (i / j)) := opI fun i j _ _ _ _ _ hc q => by
  have h1 : (0 : Int) < j := hc.1
  have h2 : j < 1073741824 := hc.2
  exact floordiv_int (by omega) (by rw [Int.fdiv_eq_ediv_of_nonneg i (by omega)]; exact q) (.inl (PyProof.noPylong_small (by omega)))
/-- % by a positive divisor of any size -/
theorem op_mod : OpR X (binaryOp .Mod) (rI (fun _ j => 0 < j) fun i j => .int (i % j)) := opI fun i j _ _ _ _ _ hc q => by
  have h1 : (0 : Int) < j := hc
  exact mod_int' (by omega) (by rw [Int.fmod_eq_emod_of_nonneg i (by omega)]; exact q)
theorem op_pow : OpR X (binaryOp .Pow) (rI CPow fun i j => .int (i ^ j.toNat)) := opI fun _ _ _ _ _ _ _ hc q => pow_int_small hc.1 hc.2.1 hc.2.2 q


theorem unI {f : Value → Sem Value} {g : Int → Int}
    (rule : ∀ (i : Int) (t : Tok) (s : Shared) (Q : Value → Shared → Prop) (E : Value → Shared → Prop), Q (.int (g i) s.toks) { s with toks := s.toks + 1 } → wpAny (model X.prog X.w) X.A (f (.int i t)) Q E s) :
    UnR X f (rU fun i => .int (g i)) := by
  intro pins s σ H x v Q I rx h
  obtain ⟨i, rfl, q⟩ := h
  obtain ⟨t, rfl⟩ := rx
  exact rule i t s _ _ ⟨.int (g i), H, I.tok _, ⟨_, rfl⟩, q⟩
theorem un_neg : UnR X (unaryOp .USub) (rU fun i => .int (-i)) := unI fun _ _ _ _ _ q => neg_int q

/-! ### bools among ints: n += (a < b) -/
end

/-! ### comparisons -/
/-- the scalars that == tells apart as data does -/
def scal : V → V → Bool
  | .non, .non => true | .non, .int _ => true | .int _, .non => true | .non, .bl _ => true | .bl _, .non => true | .non, .str _ => true | .str _, .non => true
  | .int _, .int _ => true | .bl _, .bl _ => true | .str _, .str _ => true | .byt _, .byt _ => true
  | .int _, .str _ => true | .str _, .int _ => true | .bl _, .str _ => true | .str _, .bl _ => true
  | _, _ => false
def rEq : R2 := fun x y H Q => scal x y = true ∧ Q (.bl (decide (x = y))) H
def rNe : R2 := fun x y H Q => scal x y = true ∧ Q (.bl (!decide (x = y))) H

theorem dec_int {i j : Int} : decide (V.int i = V.int j) = (i == j) := by
  rw [Bool.eq_iff_iff]
  simp
theorem dec_bl {i j : Bool} : decide (V.bl i = V.bl j) = (i == j) := by
  rw [Bool.eq_iff_iff]
  simp
theorem dec_str {i j : Str} : decide (V.str i = V.str j) = (i == j) := by
  rw [Bool.eq_iff_iff]
  simp
theorem dec_byt {i j : Array UInt8} : decide (V.byt i = V.byt j) = (i.toList == j.toList) := by
  rw [Bool.eq_iff_iff]
  cases i
  cases j
  simp

section
variable {X : Cx} {a b c : Expr} {ta tb tc : TE} {pos : Pos}
theorem fin_bl {pins : List (Addr × Obj)} {σ : St} {H : Hp} {s : Shared} {Q : VK} {k k' : Bool} (I : Inv X pins σ H s) (q : Q (.bl k) H) (e : k = k') : EP X pins σ Q (.bool k') s := by
  subst e
  exact ⟨.bl k, H, I, rfl, q⟩
theorem op_eq : OpR X (compareOp .Eq) rEq := by
  intro pins s σ H x y v u Q I rx ry h
  obtain ⟨hs, q⟩ := h
  cases x with
  | non =>
    cases rx
    cases y with
    | non => cases ry; exact PySem.EqNone.eq_none_none (fin_bl I q (by simp))
    | bl j => cases ry; exact PySem.EqNone.eq_none_bool (fin_bl I q (by simp))
    | int j => obtain ⟨t', rfl⟩ := ry; exact PySem.EqNone.eq_none_int (fin_bl I q (by simp))
    | str j => obtain ⟨t', rfl⟩ := ry; exact PySem.EqNone.eq_none_str (fin_bl I q (by simp))
    | _ => exact absurd (show false = true from hs) Bool.false_ne_true
  | bl i =>
    cases rx
    cases y with
    | non => cases ry; exact PySem.EqNone.eq_bool_none (fin_bl I q (by simp))
    | bl j => cases ry; exact eq_bool (fin_bl I q dec_bl)
    | str j => obtain ⟨t', rfl⟩ := ry; exact PySem.EqMixed.eq_bool_str (fin_bl I q (by simp))
    | _ => exact absurd (show false = true from hs) Bool.false_ne_true
  | int i =>
    obtain ⟨t, rfl⟩ := rx
    cases y with
    | non => cases ry; exact PySem.EqNone.eq_int_none (fin_bl I q (by simp))
    | int j => obtain ⟨t', rfl⟩ := ry; exact eq_int (fin_bl I q dec_int)
    | str j => obtain ⟨t', rfl⟩ := ry; exact PySem.EqMixed.eq_int_str (fin_bl I q (by simp))
    | _ => exact absurd (show false = true from hs) Bool.false_ne_true
  | str i =>
    obtain ⟨t, rfl⟩ := rx
    cases y with
    | non => cases ry; exact PySem.EqNone.eq_str_none (fin_bl I q (by simp))
    | bl j => cases ry; exact PySem.EqMixed.eq_str_bool (fin_bl I q (by simp))
    | int j => obtain ⟨t', rfl⟩ := ry; exact PySem.EqMixed.eq_str_int (fin_bl I q (by simp))
    | str j => obtain ⟨t', rfl⟩ := ry; exact eq_str (fin_bl I q dec_str)
    | _ => exact absurd (show false = true from hs) Bool.false_ne_true
  | byt i =>
    obtain ⟨t, rfl⟩ := rx
    cases y with
    | byt j => obtain ⟨t', rfl⟩ := ry; exact PySem.W.eq_bytes (fin_bl I q dec_byt)
    | _ => exact absurd (show false = true from hs) Bool.false_ne_true
  | _ => cases y <;> exact absurd (show false = true from hs) Bool.false_ne_true
theorem op_ne : OpR X (compareOp .NotEq) rNe := by
  intro pins s σ H x y v u Q I rx ry h
  obtain ⟨hs, q⟩ := h
  cases x with
  | non =>
    cases rx
    cases y with
    | non => cases ry; exact PySem.EqNone.ne_none_none (fin_bl I q (by simp))
    | bl j => cases ry; exact PySem.EqNone.ne_none_bool (fin_bl I q (by simp))
    | int j => obtain ⟨t', rfl⟩ := ry; exact PySem.EqNone.ne_none_int (fin_bl I q (by simp))
    | str j => obtain ⟨t', rfl⟩ := ry; exact PySem.EqNone.ne_none_str (fin_bl I q (by simp))
    | _ => exact absurd (show false = true from hs) Bool.false_ne_true
  | bl i =>
    cases rx
    cases y with
    | non => cases ry; exact PySem.EqNone.ne_bool_none (fin_bl I q (by simp))
    | bl j => cases ry; exact ne_bool (fin_bl I q (congrArg not dec_bl))
    | str j => obtain ⟨t', rfl⟩ := ry; exact PySem.EqMixed.ne_bool_str (fin_bl I q (by simp))
    | _ => exact absurd (show false = true from hs) Bool.false_ne_true
  | int i =>
    obtain ⟨t, rfl⟩ := rx
    cases y with
    | non => cases ry; exact PySem.EqNone.ne_int_none (fin_bl I q (by simp))
    | int j => obtain ⟨t', rfl⟩ := ry; exact ne_int (fin_bl I q (congrArg not dec_int))
    | str j => obtain ⟨t', rfl⟩ := ry; exact PySem.EqMixed.ne_int_str (fin_bl I q (by simp))
    | _ => exact absurd (show false = true from hs) Bool.false_ne_true
  | str i =>
    obtain ⟨t, rfl⟩ := rx
    cases y with
    | non => cases ry; exact PySem.EqNone.ne_str_none (fin_bl I q (by simp))
    | bl j => cases ry; exact PySem.EqMixed.ne_str_bool (fin_bl I q (by simp))
    | int j => obtain ⟨t', rfl⟩ := ry; exact PySem.EqMixed.ne_str_int (fin_bl I q (by simp))
    | str j => obtain ⟨t', rfl⟩ := ry; exact ne_str (fin_bl I q (congrArg not dec_str))
    | _ => exact absurd (show false = true from hs) Bool.false_ne_true
  | byt i =>
    obtain ⟨t, rfl⟩ := rx
    cases y with
    | byt j => obtain ⟨t', rfl⟩ := ry; exact PySem.W.ne_bytes (fin_bl I q (congrArg not dec_byt))
    | _ => exact absurd (show false = true from hs) Bool.false_ne_true
  | _ => cases y <;> exact absurd (show false = true from hs) Bool.false_ne_true

theorem op_lt : OpR X (compareOp .Lt) (rI0 fun i j => .bl (decide (i < j))) := opB0 fun _ _ _ _ _ _ _ q => lt_int q
theorem op_gt : OpR X (compareOp .Gt) (rI0 fun i j => .bl (decide (j < i))) := opB0 fun _ _ _ _ _ _ _ q => gt_int q

/-- is None, is not None: the right side a value none -/
theorem op_isN : OpR X (compareOp .Is) (fun x y H Q => y = .non ∧ Q (.bl (decide (x = .non))) H) := by
  intro pins s σ H x y v u Q I rx ry h
  obtain ⟨rfl, q⟩ := h
  cases ry
  refine is_none_gen (fin_bl I q ?_)
  cases x <;> first
    | (cases rx; rfl)
    | (obtain ⟨t, rfl⟩ := rx; rfl)
theorem op_notN : OpR X (compareOp .IsNot) (fun x y H Q => y = .non ∧ Q (.bl (!decide (x = .non))) H) := by
  intro pins s σ H x y v u Q I rx ry h
  obtain ⟨rfl, q⟩ := h
  cases ry
  refine isnot_none_gen (fin_bl I q ?_)
  cases x <;> first
    | (cases rx; rfl)
    | (obtain ⟨t, rfl⟩ := rx; rfl)



theorem nomark (b : Expr) {op : CmpOp} (h : op ≠ .In := by decide) (h2 : op ≠ .NotIn := by decide) : behindInMarks op b = false := by
  have e1 : (op == CmpOp.In) = false := by cases op <;> first | rfl | exact absurd rfl h
  have e2 : (op == CmpOp.NotIn) = false := by cases op <;> first | rfl | exact absurd rfl h2
  cases b <;> simp [behindInMarks, e1, e2]
/-- a comparison as a value; hm: nomark b, or (for in, not in) by with_unfolding_all rfl -/
theorem pe_cmpR {op : CmpOp} {r : R2} (ho : OpR X (compareOp op) r) (ha : PE X a ta) (hb : PE X b tb) (hm : behindInMarks op b = false) : PE X (.Compare a [op] [b] pos) (tOp r ta tb) := by
  intro pins s σ H Q I h
  exact wpAny_Compare1 (binT ha hb I h fun v u s2 x y H2 I2 rx ry q => ho pins s2 σ H2 x y v u Q I2 rx ry q) hm
/-- a reading of a value as a test -/
def tTest (t : TE) : TT := fun σ H Q => t σ H fun x H' => ∃ k, x = .bl k ∧ Q k H'
theorem pt_cmpR {op : CmpOp} {r : R2} (ho : OpR X (compareOp op) r) (ha : PE X a ta) (hb : PE X b tb) (hm : behindInMarks op b = false) : PT X (.Compare a [op] [b] pos) (tTest (tOp r ta tb)) := by
  intro pins s σ H Q I h
  refine wpAny_isTrue_Compare1 (thn (ha pins s σ H _ I h) fun v s1 ⟨x, H1, I1, r1, q1⟩ => thn (hb pins s1 σ H1 _ I1 q1) fun u s2 ⟨y, H2, I2, r2, q2⟩ =>
    thn (ho pins s2 σ H2 x y v u _ I2 r1 r2 q2) fun c s3 ⟨z, H3, I3, r3, k, e, q3⟩ => ?_) hm
  subst e
  cases r3
  exact wpAny_truthy_bool ⟨H3, I3, q3⟩

/-! ### truth -/
theorem line63 : (sizeLine : Nat) < 2 ^ 63 := by rw [sizeLine_eq]; decide

/-! ### strs and bytes -/


/-! ### scalar builtins, by CallR -/
theorem vals1 {x : V} {us : List Value} (r : Vals [x] us) : ∃ u, us = [u] ∧ RelV x u := by
  cases r with
  | cons r1 r2 => cases r2; exact ⟨_, rfl, r1⟩
theorem vals2 {x y : V} {us : List Value} (r : Vals [x, y] us) : ∃ u w', us = [u, w'] ∧ RelV x u ∧ RelV y w' := by
  cases r with
  | cons r1 r2 =>
    cases r2 with
    | cons r3 r4 => cases r4; exact ⟨_, _, rfl, r1, r3⟩
theorem call_max2 (hc : X.calm = true) : CallR X (.builtin "max") (fun xs H Q => ∃ i j, xs = [.int i, .int j] ∧ Q (.int (if j > i then j else i)) H) := by
  intro pins s σ H xs us Q I r h
  obtain ⟨i, j, rfl, q⟩ := h
  obtain ⟨u, w', rfl, ⟨t, rfl⟩, ⟨t', rfl⟩⟩ := vals2 r
  refine max_two_ints (I.ok.hd hc) fun h' tk k => ⟨_, H, I.kept k, ?_, q⟩
  by_cases hj : j > i
  · rw [if_pos hj, if_pos hj]; exact ⟨_, rfl⟩
  · rw [if_neg hj, if_neg hj]; exact ⟨_, rfl⟩
theorem call_int1 : CallR X (.type "int") (fun xs H Q => (∃ i, xs = [.int i] ∧ Q (.int i) H) ∨ ∃ k, xs = [.bl k] ∧ Q (.int (if k then 1 else 0)) H) := by
  intro pins s σ H xs us Q I r h
  rcases h with ⟨i, rfl, q⟩ | ⟨k, rfl, q⟩
  · obtain ⟨u, rfl, t, rfl⟩ := vals1 r
    exact call_int_int ⟨.int i, H, I, ⟨_, rfl⟩, q⟩
  · obtain ⟨u, rfl, r1⟩ := vals1 r
    cases r1
    exact call_int_bool ⟨.int (if k then 1 else 0), H, I.tok _, ⟨_, rfl⟩, q⟩
end
end L2

namespace L2
open PySem PySem.Spec PyProof.Rows

/-! ### an instance, its attributes a map -/
structure ObjM (h : Heap) (x dx C : Addr) (mA : Str → Option Value) : Prop where
  obj : h.get? x = some (PySem.W.instObj C dx)
  ns : h.Ns1 dx mA
  ne : dx ≠ x

theorem lookIn_ns {h : Heap} {dx : Addr} {mA : Str → Option Value} (n : h.Ns1 dx mA) : ∃ od, h.get? dx = some od ∧ ∀ name, PySem.W.lookIn name od = some (mA name) := by
  obtain ⟨o, es, ep, ho, hd, hk, _, hm⟩ := n
  refine ⟨o, ho, fun name => ?_⟩
  have e := hm name
  unfold nsFind findBy at e
  rw [← Array.find?_toList] at e
  unfold PySem.W.lookIn
  rw [hd]
  dsimp only
  split
  · rename_i y q
    rw [q] at e
    exact congrArg some e
  · rename_i q
    rw [q] at e
    have a : es.toList.any (·.refKey) = false := by
      rw [List.any_eq_false]
      intro y hy
      obtain ⟨z, t, hkey⟩ := hk y (Array.mem_toList_iff.mp hy)
      simp [DictEntry.refKey, hkey]
    have a' : ¬ es.toList.any (·.refKey) = true := by rw [a]; exact Bool.false_ne_true
    rw [if_neg a']
    exact congrArg some e

theorem ObjM.look {h : Heap} {x dx C : Addr} {mA : Str → Option Value} (I : ObjM h x dx C mA) : ∃ od, PySem.W.InstAt h x (PySem.W.instObj C dx) C (some od) ∧ ∀ name, PySem.W.lookIn name od = some (mA name) :=
  let ⟨od, ho, hl⟩ := lookIn_ns I.ns
  ⟨od, ⟨I.obj, rfl, rfl, ho⟩, hl⟩

section
variable {prog : Program} {w : World} {A : Around} {E : Value → Shared → Prop} {s : Shared} {K : PySem.W.Frag} {x dx C f : Addr} {mA : Str → Option Value} {name : Str} {v : Value}

theorem get_map {expr : Bool} {Q : Value → Shared → Prop} (X : K.In s.heap) (I : ObjM s.heap x dx C mA) (hg : PySem.W.plainGet K C name = true) (hh : PySem.W.hasDictIn K C = true)
    (ha : PySem.W.findIn K (.ref C) name = some none) (hv : mA name = some v) (hv' : PySem.W.handedIn v = true) (h : Q v { s with toks := s.toks + 1 }) :
    wpAny (model prog w) A (getAttr (.ref x) name expr) Q E s := by
  obtain ⟨od, J, hl⟩ := I.look
  exact PySem.W.get_value X J (PySem.W.plainGet_of hg).1 (PySem.W.findObj_own hh ha rfl (by rw [hl, hv])) hv' h


theorem get_meth {pl : Sem Bool} {Q : Value × List Value → Shared → Prop} (X : K.In s.heap) (I : ObjM s.heap x dx C mA) (hg : PySem.W.plainGet K C name = true)
    (hf : PySem.W.findIn K (.ref C) name = some (some (.ref f))) (ht : PySem.W.isFn K (.ref f) = true) (hv : mA name = none) (h : Q (.ref f, [.ref x]) s) :
    wpAny (model prog w) A (getMethod (.ref x) name pl) Q E s := by
  obtain ⟨od, J, hl⟩ := I.look
  exact PySem.W.method_fn X J (PySem.W.plainGet_of hg).1 (PySem.W.plainGet_of hg).2 hf (beq_iff_eq.mp ht) (by show (PySem.W.lookIn name od).map (·.isSome) = some false; rw [hl, hv]; rfl) h

theorem set_map {ns : List Str} {Q : Unit → Shared → Prop} (X : K.In s.heap) (I : ObjM s.heap x dx C mA)
    (hs : PySem.W.findIn K (.ref C) "__setattr__" = some (some (.builtin "object.__setattr__"))) (hp : PySem.W.plainOver K C = true) (ht : PySem.W.takerIn K C name = some none) (hh : PySem.W.hasDictIn K C = true)
    (hw : PySem.Within mA ns) (hsz : ns.length ≤ sizeLine)
    (h : ∀ h', ObjM h' x dx C (fun y => if y = name then some v else mA y) → Heap.SameBut dx s.heap h' → Q () { s with heap := h', toks := s.toks + 2 }) :
    wpAny (model prog w) A (setAttr (.ref x) name v) Q E s := by
  obtain ⟨od, J, hl⟩ := I.look
  refine PySem.W.set_plain X J hs (PySem.W.osa_open (s := { s with toks := s.toks + 1 }) (r := none) X J hp ht fun b => ?_)
  obtain ⟨cd, hc, hd'⟩ := PySem.W.any_some hh
  have hx : s.heap.get? x = some ⟨.ref C, some dx, .plain, #[]⟩ := I.obj
  refine wpAny_bind (wpAny_pure (wpAny_bind (wpAny_bind (wpAny_loadPart hx (wpAny_bind (PySem.W.Looks.here (s := { s with toks := s.toks + 1 }) (PySem.W.looks_clsIn X hc) ?_))))))
  rw [hd']
  refine wpAny_pure (a := some dx) (wpAny_bind (wpAny_pure (wpAny_bind ?_)))
  refine wpAny_nsSet1 (s := { s with toks := s.toks + 1 }) I.ns fun h' hn2 hs2 => ?_
  obtain ⟨oD, esD, epD, hoD, hdD, hcD⟩ := hn2.count (PySem.Within.cons name v hw)
  refine wpAny_bind (wpAny_lookBehind hoD (by rw [hdD]; exact pastItsLine_dict (Nat.le_trans hcD (by rw [List.length_cons]; omega))) ?_)
  exact wpAny_pure (h _ ⟨(hs2.2 _ (Ne.symm I.ne)).trans I.obj, hn2, I.ne⟩ hs2)

/-- C(..): the dict at the heap's end, the instance behind it; then its __init__ -/
theorem make_map {R : Result → Shared → Prop} {vs : List Value} {kw : List (Str × Value)} (X : K.In s.heap) (hm : PySem.W.makesIn K C = true)
    (hi : PySem.W.findIn K (.ref C) "__init__" = some (some (.ref f))) (hf : PySem.W.typeIn K (.ref f) = some (.type "function"))
    (h : codeAny (model prog w) (A.under (.builtin "type.__call__" ⟨.ref C :: vs, kw⟩)) (.call (.ref f) ⟨.ref (s.heap.objs.size + 1) :: vs, kw⟩) (PySem.W.InitBack (s.heap.objs.size + 1) R)
      { s with heap := (s.heap.push PySem.W.emptyDict).push (PySem.W.instObj C s.heap.objs.size) }) :
    codeAny (model prog w) A (.call (.ref C) ⟨vs, kw⟩) R s := by
  obtain ⟨hh, g, d, t, os⟩ := s
  exact PySem.W.make_core (PySem.W.makes_of X hm) (PySem.W.looks_findIn X hi) (fun self => PySem.W.bind_fn X self hf) (.inl rfl) h
end

/-! ### the attributes as a list of pairs -/
def putF (f : Str) (v : V) : List (Str × V) → List (Str × V)
  | [] => [(f, v)]
  | (g, x) :: r => if g = f then (g, v) :: r else (g, x) :: putF f v r
theorem lookup_putF (f g : Str) (v : V) : ∀ fs : List (Str × V), (putF f v fs).lookup g = if g = f then some v else fs.lookup g
  | [] => by
    show List.lookup g [(f, v)] = _
    by_cases h : g = f
    · have hb : (g == f) = true := beq_iff_eq.mpr h
      simp only [List.lookup, hb, if_pos h]
    · have hb : (g == f) = false := beq_eq_false_iff_ne.mpr h
      simp only [List.lookup, hb, if_neg h]
  | (k, x) :: r => by
    have ih := lookup_putF f g v r
    rw [show putF f v ((k, x) :: r) = (if k = f then (k, v) :: r else (k, x) :: putF f v r) from rfl]
    by_cases hk : k = f
    · rw [if_pos hk]
      by_cases h : g = k
      · have hb : (g == k) = true := beq_iff_eq.mpr h
        simp only [List.lookup, hb, if_pos (h.trans hk)]
      · have hb : (g == k) = false := beq_eq_false_iff_ne.mpr h
        simp only [List.lookup, hb, if_neg (fun e : g = f => h (e.trans hk.symm))]
    · rw [if_neg hk]
      by_cases h : g = k
      · have hb : (g == k) = true := beq_iff_eq.mpr h
        simp only [List.lookup, hb, if_neg (fun e : g = f => hk (h.symm.trans e))]
      · have hb : (g == k) = false := beq_eq_false_iff_ne.mpr h
        simp only [List.lookup, hb]
        exact ih
theorem keys_putF (f : Str) (v : V) : ∀ fs : List (Str × V), f ∈ (putF f v fs).map (·.1) ∧ ∀ g, g ∈ fs.map (·.1) → g ∈ (putF f v fs).map (·.1)
  | [] => ⟨by simp [putF], fun g h => by simp at h⟩
  | (k, x) :: r => by
    obtain ⟨i1, i2⟩ := keys_putF f v r
    rw [show putF f v ((k, x) :: r) = (if k = f then (k, v) :: r else (k, x) :: putF f v r) from rfl]
    by_cases hk : k = f
    · rw [if_pos hk]
      subst hk
      exact ⟨by simp, fun g h => by simpa using h⟩
    · rw [if_neg hk]
      refine ⟨?_, fun g h => ?_⟩
      · rw [List.map_cons]
        exact List.mem_cons_of_mem _ i1
      · rw [List.map_cons] at h ⊢
        rcases List.mem_cons.mp h with e | e
        · exact List.mem_cons.mpr (.inl e)
        · exact List.mem_cons_of_mem _ (i2 g e)
theorem length_putF (f : Str) (v : V) : ∀ fs : List (Str × V), (putF f v fs).length ≤ fs.length + 1
  | [] => by simp [putF]
  | (k, x) :: r => by
    have ih := length_putF f v r
    rw [show putF f v ((k, x) :: r) = (if k = f then (k, v) :: r else (k, x) :: putF f v r) from rfl]
    by_cases hk : k = f
    · rw [if_pos hk, List.length_cons, List.length_cons]; omega
    · rw [if_neg hk, List.length_cons, List.length_cons]; omega

theorem RelO.some_of {v : V} {o : Option Value} (r : RelO (some v) o) : ∃ u, o = some u ∧ RelV v u := by
  cases o with
  | none => exact (show False from r).elim
  | some u => exact ⟨u, rfl, r⟩
theorem RelO.none_of {o : Option Value} (r : RelO none o) : o = none := by
  cases o with
  | none => rfl
  | some u => exact (show False from r).elim
theorem handed_of {v : V} {u : Value} (r : RelV v u) : PySem.W.handedIn u = true := by
  cases v with
  | non => cases (show u = Value.none from r); rfl
  | bl b => cases (show u = Value.bool b from r); rfl
  | int i => obtain ⟨t, e⟩ := (show ∃ t, u = Value.int i t from r); cases e; rfl
  | str x => obtain ⟨t, e⟩ := (show ∃ t, u = Value.str x t from r); cases e; rfl
  | byt b => obtain ⟨t, e⟩ := (show ∃ t, u = Value.bytes b t from r); cases e; rfl
  | flt b => obtain ⟨t, e⟩ := (show ∃ t, u = Value.float b t from r); cases e; rfl
  | ref a => cases (show u = Value.ref a from r); rfl
  | ty n => cases (show u = Value.type n from r); rfl

section
variable {P : Program} {w : World} {H H' : Hp} {h h' : Heap} {a C dx : Addr} {fs fs' : List (Str × V)}
theorem ins_get (hok : HOk P w H h) (e : H a = some (.ins C dx fs)) : ∃ mA, ObjM h a dx C mA ∧ (∀ f, RelO (fs.lookup f) (mA f)) ∧ PySem.Within mA (fs.map (·.1)) ∧ fs.length ≤ 1000 ∧ H dx = some (.own a) := by
  obtain ⟨d, z, ne, ob, mA, n, r, q⟩ := (show ObjOk P w H h a (.ins C dx fs) from hok a _ e)
  exact ⟨mA, ⟨ob, n, ne⟩, r, q, z, d⟩
end

/-! ### what of the text a class must have -/
structure Cls (K : PySem.W.Frag) (C : Addr) : Prop where
  pg : PySem.W.plainGet K C Str.empty = true
  hd : PySem.W.hasDictIn K C = true
  po : PySem.W.plainOver K C = true
  sa : PySem.W.findIn K (.ref C) "__setattr__" = some (some (.builtin "object.__setattr__"))
theorem Cls.get {K : PySem.W.Frag} {C : Addr} (c : Cls K C) (f : Str) : PySem.W.plainGet K C f = true := c.pg
/-- no class of it has the name -/
def NoAttr (K : PySem.W.Frag) (C : Addr) (f : Str) : Prop := PySem.W.findIn K (.ref C) f = some none
theorem NoAttr.taker {K : PySem.W.Frag} {C : Addr} {f : Str} (n : NoAttr K C f) : PySem.W.takerIn K C f = some none := by
  unfold PySem.W.takerIn
  rw [show PySem.W.findIn K (.ref C) f = some none from n]
  rfl
/-- a method: a plain def of the class or of one above it -/
structure Meth (K : PySem.W.Frag) (C : Addr) (m : Str) (f : Addr) : Prop where
  at_ : PySem.W.findIn K (.ref C) m = some (some (.ref f))
  fn : PySem.W.isFn K (.ref f) = true
  kp : PySem.W.keepIn K (.ref f) = true

section
variable {X : Cx} {pins : List (Addr × Obj)} {σ : St} {H : Hp} {s : Shared} {a C dx : Addr} {fs : List (Str × V)} {f : Str} {v : V} {A : Around} {E : Value → Shared → Prop}

theorem getattr_ok {b : Bool} {Q : Value → Shared → Prop} (I : Inv X pins σ H s) (e : H a = some (.ins C dx fs)) (c : Cls X.K C) (n : NoAttr X.K C f) (l : fs.lookup f = some v)
    (h : ∀ u s', Inv X pins σ H s' → RelV v u → Q u s') : wpAny (model X.prog X.w) A (getAttr (.ref a) f b) Q E s := by
  obtain ⟨mA, O, r, _, _, _⟩ := ins_get I.hok e
  obtain ⟨u, hu, ru⟩ := RelO.some_of (v := v) (o := mA f) (by rw [← l]; exact r f)
  exact get_map I.kIn O (c.get f) c.hd n hu (handed_of ru) (h u _ (I.tok _) ru)


theorem getmeth_ok {m : Str} {g : Addr} {pl : Sem Bool} {Q : Value × List Value → Shared → Prop} (I : Inv X pins σ H s) (e : H a = some (.ins C dx fs)) (c : Cls X.K C) (k : Meth X.K C m g) (l : fs.lookup m = none)
    (h : Q (.ref g, [.ref a]) s) : wpAny (model X.prog X.w) A (getMethod (.ref a) m pl) Q E s := by
  obtain ⟨mA, O, r, _, _, _⟩ := ins_get I.hok e
  have hn : mA m = none := RelO.none_of (by rw [← l]; exact r m)
  exact get_meth I.kIn O (c.get m) k.at_ k.fn hn h

theorem setattr_ok {y : V} {u : Value} {Q : Unit → Shared → Prop} (I : Inv X pins σ H s) (e : H a = some (.ins C dx fs)) (c : Cls X.K C) (n : NoAttr X.K C f) (hl : fs.length < 1000) (ry : RelV y u)
    (h : ∀ s', Inv X pins σ (upd H a (.ins C dx (putF f y fs))) s' → Q () s') : wpAny (model X.prog X.w) A (setAttr (.ref a) f u) Q E s := by
  obtain ⟨mA, O, r, wi, _, ho⟩ := ins_get I.hok e
  have hz : (fs.map (·.1)).length ≤ sizeLine := by rw [List.length_map, sizeLine_eq]; omega
  refine set_map I.kIn O c.sa c.po n.taker c.hd wi hz fun h' O' sb => h _ ?_
  have hd : ∃ o, h'.get? dx = some o := let ⟨o, _, _, e', _⟩ := O'.ns; ⟨o, e'⟩
  refine I.write (x := a) (e := dx) (by rw [e]; exact True.intro) (.inr ho) (fun b q hb z => (sb.2 b hb).trans z) hd ?_
  refine ⟨by rw [upd_ne O.ne]; exact ho, ?_, O.ne, O'.obj, _, O'.ns, fun g => ?_, fun g hg => ?_⟩
  · have := length_putF f y fs; omega
  · show RelO ((putF f y fs).lookup g) (if g = f then some u else mA g)
    rw [lookup_putF]
    by_cases q : g = f
    · rw [if_pos q, if_pos q]; exact ry
    · rw [if_neg q, if_neg q]; exact r g
  · by_cases q : g = f
    · rw [q]; exact (keys_putF f y fs).1
    · refine (keys_putF f y fs).2 g (wi g fun z => hg ?_)
      show (if g = f then some u else mA g) = none
      rw [if_neg q]; exact z

/-- a new instance, tracked, without attributes -/
theorem Inv.made (I : Inv X pins σ H s) : Inv X pins σ (upd (upd H s.heap.objs.size (.own (s.heap.objs.size + 1))) (s.heap.objs.size + 1) (.ins C s.heap.objs.size []))
    { s with heap := (s.heap.push PySem.W.emptyDict).push (PySem.W.instObj C s.heap.objs.size) } := by
  have e1 : (s.heap.push PySem.W.emptyDict).get? s.heap.objs.size = some PySem.W.emptyDict := Heap.get?_push_size s.heap rfl
  have e2 : ((s.heap.push PySem.W.emptyDict).push (PySem.W.instObj C s.heap.objs.size)).get? (s.heap.objs.size + 1) = some (PySem.W.instObj C s.heap.objs.size) := by
    have := Heap.get?_push_size (s.heap.push PySem.W.emptyDict) (o := PySem.W.instObj C s.heap.objs.size) rfl
    rwa [Heap.size_push] at this
  have e3 : (s.heap.push PySem.W.emptyDict).Ns s.heap.objs.size (fun _ => none) := ⟨PySem.W.emptyDict, #[], _, e1, rfl, (fun e he => absurd he (by simp)), fun _ => rfl⟩
  have I1 := I.laid (a := s.heap.objs.size) (o := .own (s.heap.objs.size + 1)) (h' := s.heap.push PySem.W.emptyDict) (t' := s.toks) (fun b u q => Heap.get?_push_of_some _ q) (Nat.le_refl _) ⟨_, e1⟩
  refine I1.laid (a := s.heap.objs.size + 1) (o := .ins C s.heap.objs.size []) (t' := s.toks) (fun b u q => Heap.get?_push_of_some _ q) (Nat.le_of_eq (Heap.size_push _ _)) ?_
  have ne : s.heap.objs.size ≠ s.heap.objs.size + 1 := Nat.ne_of_lt (Nat.lt_succ_self _)
  refine ⟨by rw [upd_ne ne, upd_same], Nat.zero_le _, ne, e2, fun _ => none, (Heap.Ns1.of_empty e3).at fun o q => Heap.get?_push_of_some _ q, fun _ => True.intro, fun y hy => absurd rfl hy⟩

/-- e.f where nothing but the object is asked: through attributeBase (super) and the last hold -/
theorem attr_of {prog : Program} {w : World} {env : Env} {e : Expr} {f : Str} {pos : Pos} {s : Shared} {Q : Value → Shared → Prop} (hb : attributeBase e f env (eval e env) = eval e env)
    (h : wpAny (model prog w) A (eval e env) (fun o s₁ => wpAny (model prog w) A (getAttr o f true) Q E s₁) E s) : wpAny (model prog w) A (eval (.Attribute e f pos) env) Q E s :=
  Attribute_any_ h (by rw [arm_eval_Attribute, hb])
end

/-! ### readings and rules -/
/-- e.f, an attribute of the instance -/
def tFld (K : PySem.W.Frag) (ta : TE) (f : Str) : TE := fun σ H Q => ta σ H fun x H1 => ∃ a C dx fs v, x = .ref a ∧ H1 a = some (.ins C dx fs) ∧ Cls K C ∧ NoAttr K C f ∧ fs.lookup f = some v ∧ Q v H1
/-- e.f = value -/
def sFld (K : PySem.W.Frag) (ta tv : TE) (f : Str) : TS := fun D σ H => tv σ H fun y H1 => ta σ H1 fun x H2 => ∃ a C dx fs, x = .ref a ∧ H2 a = some (.ins C dx fs) ∧ Cls K C ∧ NoAttr K C f ∧ fs.length < 1000 ∧
  D.nx σ (upd H2 a (.ins C dx (putF f y fs)))

section
variable {X : Cx} {o e value : Expr} {f : Str} {pos pos' tpos : Pos} {ta tv : TE}
theorem pe_fld (he : PE X e ta) (hb : attributeBase e f X.env (eval e X.env) = eval e X.env) : PE X (.Attribute e f pos) (tFld X.K ta f) := by
  intro pins s σ H Q I h
  refine attr_of hb (thn (he pins s σ H _ I h) fun u s1 ⟨x, H1, I1, rx, a, C, dx, fs, v, ex, ea, c, n, l, q⟩ => ?_)
  subst ex
  obtain rfl : u = Value.ref a := rx
  exact getattr_ok I1 ea c n l fun u' s2 I2 ru => ⟨v, H1, I2, ru, q⟩
theorem ps_fld (ha : PE X o ta) (hv : PE X value tv) (hs : swapsWith value (some (.Attribute o f pos')) pos.line X.env = pure false) : PS X (.Assign [.Attribute o f pos'] value pos) (sFld X.K ta tv f) := by
  intro pins s σ H D I h
  refine plainObj_wpAny_Assign_Attribute (thn (hv pins s σ H _ I h) fun u s1 ⟨y, H1, I1, ry, q⟩ => thn (ha pins s1 σ H1 _ I1 q) fun ov s2 ⟨x, H2, I2, rx, a, C, dx, fs, ex, ea, c, n, l, q2⟩ => ?_) hs
  subst ex
  obtain rfl : ov = Value.ref a := rx
  exact setattr_ok I2 ea c n l ry fun s3 I3 => ⟨σ, _, I3, q2⟩

end

/-! ### isinstance -/
section
variable {X : Cx} {pins : List (Addr × Obj)} {σ : St} {H : Hp} {s : Shared} {A : Around} {E : Value → Shared → Prop} {Q : Value → Shared → Prop} {c : Value} {b : Bool}
/-- the type of a value, as the fragment's deciders take it; for an instance its class -/
inductive TyOf (K : PySem.W.Frag) (H : Hp) : V → Value → Prop where
  | non : TyOf K H .non (.type "NoneType")
  | bl (x : Bool) : TyOf K H (.bl x) (.type "bool")
  | int (i : Int) : TyOf K H (.int i) (.type "int")
  | str (x : Str) : TyOf K H (.str x) (.type "str")
  | flt (x : UInt64) : TyOf K H (.flt x) (.type "float")
  | lst {a : Addr} {xs : List V} (e : H a = some (.lst xs)) : TyOf K H (.ref a) (.type "list")
  | frz {a : Addr} {o : Obj} {xs : List V} (e : H a = some (.frz o (.lst xs))) : TyOf K H (.ref a) (.type "list")
  | tup {a : Addr} {xs : List V} (e : H a = some (.tup xs)) : TyOf K H (.ref a) (.type "tuple")
  | dK {a : Addr} {kvs : List (Key × V)} (e : H a = some (.dK kvs)) : TyOf K H (.ref a) (.type "dict")
  | dT {a : Addr} {kvs : List (List Key × V)} (e : H a = some (.dT kvs)) : TyOf K H (.ref a) (.type "dict")
  | ins {a C dx : Addr} {fs : List (Str × V)} (e : H a = some (.ins C dx fs)) (cl : Cls K C) (ha : PySem.W.findIn K (.ref C) "__class__" = some (some (.builtin "object.__class__")))
      (hn : PySem.W.specialIn K (.builtin "object.__class__") "__get__" = some (some (.builtin "getset_descriptor.__get__"))) (htk : PySem.W.takesIn K (.builtin "object.__class__") = some true)
      (hm : PySem.W.mroIn K C (.type "object") = some true) : TyOf K H (.ref a) (.ref C)
/-- isinstance(x, c) for one class c, a built-in or an own one: kitOne's answer -/
theorem isinst_ok {x : V} {u t : Value} (I : Inv X pins σ H s) (rx : RelV x u) (ty : TyOf X.K H x t) (e : PySem.W.kitOne X.K t c = some b) (h : ∀ tk, Q (.bool b) { s with toks := tk }) :
    wpAny (model X.prog X.w) A (call (.builtin "isinstance") [u, c]) Q E s := by
  cases ty with
  | non => cases (show u = Value.none from rx); exact PySem.W.kia_one PySem.W.kitx_none I.kIn True.intro e (fun z => nomatch z) h
  | bl y => cases (show u = Value.bool y from rx); exact PySem.W.kia_one PySem.W.kitx_bool I.kIn True.intro e (fun z => nomatch z) h
  | int i => obtain ⟨t, q⟩ := (show ∃ t, u = Value.int i t from rx); cases q; exact PySem.W.kia_one PySem.W.kitx_int I.kIn True.intro e (fun z => nomatch z) h
  | str y => obtain ⟨t, q⟩ := (show ∃ t, u = Value.str y t from rx); cases q; exact PySem.W.kia_one PySem.W.kitx_str I.kIn True.intro e (fun z => nomatch z) h
  | flt y => obtain ⟨t, q⟩ := (show ∃ t, u = Value.float y t from rx); cases q; exact PySem.W.kia_one PySem.W.kitx_float I.kIn True.intro e (fun z => nomatch z) h
  | @lst a xs ea =>
    cases (show u = Value.ref a from rx)
    obtain ⟨_, _, n, _, h1⟩ := (show ObjOk X.prog X.w H s.heap a (.lst xs) from I.hok a _ ea)
    exact PySem.W.kia_one PySem.W.kitx_list I.kIn ⟨_, h1, rfl⟩ e (fun z => nomatch z) h
  | @frz a ob xs ea =>
    cases (show u = Value.ref a from rx)
    obtain ⟨_, _, _, n, _, h1⟩ := (show ObjOk X.prog X.w H s.heap a (.frz ob (.lst xs)) from I.hok a _ ea)
    exact PySem.W.kia_one PySem.W.kitx_list I.kIn ⟨_, h1, rfl⟩ e (fun z => nomatch z) h
  | @tup a xs ea =>
    cases (show u = Value.ref a from rx)
    obtain ⟨_, _, _, p⟩ := (show ObjOk X.prog X.w H s.heap a (.tup xs) from I.hok a _ ea)
    obtain ⟨o, h1, h2, _⟩ := p
    exact PySem.W.kia_one PySem.W.kitx_tuple I.kIn ⟨o, h1, h2⟩ e (fun z => nomatch z) h
  | @dK a kvs ea =>
    cases (show u = Value.ref a from rx)
    obtain ⟨_, _, vs, _, p⟩ := (show ObjOk X.prog X.w H s.heap a (.dK kvs) from I.hok a _ ea)
    obtain ⟨o, es, ep, h1, h2, _⟩ := p
    exact PySem.W.kia_one PySem.W.kitx_dict I.kIn ⟨o, h1, h2.1⟩ e (fun z => nomatch z) h
  | @dT a kvs ea =>
    cases (show u = Value.ref a from rx)
    obtain ⟨_, _, xs, _, o, es, ep, h1, h2, _⟩ := (show ObjOk X.prog X.w H s.heap a (.dT kvs) from I.hok a _ ea)
    exact PySem.W.kia_one PySem.W.kitx_dict I.kIn ⟨o, h1, h2.1⟩ e (fun z => nomatch z) h
  | @ins a C dx fs ea cl ha hn htk hm =>
    cases (show u = Value.ref a from rx)
    obtain ⟨mA, O, _⟩ := ins_get I.hok ea
    obtain ⟨od, J, _⟩ := O.look
    exact PySem.W.kia_one (PySem.W.kitx_own (cl.get _) cl.hd ha hn htk hm) I.kIn J e (fun z => nomatch z) h
end
end L2

namespace L2
open PySem PySem.Spec PyProof.Rows

/-! ### room -/
structure Room (k : Nat) (A : Around) : Prop where
  hd : A.handled = none
  dp : A.depth + 3 * k + 5 < recursionLimit
  un : A.units + 16 * k + 200 < cLine
theorem Room.mono {j k : Nat} {A : Around} (r : Room k A) (h : j ≤ k) : Room j A := ⟨r.hd, by have := r.dp; omega, by have := r.un; omega⟩
theorem Room.deeper {k : Nat} {A : Around} (r : Room (k + 1) A) (env : Env) : Room k (A.deeper env) :=
  ⟨r.hd, by have := r.dp; show A.depth + 1 + 3 * k + 5 < _; omega, by have := r.un; show A.units + 3 + 16 * k + 200 < _; omega⟩
theorem make_depth {A : Around} {C : Addr} {us : List Value} {kw : List (Str × Value)} : (A.under (.builtin "type.__call__" ⟨.ref C :: us, kw⟩)).depth = A.depth + 1 := by
  first | rfl | simp [Around.under, Code.weight, Code.isCreation, Code.isGuard, Code.isCaller, Code.frames, Code.isFrame, guardIds]
theorem make_units {A : Around} {C : Addr} {us : List Value} {kw : List (Str × Value)} : (A.under (.builtin "type.__call__" ⟨.ref C :: us, kw⟩)).units = A.units + 1 := by
  first | rfl | simp [Around.under, Code.cUnits, Code.frames, Code.isFrame]
theorem Room.make {k : Nat} {A : Around} (r : Room (k + 1) A) (C : Addr) (us : List Value) (kw : List (Str × Value)) : Room k (A.under (.builtin "type.__call__" ⟨.ref C :: us, kw⟩)) :=
  ⟨r.hd, by have := r.dp; rw [make_depth]; omega, by have := r.un; rw [make_units]; omega⟩
theorem Room.depth {k : Nat} {A : Around} (r : Room k A) : A.depth < recursionLimit := by have := r.dp; omega
theorem Room.units {k : Nat} {A : Around} (r : Room k A) : A.units + 64 < cLine := by have := r.un; omega

/-! ### argument lists and displays -/
def tNil : TA := fun _ H Q => Q [] H
def tCons (ta : TE) (tr : TA) : TA := fun σ H Q => ta σ H fun x H1 => tr σ H1 fun xs H2 => Q (x :: xs) H2
section
variable {X : Cx} {e : Expr} {es : List Expr} {te : TE} {t : TA} {pos : Pos}
theorem pa_nil : PA X [] tNil := fun _ _ _ _ H Q I h => Calls.spliced_nil ⟨[], H, I, .nil, h⟩
theorem pa_cons (ha : PE X e te) (hr : PA X es t) (hs : starEach (e :: es) X.env = (false, eval e X.env) :: starEach es X.env := by rfl) : PA X (e :: es) (tCons te t) := by
  intro pos pins s σ H Q I h
  rw [hs]
  show wpAny _ _ (spliced ((false, eval e X.env) :: backTo pos (starEach es X.env))) _ _ s
  refine Calls.spliced_cons (thn (ha pins s σ H _ I h) fun u s1 ⟨x, H1, I1, r1, q1⟩ => ?_)
  exact thn (hr pos pins s1 σ H1 _ I1 q1) fun us s2 ⟨xs, H2, I2, r2, q2⟩ => ⟨x :: xs, H2, I2, .cons r1 r2, q2⟩

/-- a tuple, a list of written items -/
def tTup (t : TA) : TE := fun σ H Q => t σ H fun xs H1 => xs.length ≤ sizeLine ∧ ∀ p, H1 p = none → Q (.ref p) (upd H1 p (.tup xs))
def tLst (t : TA) : TE := fun σ H Q => t σ H fun xs H1 => xs.length ≤ sizeLine ∧ ∀ p, H1 p = none → Q (.ref p) (upd H1 p (.lst xs))
theorem pe_tup {x1} (h : PA X es t) : PE X (.Tuple es x1 pos) (tTup t) := by
  intro pins s σ H Q I hq
  refine wpAny_Tuple_spliced (thn (h pos pins s σ H _ I hq) fun us s1 ⟨xs, H1, I1, r, z, q⟩ => ⟨by rw [← r.length]; exact z, ?_⟩)
  have hf : H1 s1.heap.objs.size = none := I1.hok.fresh (Nat.le_refl _)
  refine ⟨.ref s1.heap.objs.size, upd H1 s1.heap.objs.size (.tup xs), I1.laid (t' := s1.toks) (fun b u e => Heap.get?_push_of_some _ e) (Nat.le_refl _) ?_, rfl, q _ hf⟩
  exact ⟨z, us, r, ⟨_, Heap.get?_push_size _ rfl, rfl, _, rfl⟩⟩
theorem pe_lst (h : PA X es t) : PE X (.List es pos) (tLst t) := by
  intro pins s σ H Q I hq
  refine wpAny_List_spliced (thn (h pos pins s σ H _ I hq) fun us s1 ⟨xs, H1, I1, r, z, q⟩ => ⟨by rw [← r.length]; exact z, ?_⟩)
  have hf : H1 s1.heap.objs.size = none := I1.hok.fresh (Nat.le_refl _)
  refine ⟨.ref s1.heap.objs.size, upd H1 s1.heap.objs.size (.lst xs), I1.laid (t' := s1.toks) (fun b u e => Heap.get?_push_of_some _ e) (Nat.le_refl _) ?_, rfl, q _ hf⟩
  exact ⟨z, us, 0, r, Heap.get?_push_size _ rfl⟩
end

/-! ### what a def promises -/
/-- a def's promise: the bound arguments in the parameters' order, the heap, the wanted end, the wanted exception -/
abbrev Sp := List V → Hp → VK → XK → Prop
/-- how an exception lies behind a call (file 08 gives it): the callers' frames, abstract heap and state ahead of the call, the wish, the exception, the state -/
abbrev CXT := List Env → Hp → Shared → XK → Value → Shared → Prop

/-- the state at a call -/
structure Env0 (P : Program) (w : World) (K : PySem.W.Frag) (mg : Str → Option Value) (base : Heap) (A : Around) (outer : List Env) (s : Shared) (H : Hp) : Prop where
  frames : A.frames = some outer
  mod : Mod K mg base
  bs : ∀ b o, base.get? b = some o → s.heap.get? b = some o ∧ H b = none
  bsz : base.objs.size ≤ s.heap.objs.size
  funs : s.heap.FunFrames base outer
  frf : ∀ b ∈ frs outer, H b = none
  hok : HOk P w H s.heap
  bare : AllBare s.gens
/-- a call's end -/
def CE (outer : List Env) (P : Program) (w : World) (H : Hp) (s : Shared) (Q : VK) (u : Value) (s' : Shared) : Prop :=
  ∃ v H', s'.os = s.os ∧ AllBare s'.gens ∧ Un (frs outer) [] H H' s.heap s'.heap ∧ HOk P w H' s'.heap ∧ RelV v u ∧ Q v H'
def CR (CX : CXT) (outer : List Env) (P : Program) (w : World) (H : Hp) (s : Shared) (Q : VK) (E : XK) (r : Result) (s' : Shared) : Prop :=
  match r with
  | .ok (.ret u) => CE outer P w H s Q u s'
  | .ok _ => False
  | .error e => CX outer H s E e s'
structure FnOk (P : Program) (w : World) (K : PySem.W.Frag) (mg : Str → Option Value) (base : Heap) (CX : CXT) (k : Nat) (f : Addr) (fd : FuncData) (ps : List Str) (sp : Sp) : Prop where
  len : ∀ vs H Q E, sp vs H Q E → vs.length = ps.length
  run : ∀ (A : Around) (outer : List Env) (s : Shared) (H : Hp) (args : Args) (us : List Value) (vs : List V) (Q : VK) (E : XK), Room k A → Env0 P w K mg base A outer s H → BindsTo s fd args (ps.zip us) → Vals vs us → sp vs H Q E →
    codeAny (model P w) A (.call (.ref f) args) (CR CX outer P w H s Q E) s
theorem FnOk.mono {P : Program} {w : World} {K : PySem.W.Frag} {mg : Str → Option Value} {base : Heap} {CX : CXT} {j k : Nat} {f : Addr} {fd : FuncData} {ps : List Str} {sp : Sp} (F : FnOk P w K mg base CX j f fd ps sp) (h : j ≤ k) :
    FnOk P w K mg base CX k f fd ps sp := ⟨F.len, fun A outer s H args us vs Q E hr => F.run A outer s H args us vs Q E (hr.mono h)⟩

theorem Env0.make {P : Program} {w : World} {K : PySem.W.Frag} {mg : Str → Option Value} {base : Heap} {A : Around} {outer : List Env} {s : Shared} {H : Hp} (e : Env0 P w K mg base A outer s H) (C : Addr) (us : List Value) (kw : List (Str × Value)) :
    Env0 P w K mg base (A.under (.builtin "type.__call__" ⟨.ref C :: us, kw⟩)) outer s H := ⟨by first | exact e.frames | (simpa [Around.under, Code.envs, Code.isFrame, pushEnvs] using e.frames), e.mod, e.bs, e.bsz, e.funs, e.frf, e.hok, e.bare⟩

section
variable {X : Cx} {pins : List (Addr × Obj)} {σ : St} {H : Hp} {s s' : Shared}
/-- from a body: what a callee wants -/
theorem Inv.env0 (I : Inv X pins σ H s) : Env0 X.prog X.w X.K X.mg X.base X.A X.stack s H :=
  ⟨I.ok.frames, I.ok.mod, I.bs, Nat.le_trans I.ok.bsz I.sz, I.stack, I.stkFree, I.hok, I.bare⟩
/-- behind a call -/
theorem Inv.after {Q : VK} {u : Value} (I : Inv X pins σ H s) (h : CE X.stack X.prog X.w H s Q u s') : EP X pins σ Q u s' := by
  obtain ⟨v, H', os, bare, un, hok, r, q⟩ := h
  obtain ⟨hh, g, d, t, os'⟩ := s'
  obtain rfl : os' = s.os := os
  exact ⟨v, H', I.call (h' := hh) (g' := g) (d' := d) (t' := t) (ch := []) un hok bare (fun b z => absurd z (by simp)), r, q⟩
end

/-! ### calls -/
/-- f(..): the written arguments, then the defaults dvs; E: what is wanted of an exception -/
def tCall (sp : Sp) (dvs : List V) (E : XK) (t : TA) : TE := fun σ H Q => t σ H fun vs H1 => sp (vs ++ dvs) H1 Q E
/-- o.m(..) of an instance of the class at C -/
def tMeth (C : Addr) (m : Str) (sp : Sp) (dvs : List V) (E : XK) (ta : TE) (t : TA) : TE := fun σ H Q => ta σ H fun x H1 => ∃ a dx fs, x = .ref a ∧ H1 a = some (.ins C dx fs) ∧ fs.lookup m = none ∧
  t σ H1 fun vs H2 => sp (x :: (vs ++ dvs)) H2 Q E
/-- C(..): a new instance and its dict, then __init__ -/
def tMake (C : Addr) (sp : Sp) (dvs : List V) (E : XK) (t : TA) : TE := fun σ H Q => t σ H fun vs H1 => ∀ x dx, H1 x = none → H1 dx = none → dx ≠ x →
  sp (.ref x :: (vs ++ dvs)) (upd (upd H1 dx (.own x)) x (.ins C dx [])) (fun v H2 => v = .non ∧ Q (.ref x) H2) E

/-- how the parameters are bound: us the positional arguments, kw the keywords' values by name, ds the defaults that fill up -/
def Binds (K : PySem.W.Frag) (fd : FuncData) (ps : List Str) (ds : List Value) : Prop :=
  ∀ (s : Shared) (us : List Value), K.In s.heap → (us ++ ds).length = ps.length → BindsTo s fd ⟨us, []⟩ (ps.zip (us ++ ds))
/-- every parameter is given -/
theorem Binds.all {K : PySem.W.Frag} {fd : FuncData} {ps : List Str} (h : ∀ us : List Value, us.length = ps.length → bindArgs fd ⟨us, []⟩ = pure (ps.zip us)) : Binds K fd ps [] := fun s us _ hl => by
  rw [List.append_nil] at hl ⊢
  exact .of_eq (h us hl)

/-- an exception of a callee reaches what this body wants of exceptions -/
def Passes (CX : CXT) (X : Cx) (E : XK) : Prop := ∀ (pins : List (Addr × Obj)) (σ : St) (H : Hp) (s : Shared) (e : Value) (s' : Shared), Inv X pins σ H s → CX X.stack H s E e s' → X.xe e s'

section
variable {X : Cx} {CX : CXT} {k : Nat} {f C : Addr} {fd : FuncData} {ps : List Str} {sp : Sp} {dvs : List V} {ds : List Value} {E : XK} {x m : Str} {p pos apos : Pos} {e o : Expr} {es : List Expr} {ta : TE} {t : TA}

/-- the callee runs -/
theorem run_fn {pins : List (Addr × Obj)} {σ : St} {H : Hp} {s : Shared} {Q : VK} {us : List Value} {vs : List V} (F : FnOk X.prog X.w X.K X.mg X.base CX k f fd ps sp) (hr : Room k X.A) (hb : Binds X.K fd ps ds) (hd : Vals dvs ds) (hx : Passes CX X E)
    (I : Inv X pins σ H s) (r : Vals vs us) (h : sp (vs ++ dvs) H Q E) : wpAny (model X.prog X.w) X.A (call (.ref f) us) (EP X pins σ Q) X.xe s := by
  have r2 : Vals (vs ++ dvs) (us ++ ds) := r.append hd
  have hl : (us ++ ds).length = ps.length := by rw [← r2.length]; exact F.len _ _ _ _ h
  refine wpAny_call (codeAny_mono (F.run X.A X.stack s H ⟨us, []⟩ (us ++ ds) (vs ++ dvs) Q E hr I.env0 (hb s us I.kIn hl) r2 h) fun r s' hq => ?_)
  cases r with
  | error e => exact hx pins σ H s e s' I hq
  | ok fl =>
    cases fl with
    | ret u => exact I.after hq
    | next => exact False.elim hq
    | brk => exact False.elim hq
    | cont => exact False.elim hq

theorem pe_call (F : FnOk X.prog X.w X.K X.mg X.base CX k f fd ps sp) (hr : Room k X.A) (hg : Gl X x) (hm : X.mg x = some (.ref f)) (hk : PySem.W.keepIn X.K (.ref f) = true) (hb : Binds X.K fd ps ds) (hd : Vals dvs ds) (hx : Passes CX X E)
    (ha : PA X (e :: es) t) (hdb : (x == ("__debug__" : Str)) = false := by decide) (he : starEach (e :: es) X.env = (false, eval e X.env) :: starEach es X.env := by rfl) (hpl : (backTo pos (starEach es X.env)).any (·.1) = false := by rfl) :
    PE X (.Call (.Name x p) (e :: es) [] pos) (tCall sp dvs E t) := by
  intro pins s σ H Q I h
  refine wpAny_Call_Name_kw (ld_glob I hg hm ?_ hdb)
  refine PySem.W.callWith_K (h₀ := X.base) I.ok.mod.kin hk (thn (ha pos pins s σ H _ I h) fun us s1 ⟨vs, H1, I1, r, q⟩ => ⟨I1.kIn, ?_⟩) he hpl
  exact run_fn F hr hb hd hx I1 r q

/-- o.m(e, ..) -/
theorem pe_meth {pl : Sem Bool} (he : PE X o ta) (c : Cls X.K C) (hm : Meth X.K C m f) (F : FnOk X.prog X.w X.K X.mg X.base CX k f fd ps sp) (hr : Room k X.A) (hb : Binds X.K fd ps ds) (hd : Vals dvs ds) (hx : Passes CX X E) (ha : PA X (e :: es) t)
    (hst : starEach (e :: es) X.env = (false, eval e X.env) :: starEach es X.env := by rfl) (hpl : (backTo pos (starEach es X.env)).any (·.1) = false := by rfl)
    (ht : eval (.Call (.Attribute o m apos) (e :: es) [] pos) X.env = (do
      let ov ← eval o X.env
      standAt apos.atName
      let (f, first) ← holding [ov] (getMethod ov m pl)
      callWith pos f first (backTo pos (starEach (e :: es) X.env)) (backToKw pos (keywordEach [] X.env))) := by rfl) :
    PE X (.Call (.Attribute o m apos) (e :: es) [] pos) (tMeth C m sp dvs E ta t) := by
  intro pins s σ H Q I h
  refine PySem.W.methodCall_KW (pl := pl) (thn (he pins s σ H _ I h) fun u s1 ⟨x, H1, I1, rx, a, dx, fs, ex, ea, l, q⟩ => ?_) ht
  subst ex
  obtain rfl : u = Value.ref a := rx
  refine getmeth_ok I1 ea c hm l ?_
  refine PySem.W.callWith_K (first := [.ref a]) (h₀ := X.base) I.ok.mod.kin hm.kp (thn (ha pos pins s1 σ H1 _ I1 q) fun us s2 ⟨vs, H2, I2, r, q2⟩ => ⟨I2.kIn, ?_⟩) hst hpl
  exact run_fn (us := .ref a :: us) (vs := .ref a :: vs) F hr hb hd hx I2 (.cons rfl r) q2

/-- what a class must have to be made -/
structure Mk (K : PySem.W.Frag) (C f : Addr) : Prop where
  makes : PySem.W.makesIn K C = true
  init : PySem.W.findIn K (.ref C) "__init__" = some (some (.ref f))
  fn : PySem.W.isFn K (.ref f) = true
  kp : PySem.W.keepIn K (.ref C) = true

theorem run_make {pins : List (Addr × Obj)} {σ : St} {H : Hp} {s : Shared} {Q : VK} {us : List Value} {vs : List V} (M : Mk X.K C f) (F : FnOk X.prog X.w X.K X.mg X.base CX k f fd ps sp) (hr : Room (k + 1) X.A) (hb : Binds X.K fd ps ds) (hd : Vals dvs ds)
    (hx : Passes CX X E) (I : Inv X pins σ H s) (r : Vals vs us)
    (h : ∀ x dx, H x = none → H dx = none → dx ≠ x → sp (.ref x :: (vs ++ dvs)) (upd (upd H dx (.own x)) x (.ins C dx [])) (fun v H2 => v = .non ∧ Q (.ref x) H2) E) :
    wpAny (model X.prog X.w) X.A (call (.ref C) us) (EP X pins σ Q) X.xe s := by
  have hq := h (s.heap.objs.size + 1) s.heap.objs.size (I.hok.fresh (Nat.le_succ _)) (I.hok.fresh (Nat.le_refl _)) (Nat.ne_of_lt (Nat.lt_succ_self _))
  have I2 := Inv.made (C := C) I
  have r2 : Vals (V.ref (s.heap.objs.size + 1) :: (vs ++ dvs)) (Value.ref (s.heap.objs.size + 1) :: (us ++ ds)) := .cons rfl (r.append hd)
  have hl : (Value.ref (s.heap.objs.size + 1) :: us ++ ds).length = ps.length := by
    have e := r2.length
    rw [F.len _ _ _ _ hq] at e
    exact e.symm
  refine wpAny_call (make_map (f := f) I.kIn M.makes M.init (beq_iff_eq.mp M.fn) (codeAny_mono (F.run _ X.stack _ _ ⟨Value.ref (s.heap.objs.size + 1) :: us, []⟩ (Value.ref (s.heap.objs.size + 1) :: (us ++ ds)) _ _ E (hr.make C us [])
    (I2.env0.make C us []) (hb _ (Value.ref (s.heap.objs.size + 1) :: us) I2.kIn hl) r2 hq) fun r s' hq' => ?_))
  cases r with
  | error e => exact hx pins σ _ _ e s' I2 hq'
  | ok fl =>
    cases fl with
    | ret u =>
      obtain ⟨v, H', I3, rv, ev, q3⟩ := I2.after hq'
      subst ev
      exact ⟨rv, ⟨V.ref (s.heap.objs.size + 1), H', I3, rfl, q3⟩⟩
    | next => exact False.elim hq'
    | brk => exact False.elim hq'
    | cont => exact False.elim hq'
theorem pe_make (M : Mk X.K C f) (F : FnOk X.prog X.w X.K X.mg X.base CX k f fd ps sp) (hr : Room (k + 1) X.A) (hg : Gl X x) (hm : X.mg x = some (.ref C)) (hb : Binds X.K fd ps ds) (hd : Vals dvs ds) (hx : Passes CX X E)
    (ha : PA X (e :: es) t) (hdb : (x == ("__debug__" : Str)) = false := by decide) (he : starEach (e :: es) X.env = (false, eval e X.env) :: starEach es X.env := by rfl) (hpl : (backTo pos (starEach es X.env)).any (·.1) = false := by rfl) :
    PE X (.Call (.Name x p) (e :: es) [] pos) (tMake C sp dvs E t) := by
  intro pins s σ H Q I h
  refine wpAny_Call_Name_kw (ld_glob I hg hm ?_ hdb)
  refine PySem.W.callWith_K (h₀ := X.base) I.ok.mod.kin M.kp (thn (ha pos pins s σ H _ I h) fun us s1 ⟨vs, H1, I1, r, q⟩ => ⟨I1.kIn, ?_⟩) he hpl
  exact run_make M F hr hb hd hx I1 r q
end

/-! ### keywords -/
section
variable {X : Cx} {CX : CXT} {k : Nat} {f C : Addr} {fd : FuncData} {ps ks : List Str} {sp : Sp} {E : XK} {x m : Str} {p pos apos kpos : Pos} {e o : Expr} {es : List Expr} {kws : List Keyword} {te ta : TE} {t tk : TA} {nm : Option Str}

variable {g : List Value → List Value → List Value} {gV : List V → List V → List V}
end

/-! ### a def's body keeps its promise -/
/-- names: the parameters first -/
structure FnScope (N P : List Str) (sc : Scope) : Prop where
  kind : sc.kind = .function
  co : sc.isCoroutine = false
  gen : sc.isGenerator = false
  nd : N.Nodup
  pre : N.take P.length = P
  par : ∀ x ∈ P, sc.names.lookup x = some .local ∨ sc.names.lookup x = some .cell
  nofree : ∀ y ∈ sc.names, y.2 ≠ .free

theorem bindL_out {kindOf : Str → Option NameKind} {x : Str} : ∀ {binds : List (Str × Value)} {m : Str → Option Value}, (∀ v, (x, v) ∉ binds) → bindL kindOf binds m x = m x
  | [], _, _ => rfl
  | (n, v) :: r, m, h => by
    unfold bindL
    rw [bindL_out fun w hw => h w (List.mem_cons_of_mem _ hw)]
    split
    · have : x ≠ n := by rintro rfl; exact h v List.mem_cons_self
      simp [this]
    · rfl
theorem bindC_out {kindOf : Str → Option NameKind} {x : Str} : ∀ {binds : List (Str × Value)} {m : Str → Option Value}, (∀ v, (x, v) ∉ binds) → bindC kindOf binds m x = m x
  | [], _, _ => rfl
  | (n, v) :: r, m, h => by
    unfold bindC
    rw [bindC_out fun w hw => h w (List.mem_cons_of_mem _ hw)]
    split
    · rfl
    · have : x ≠ n := by rintro rfl; exact h v List.mem_cons_self
      simp [this]
theorem bindL_get {kindOf : Str → Option NameKind} {x : Str} {v : Value} : ∀ {P : List Str} {vs : List Value} {i : Nat} {m : Str → Option Value}, P.Nodup → P[i]? = some x → vs[i]? = some v → kindOf x = some .local →
    bindL kindOf (P.zip vs) m x = some v
  | [], _, _, _, _, h, _, _ => by simp at h
  | _ :: _, [], _, _, _, _, h, _ => by simp at h
  | p :: P, w :: vs, 0, m, nd, h1, h2, hk => by
    simp at h1 h2; subst h1; subst h2
    show bindL kindOf ((p, w) :: P.zip vs) m p = _
    unfold bindL
    rw [bindL_out fun v hv => (List.nodup_cons.mp nd).1 (List.of_mem_zip hv).1, if_pos hk]
    simp
  | p :: P, w :: vs, i + 1, m, nd, h1, h2, hk => by
    show bindL kindOf ((p, w) :: P.zip vs) m x = _
    unfold bindL
    exact bindL_get (i := i) (List.nodup_cons.mp nd).2 (by simpa using h1) (by simpa using h2) hk
theorem bindC_get {kindOf : Str → Option NameKind} {x : Str} {v : Value} : ∀ {P : List Str} {vs : List Value} {i : Nat} {m : Str → Option Value}, P.Nodup → P[i]? = some x → vs[i]? = some v → kindOf x ≠ some .local →
    bindC kindOf (P.zip vs) m x = some v
  | [], _, _, _, _, h, _, _ => by simp at h
  | _ :: _, [], _, _, _, _, h, _ => by simp at h
  | p :: P, w :: vs, 0, m, nd, h1, h2, hk => by
    simp at h1 h2; subst h1; subst h2
    show bindC kindOf ((p, w) :: P.zip vs) m p = _
    unfold bindC
    rw [bindC_out fun v hv => (List.nodup_cons.mp nd).1 (List.of_mem_zip hv).1, if_neg hk]
    simp
  | p :: P, w :: vs, i + 1, m, nd, h1, h2, hk => by
    show bindC kindOf ((p, w) :: P.zip vs) m x = _
    unfold bindC
    exact bindC_get (i := i) (List.nodup_cons.mp nd).2 (by simpa using h1) (by simpa using h2) hk

/-- the names' values at the entry -/
def start (N : List Str) (vs : List V) : St := vs.map some ++ List.replicate (N.length - vs.length) none

/-- the context of a def's body, at its entry; an exception leaves the frame, then lies as CX says -/
def cxOf (CX : CXT) (P : Program) (w : World) (K : PySem.W.Frag) (mg : Str → Option Value) (base : Heap) (N : List Str) (qual : Str) (scope : Scope) (f : Addr) (cd : Value) (A : Around) (outer : List Env) (s : Shared) (H : Hp) (E : XK) : Cx where
  prog := P
  w := w
  K := K
  mg := mg
  base := base
  A := A.deeper (envOfC qual scope s.heap.objs.size f cd)
  N := N
  s₀ := s
  H₀ := H
  env := envOfC qual scope s.heap.objs.size f cd
  outer := outer
  stack := envOfC qual scope s.heap.objs.size f cd :: outer
  ex := []
  calm := true
  fn := fun _ => true
  pn := []
  xe := fun e s' => wpAny (model P w) (A.deeper (envOfC qual scope s.heap.objs.size f cd)) (leaving (envOfC qual scope s.heap.objs.size f cd) e) (fun _ s'' => CX outer H s E e s'') (fun e' s'' => CX outer H s E e' s'') s'

theorem cell_has {sc : Scope} {n : Nat} {x : Str} (h : sc.names.lookup x = some .cell) : ∃ c, (cellsFrom n sc.names []).lookup x = some c := by
  have q := PySem.W.cellsFrom_some sc.names n [] (.inl h)
  exact Option.isSome_iff_exists.mp q

theorem inv_start {CX : CXT} {P : Program} {w : World} {K : PySem.W.Frag} {mg : Str → Option Value} {base : Heap} {N ps : List Str} {qual : Str} {scope : Scope} {f : Addr} {cd : Value} {A : Around} {outer : List Env} {s s1 : Shared} {H : Hp} {E : XK} {us : List Value} {vs : List V}
    (S : FnScope N ps scope) (hd : A.handled = none) (e0 : Env0 P w K mg base A outer s H) (hl : vs.length = ps.length) (r : Vals vs us)
    (x : InCallC s s.heap.objs.size (bindL (envOfC qual scope s.heap.objs.size f cd).kindOf (ps.zip us) fun _ => none) (cellsFrom (s.heap.objs.size + 1) scope.names []) (bindC (envOfC qual scope s.heap.objs.size f cd).kindOf (ps.zip us) fun _ => none) s1) :
    Inv (cxOf CX P w K mg base N qual scope f cd A outer s H E) [] (start N vs) H s1 := by
  have hpl : ps.length ≤ N.length := by have := congrArg List.length S.pre; rw [List.length_take] at this; omega
  obtain ⟨h1, tk, rfl, hk⟩ := x.done
  have noA : ∀ b : Addr, b ∉ (cxOf CX P w K mg base N qual scope f cd A outer s H E).ex := fun b z => absurd (show b ∈ ([] : List Addr) from z) (by simp)
  refine ⟨⟨e0.mod, S.kind, rfl, rfl, Nat.le_refl _, fun y z c h1 h2 => ?_, fun y hy => ?_, fun y c _ h => ?_, fun _ => hd, Around.frames_deeper e0.frames, .inr ⟨rfl, rfl⟩, fun b z => absurd z (noA b), e0.bs, e0.bsz, fun b _ _ => noA b, fun b z => absurd z (noA b), e0.funs, e0.frf⟩,
    rfl, e0.bare, Un.kept hk, ⟨_, x.toInCall.ns, fun i y v h1 h2 h3 => ?_⟩, fun y c h => ⟨_, x.cell y c h⟩, e0.hok.fresh (Nat.le_refl _), fun y c h => ?_, fun p hp => absurd (show p ∈ ([] : List (Addr × Obj)) from hp) (by simp), e0.hok.kept hk, ?_⟩
  · exact name_of_addr x.apart (PySem.mem_of_lookup h1) (PySem.mem_of_lookup h2)
  · have hy : scope.names.lookup y = some .cell ∨ scope.names.lookup y = some .free := hy
    rcases hy with hy | hy
    · exact cell_has hy
    · exact absurd rfl (S.nofree _ (PySem.mem_of_lookup hy))
  · exact Nat.le_of_lt (x.above y c (PySem.mem_of_lookup h))
  · have hi : i < vs.length := by
      unfold start at h2
      by_cases hi : i < vs.length
      · exact hi
      · rw [List.getElem?_append_right (by simpa using hi)] at h2
        rw [List.getElem?_replicate] at h2
        split at h2 <;> cases h2
    have ha : vs[i]? = some v := by
      unfold start at h2
      rw [List.getElem?_append_left (by simpa using hi), List.getElem?_map] at h2
      cases e : vs[i]? with
      | none => rw [e] at h2; cases h2
      | some a => rw [e] at h2; cases h2; rfl
    obtain ⟨u, hu, rv⟩ := r.get ha
    have hp : ps[i]? = some y := by
      rw [← S.pre, List.getElem?_take_of_lt (by omega)]; exact h1
    have ndP : ps.Nodup := by rw [← S.pre]; exact S.nd.sublist (List.take_sublist _ _)
    refine ⟨u, rv, ?_⟩
    rcases S.par y (List.mem_of_getElem? hp) with k | k
    · exact .inl ⟨k, bindL_get ndP hp hu k⟩
    · obtain ⟨c, e⟩ := cell_has (n := s.heap.objs.size + 1) k
      refine .inr ⟨.inl k, c, e, ?_⟩
      have q := x.cell y c e
      rw [bindC_get ndP hp hu (by show scope.names.lookup y ≠ _; rw [k]; decide)] at q
      exact q
  · exact e0.hok.fresh (Nat.le_of_lt (x.above y c (PySem.mem_of_lookup h)))
  · unfold start
    show _ = N.length
    rw [List.length_append, List.length_map, List.length_replicate]
    omega

/-- THE RULE: a def (or a method) of the text, by its body. The body's reading t is chosen for each entry; it is run at the parameters' values -/
theorem fn_of {CX : CXT} {P : Program} {w : World} {K : PySem.W.Frag} {mg : Str → Option Value} {base : Heap} {k : Nat} {f : Addr} {name qual : Str} {params : Arguments} {body : List Stmt} {scope : Scope} {dV kV doc pm cdv ct oc : Value} {an od : Option Addr}
    {osl : Array (Option Value)} {N ps : List Str} {sp : Sp} (lk : K.lookup f = some ⟨oc, od, .func (PySem.W.fnOf name qual params body scope dV kV doc pm an cdv ct), osl⟩) (hcd : PySem.W.codeIn K cdv qual = true) (S : FnScope N ps scope)
    (len : ∀ vs H Q E, sp vs H Q E → vs.length = ps.length)
    (hbody : ∀ (A : Around) (outer : List Env) (s : Shared) (H : Hp) (vs : List V) (Q : VK) (E : XK), Room k (A.deeper (envOfC qual scope s.heap.objs.size f cdv)) → sp vs H Q E →
      ∃ t, PSs (cxOf CX P w K mg base N qual scope f cdv A outer s H E) body t ∧ t { nx := fun _ H' => Q .non H', rt := Q } (start N vs) H) :
    FnOk P w K mg base CX (k + 1) f (PySem.W.fnOf name qual params body scope dV kV doc pm an cdv ct) ps sp := by
  refine ⟨len, fun A outer s H args us vs Q E hr e0 hb r hsp => ?_⟩
  have hl := len _ _ _ _ hsp
  have KX : K.In s.heap := e0.mod.kin.keeps fun b o e => (e0.bs b o e).1
  have lim : s.heap.NoLimit := e0.mod.nolimit.keeps fun b o e => (e0.bs b o e).1
  have hkind : ∀ y ∈ ps.zip us, scope.names.lookup y.1 = some .local ∨ (scope.names.lookup y.1 = some .cell ∧ ((cellsFrom (s.heap.objs.size + 1) scope.names []).lookup y.1).isSome = true) := fun ⟨n, v⟩ hy => by
    rcases S.par n (List.of_mem_zip hy).1 with q | q
    · exact .inl q
    · exact .inr ⟨q, PySem.W.cellsFrom_some _ _ _ (.inl q)⟩
  refine codeAny_call_function hr.depth (KX _ _ lk) rfl S.co S.gen rfl (PySem.W.codeRec_of KX hcd) (hb _ _ _ _ ?_)
  refine wpAny_newFunctionEnv_cells S.kind hkind fun env he s1 x => ?_
  subst he
  refine ⟨lim.keeps x.toInCall.keep, codeAny_func ?_⟩
  obtain ⟨t, ht, hq⟩ := hbody A outer s H vs Q E (hr.deeper _) hsp
  have I : Inv (cxOf CX P w K mg base N qual scope f cdv A outer s H E) [] (start N vs) H s1 := inv_start S hr.hd e0 hl r x
  refine wpAny_mono (ht [] s1 (start N vs) H _ I hq) (fun fl s' hs => ?_) fun e s' hs => hs
  have fin : ∀ {σ' : St} {H' : Hp} {v : V} {u : Value}, Inv (cxOf CX P w K mg base N qual scope f cdv A outer s H E) [] σ' H' s' → RelV v u → Q v H' → CE outer P w H s Q u s' :=
    fun {σ' H' v u} J rv q => ⟨v, H', J.os, J.bare, J.base, J.hok, rv, q⟩
  cases fl with
  | ret u =>
    obtain ⟨v, σ', H', J, rv, q⟩ := hs
    exact fin J rv q
  | next =>
    obtain ⟨σ', H', J, q⟩ := hs
    exact fin (v := V.non) (u := Value.none) J rfl q
  | brk =>
    obtain ⟨_, _, _, q⟩ := hs
    exact False.elim q
  | cont =>
    obtain ⟨_, _, _, q⟩ := hs
    exact False.elim q
end L2

namespace L2
open PySem PySem.Spec PyProof.Rows
section
variable {X : Cx} {x : Str} {p pos : Pos} {e : Expr} {es : List Expr} {t : TA} {id T : String} {r : List V → Hp → VK → Prop}

def tCB (r : List V → Hp → VK → Prop) (t : TA) : TE := fun σ H Q => t σ H fun vs H1 => r vs H1 Q
/-- f(e, ..), f a built-in function -/
theorem pe_callB (hc : CallR X (.builtin id) r) (hg : Gl X x) (hm : X.mg x = none) (hv : bootBuiltins x = some (.builtin id)) (ha : PA X (e :: es) t) (hn : x ≠ "__name__" := by decide) (hdb : (x == ("__debug__" : Str)) = false := by decide)
    (he : starEach (e :: es) X.env = (false, eval e X.env) :: starEach es X.env := by rfl) (hpl : (backTo pos (starEach es X.env)).any (·.1) = false := by rfl) : PE X (.Call (.Name x p) (e :: es) [] pos) (tCB r t) := by
  intro pins s σ H Q I h
  refine wpAny_Call_Name_kw (ld_blt I hg hm hv ?_ hn hdb)
  exact PyProof.Rows.callWith_builtin1 (thn (ha pos pins s σ H _ I h) fun us s1 ⟨vs, H1, I1, r1, q1⟩ => hc pins s1 σ H1 vs us Q I1 r1 q1) he hpl
/-- T(e, ..), T a built-in type -/
theorem pe_callTy (hc : CallR X (.type T) r) (hg : Gl X x) (hm : X.mg x = none) (hv : bootBuiltins x = some (.type T)) (ha : PA X (e :: es) t) (hn : x ≠ "__name__" := by decide) (hdb : (x == ("__debug__" : Str)) = false := by decide)
    (he : starEach (e :: es) X.env = (false, eval e X.env) :: starEach es X.env := by rfl) (hpl : (backTo pos (starEach es X.env)).any (·.1) = false := by rfl) : PE X (.Call (.Name x p) (e :: es) [] pos) (tCB r t) := by
  intro pins s σ H Q I h
  refine wpAny_Call_Name_kw (ld_blt I hg hm hv ?_ hn hdb)
  exact PyProof.Rows.callWith_type1 (thn (ha pos pins s σ H _ I h) fun us s1 ⟨vs, H1, I1, r1, q1⟩ => hc pins s1 σ H1 vs us Q I1 r1 q1) he hpl
end
end L2

namespace HT
open PySem PyProof.Rows



section
open PySem.SeqAt
open PySem.AutoSeq1 (wpAny_loadPart')
open PySem.MeetsSeq PySem.MeetsSeq2 PySem.MeetsSeq3

end

section
variable {prog : Program} {w : World} {A : Around} {E : Value → Shared → Prop} {s : Shared}



/-! ### t[a:b], not the whole -/
/-- a slice's bound as a place among n (d where it is left out) -/
def sIx (n d : Nat) : Option Int → Nat
  | none => d
  | some v => if v < 0 then (v + (n : Int)).toNat else min v.toNat n
theorem sIx_none (n d : Nat) : sIx n d none = d := rfl
theorem sIx_nat (n d k : Nat) : sIx n d (some (k : Int)) = min k n := by
  show (if (k : Int) < 0 then ((k : Int) + (n : Int)).toNat else min (k : Int).toNat n) = min k n
  rw [if_neg (by omega), Int.toNat_natCast]
theorem sIx_le (n d : Nat) (hd : d ≤ n) (o : Option Int) : sIx n d o ≤ n := by
  cases o with
  | none => exact hd
  | some v =>
    show (if v < 0 then (v + (n : Int)).toNat else min v.toNat n) ≤ n
    by_cases hv : v < 0
    · rw [if_pos hv]; omega
    · rw [if_neg hv]; exact Nat.min_le_right _ _
theorem clip_eq (v : Int) (n d : Nat) : (if v < 0 then max (v + (n : Int)) 0 else min v (n : Int)) = ((sIx n d (some v) : Nat) : Int) := by
  show (if v < 0 then max (v + (n : Int)) 0 else min v (n : Int)) = (((if v < 0 then (v + (n : Int)).toNat else min v.toNat n) : Nat) : Int)
  by_cases hv : v < 0
  · simp only [if_pos hv]; omega
  · simp only [if_neg hv]; omega
theorem adjust_gen (lo hi : Option Int) (n : Nat) : Builtin.Slice.sliceAdjust lo hi 1 (n : Int) = (((sIx n 0 lo : Nat) : Int), ((sIx n n hi : Nat) : Int)) := by
  have h1 : ¬ ((1 : Int) < 0) := by omega
  unfold Builtin.Slice.sliceAdjust
  simp only [h1, if_false]
  refine Prod.ext ?_ ?_
  · cases lo with
    | none => rfl
    | some v => exact clip_eq v n 0
  · cases hi with
    | none => rfl
    | some v => exact clip_eq v n n
theorem places_gen (i j : Nat) : Builtin.Slice.slicePlaces (i : Int) (j : Int) 1 = j - i := by
  unfold Builtin.Slice.slicePlaces
  have h1 : (1 : Int) > 0 := by omega
  simp only [h1, if_true, Int.ediv_one]
  split <;> omega
theorem slicePart_ {v : Value} {o : Option Int} {Q : Option Int → Shared → Prop} (p : IsPart v o) (h : Q o s) : wpAny (model prog w) A (Builtin.Slice.slicePartIndex v) Q E s := by
  cases p with
  | none => exact slicePart_none h
  | int i t => exact slicePart_int h
theorem sliceApplied_gen {sl : Addr} {vl vu : Value} {lo hi : Option Int} {n : Nat} {Q : Int × Int × Nat → Shared → Prop} (hs : s.heap.IsSliceOf sl vl vu .none) (pl : IsPart vl lo) (pu : IsPart vu hi)
    (h : Q (((sIx n 0 lo : Nat) : Int), 1, sIx n n hi - sIx n 0 lo) s) : wpAny (model prog w) A (Builtin.Slice.sliceApplied (.ref sl) (pure (n : Int))) Q E s := by
  obtain ⟨os, hos, hcs, hds⟩ := id hs
  unfold Builtin.Slice.sliceApplied Builtin.Slice.sliceFields
  refine wpAny_bind (wpAny_bind (wpAny_field hos hds (x := vl) rfl (wpAny_bind (wpAny_field hos hds (x := vu) rfl (wpAny_bind (wpAny_field hos hds (x := .none) rfl (wpAny_pure ?_)))))))
  refine wpAny_bind (slicePart_none ?_)
  show wpAny _ _ (if ((1 : Int) == 0) = true then _ else _) _ _ s
  rw [if_neg (by decide)]
  refine wpAny_bind (slicePart_ pl (wpAny_bind (slicePart_ pu (wpAny_bind (wpAny_pure ?_)))))
  show wpAny _ _ (match Builtin.Slice.sliceAdjust lo hi 1 (n : Int) with | (lo, hi) => pure (lo, (1 : Int), Builtin.Slice.slicePlaces lo hi 1)) _ _ s
  rw [adjust_gen lo hi n]
  show wpAny _ _ (pure (((sIx n 0 lo : Nat) : Int), (1 : Int), Builtin.Slice.slicePlaces ((sIx n 0 lo : Nat) : Int) ((sIx n n hi : Nat) : Int) 1)) _ _ s
  rw [places_gen]
  exact wpAny_pure h
theorem pick_gen (xs : Array Value) (i k : Nat) : ((List.range k).filterMap fun (m : Nat) => xs[((i : Int) + (m : Int) * 1).toNat]?).toArray = ((xs.toList.drop i).take k).toArray := by
  have e : (fun (m : Nat) => xs[((i : Int) + (m : Int) * 1).toNat]?) = fun m => xs[i + m]? := by
    funext m
    have : ((i : Int) + (m : Int) * 1).toNat = i + m := by omega
    rw [this]
  rw [e]
  have := pick_run xs i k
  rw [List.filterMap_map] at this
  have e2 : ((fun x => xs[x]?) ∘ fun x => i + x) = fun m => xs[i + m]? := rfl
  rw [e2] at this
  rw [this]

theorem getItem_tuple_cut {t sl : Addr} {items : Array Value} {vl vu : Value} {lo hi : Option Int} {Q : Value → Shared → Prop} (ht : IsTup s.heap t items) (hs : s.heap.IsSliceOf sl vl vu .none) (pl : IsPart vl lo) (pu : IsPart vu hi)
    (hw : ¬ (sIx items.size 0 lo = 0 ∧ sIx items.size items.size hi = items.size))
    (h : Q (.ref s.heap.objs.size) { s with heap := s.heap.push { cls := .type "tuple", data := .seq ((items.toList.drop (sIx items.size 0 lo)).take (sIx items.size items.size hi - sIx items.size 0 lo)).toArray } })
    (hsz : items.size ≤ sizeLine) : wpAny (model prog w) A (getItem (.ref t) (.ref sl)) Q E s := by
  have htake : sizeOk (.seq ((items.toList.drop (sIx items.size 0 lo)).take (sIx items.size items.size hi - sIx items.size 0 lo)).toArray) := by
    show ((items.toList.drop (sIx items.size 0 lo)).take (sIx items.size items.size hi - sIx items.size 0 lo)).toArray.size ≤ sizeLine
    rw [List.size_toArray, List.length_take, List.length_drop, Array.length_toList]
    omega
  have hj : sIx items.size items.size hi ≤ items.size := sIx_le _ _ (Nat.le_refl _) hi
  obtain ⟨os, hos, hcs, hds⟩ := id hs
  have hTs : s.TypeIs (.ref sl) "slice" := ⟨os, hos, hcs⟩
  unfold getItem
  try with_reducible refine wpAny_holding ?_
  first | refine wpAny_bind (wpAny_pure ?_) | skip
  refine wpAny_bind (wpAny_sequenceKey ht.typeIs (by decide) ?_)
  refine wpAny_bind (wpAny_callSpecial?_slot (name := Str.ofString "__getitem__") ht.typeIs PyProof.Rows.slot_tuple_getitem
    (wpAny_call_entry PyProof.Rows.slot_tuple_getitem ht.typeIs entry_tuple_getitem ?_ (args_tuple_getitem _ _)))
  show wpAny _ _ (Builtin.Tuple.tupleItemsOf (.ref t) >>= _) _ _ s
  refine wpAny_bind (tupleItemsOf_ ht ?_)
  refine wpAny_bind (wpAny_typeOf hTs ?_)
  rw [if_pos (by decide)]
  refine wpAny_bind (sliceApplied_gen hs pl pu ?_)
  have hno : ¬ ((((sIx items.size 0 lo : Nat) : Int) == 0 && (1 : Int) == 1 && (sIx items.size items.size hi - sIx items.size 0 lo) == items.size) = true) := by
    intro q
    rw [Bool.and_eq_true, Bool.and_eq_true] at q
    have q1 : ((sIx items.size 0 lo : Nat) : Int) = 0 := eq_of_beq q.1.1
    have q2 : sIx items.size items.size hi - sIx items.size 0 lo = items.size := eq_of_beq q.2
    exact hw ⟨by omega, by omega⟩
  show wpAny _ _ (if (((sIx items.size 0 lo : Nat) : Int) == 0 && (1 : Int) == 1 && (sIx items.size items.size hi - sIx items.size 0 lo) == items.size) = true then _ else _) _ _ s
  rw [if_neg hno, pick_gen]
  first
    | exact wpAny_bind (m := Builtin.Tuple.tupleExact _) (wpAny_newObj_type (wpAny_pure ⟨_, rfl, wpAny_pure h⟩) htake)
    | exact wpAny_bind (m := Builtin.Tuple.tupleExact _) (wpAny_newObj_type (wpAny_bind (wpAny_pure (wpAny_pure ⟨_, rfl, wpAny_pure h⟩))) htake)
    | exact wpAny_bind (wpAny_bind (m := Builtin.Tuple.tupleExact _) (wpAny_newObj_type (wpAny_pure (wpAny_pure ⟨_, rfl, wpAny_pure h⟩)) htake))
    | exact wpAny_bind (wpAny_bind (m := Builtin.Tuple.tupleExact _) (wpAny_newObj_type (wpAny_pure ⟨_, rfl, wpAny_pure h⟩) htake))
end
end HT

namespace L2
open PySem PySem.Spec PyProof.Rows

/-! ### the parts of a slice -/
abbrev TO := St → Hp → (Option Int → Hp → Prop) → Prop
/-- a slice's part (left out, or an int) -/
def PO (X : Cx) (e : Option Expr) (t : TO) : Prop :=
  ∀ (pins : List (Addr × Obj)) (s : Shared) (σ : St) (H : Hp) (Q : Option Int → Hp → Prop), Inv X pins σ H s → t σ H Q →
    wpAny (model X.prog X.w) X.A (evalPart e X.env) (fun u s' => ∃ o H', Inv X pins σ H' s' ∧ IsPart u o ∧ Q o H') X.xe s
def tNoPart : TO := fun _ H Q => Q none H
def tPart (t : TE) : TO := fun σ H Q => t σ H fun x H1 => ∃ i, x = .int i ∧ Q (some i) H1


section
variable {X : Cx} {e : Expr} {te : TE} {lo hi : Option Expr} {tl th : TO} {pos p2 : Pos}

theorem po_none : PO X none tNoPart := by
  intro pins s σ H Q I h
  rw [evalPart_none]
  exact wpAny_pure ⟨none, H, I, .none, h⟩
theorem po_some (h : PE X e te) : PO X (some e) (tPart te) := by
  intro pins s σ H Q I hw
  rw [evalPart_some]
  refine thn (h pins s σ H _ I hw) fun u s1 ⟨x, H1, I1, r1, q1⟩ => ?_
  obtain ⟨i, rfl, q⟩ := q1
  obtain ⟨t, rfl⟩ := r1
  exact ⟨some i, H1, I1, .int i t, q⟩

/-- what a slice of a value is, by values: the slice object stands at sl -/
def SlR (X : Cx) (r : V → Option Int → Option Int → Hp → VK → Prop) : Prop :=
  ∀ (pins : List (Addr × Obj)) (s : Shared) (σ : St) (H : Hp) (x : V) (v vl vu : Value) (lo hi : Option Int) (sl : Addr) (Q : VK), Inv X pins σ H s → RelV x v → s.heap.IsSliceOf sl vl vu .none → IsPart vl lo → IsPart vu hi → r x lo hi H Q →
    ∃ T id, typeLookup (.type T) "__getitem__" = pure (some (.builtin id)) ∧ s.TypeIs v T ∧ wpAny (model X.prog X.w) X.A (getItem v (.ref sl)) (EP X pins σ Q) X.xe s
def tSl (r : V → Option Int → Option Int → Hp → VK → Prop) (te : TE) (tl th : TO) : TE := fun σ H Q => te σ H fun x H1 => tl σ H1 fun l H2 => th σ H2 fun u H3 => r x l u H3 Q
/-- a[lo:hi], any a -/
theorem pe_slice {r : V → Option Int → Option Int → Hp → VK → Prop} (hr : SlR X r) (he : PE X e te) (hl : PO X lo tl) (hu : PO X hi th) : PE X (.Subscript e (.Slice lo hi none p2) pos) (tSl r te tl th) := by
  intro pins s σ H Q I h
  refine Subscript_ (thn (he pins s σ H _ I h) fun v s1 ⟨x, H1, I1, r1, q1⟩ => ?_)
  refine wpAny_Slice (thn (hl pins s1 σ H1 _ I1 q1) fun vl s2 ⟨l, H2, I2, pl, q2⟩ => thn (hu pins s2 σ H2 _ I2 q2) fun vu s3 ⟨u, H3, I3, pu, q3⟩ => ?_)
  rw [evalPart_none]
  refine wpAny_pure ?_
  have I4 : Inv X pins σ H3 { s3 with heap := s3.heap.push { cls := .type "slice", data := .fields #[vl, vu, .none] } } := I3.kept (t' := s3.toks) fun b ob q => Heap.get?_push_of_some _ q
  obtain ⟨T, id, hT, ht, hg⟩ := hr pins { s3 with heap := s3.heap.push { cls := .type "slice", data := .fields #[vl, vu, .none] } } σ H3 x v vl vu l u s3.heap.objs.size Q I4 r1 (Heap.IsSliceOf.new ..) pl pu q3
  show wpAny (model X.prog X.w) X.A (subscriptTail e (.Slice lo hi none p2) v (.ref s3.heap.objs.size)) (EP X pins σ Q) X.xe { s3 with heap := s3.heap.push { cls := .type "slice", data := .fields #[vl, vu, .none] } }
  exact tail_any (ops := [.ref s3.heap.objs.size, v]) ht hT hg (by with_unfolding_all rfl)

/-- the items of xs[lo:hi] -/
def cutV (xs : List V) (lo hi : Option Int) : List V := (xs.drop (HT.sIx xs.length 0 lo)).take (HT.sIx xs.length xs.length hi - HT.sIx xs.length 0 lo)
theorem cutV_length (xs : List V) (lo hi : Option Int) : (cutV xs lo hi).length ≤ xs.length := by
  unfold cutV
  rw [List.length_take, List.length_drop]
  omega
/-- t[lo:hi], not the whole of it (the whole would be t itself) -/
def rSlT (K : PySem.W.Frag) : V → Option Int → Option Int → Hp → VK → Prop := fun x lo hi H Q => ∃ a xs, x = .ref a ∧ SqT K H a xs ∧
  ¬ (HT.sIx xs.length 0 lo = 0 ∧ HT.sIx xs.length xs.length hi = xs.length) ∧ ∀ p, H p = none → Q (.ref p) (upd H p (.tup (cutV xs lo hi)))
theorem sl_tup : SlR X (rSlT X.K) := by
  intro pins s σ H x v vl vu lo hi sl Q I rx hs pl pu h
  obtain ⟨a, xs, rfl, hx, hw, q⟩ := h
  cases rx
  obtain ⟨its, r, ht, hz⟩ := I.tuple hx
  have hlen : its.toArray.size = xs.length := by rw [List.size_toArray]; exact r.length.symm
  refine ⟨"tuple", _, PyProof.Rows.slot_tuple_getitem.lookup, ht.typeIs, ?_⟩
  refine HT.getItem_tuple_cut ht hs pl pu (by rw [hlen]; exact hw) ?_ (by rw [hlen]; exact hz)
  rw [hlen]
  refine ⟨.ref s.heap.objs.size, _, I.laid (t' := s.toks) (o := .tup (cutV xs lo hi)) (fun b ob q => Heap.get?_push_of_some _ q) (Nat.le_refl _) ?_, rfl, q _ (I.hok.fresh (Nat.le_refl _))⟩
  exact ⟨Nat.le_trans (cutV_length xs lo hi) hz, _, (r.drop (HT.sIx xs.length 0 lo)).take (HT.sIx xs.length xs.length hi - HT.sIx xs.length 0 lo), IsTup.new _ _⟩

/-! ### t < u, t + u -/
end
end L2

namespace L2
open PySem PySem.Spec PyProof.Rows

/-! ### places -/
/-- the place that an index of any sign means -/
def ixN (n : Nat) (i : Int) : Option Nat := if 0 ≤ i then (if i < n then some i.toNat else none) else if -(n : Int) ≤ i then some (i + n).toNat else none
def atI {α : Type} (xs : List α) (i : Int) : Option α := (ixN xs.length i).bind fun j => xs[j]?
theorem ixN_seq {n : Nat} {i : Int} {j : Nat} (h : ixN n i = some j) : seqIndex? i n = some j ∧ j < n ∧ -(n : Int) ≤ i ∧ i < n := by
  unfold ixN at h
  by_cases h0 : 0 ≤ i
  · rw [if_pos h0] at h
    by_cases h1 : i < n
    · rw [if_pos h1] at h
      have e : i.toNat = j := Option.some.inj h
      exact ⟨by rw [seqIndex_of h0 h1, e], by omega, by omega, h1⟩
    · rw [if_neg h1] at h; cases h
  · rw [if_neg h0] at h
    by_cases h1 : -(n : Int) ≤ i
    · rw [if_pos h1] at h
      have e : (i + n).toNat = j := Option.some.inj h
      exact ⟨by rw [seqIndex_neg (by omega) h1, e], by omega, h1, by omega⟩
    · rw [if_neg h1] at h; cases h
theorem atI_get {α : Type} {xs : List α} {i : Int} {v : α} (h : atI xs i = some v) : ∃ j, seqIndex? i xs.length = some j ∧ xs[j]? = some v ∧ j < xs.length ∧ -(xs.length : Int) ≤ i ∧ i < xs.length := by
  unfold atI at h
  cases e : ixN xs.length i with
  | none => rw [e] at h; cases h
  | some j =>
    rw [e] at h
    obtain ⟨h1, h2, h3, h4⟩ := ixN_seq e
    exact ⟨j, h1, h, h2, h3, h4⟩
theorem atI_nat {α : Type} {xs : List α} {j : Nat} {v : α} (h : xs[j]? = some v) : atI xs (j : Int) = some v := by
  have hj : j < xs.length := (List.getElem?_eq_some_iff.mp h).1
  have e : ixN xs.length (j : Int) = some j := by
    unfold ixN
    rw [if_pos (by omega), if_pos (by omega)]; simp
  unfold atI; rw [e]; exact h

/-! ### what may be subscripted -/
/-- what stands as an index of a plain subscript -/
def PlainIx (b : Expr) : Prop := ∀ o i, subscripted b false o i = operate [o, i] (getItem o i)
/-- a subscript by values -/
def IxR (X : Cx) (r : R2) : Prop :=
  ∀ (value slice : Expr) (pins : List (Addr × Obj)) (s : Shared) (σ : St) (H : Hp) (x y : V) (v u : Value) (Q : VK), Inv X pins σ H s → RelV x v → RelV y u → r x y H Q →
    subscripted slice false v u = operate [v, u] (getItem v u) → wpAny (model X.prog X.w) X.A (subscriptTail value slice v u) (EP X pins σ Q) X.xe s
/-- a call of a builtin's method by values: the receiver, the arguments -/
def MtR (X : Cx) (id : String) (r : V → List V → Hp → VK → Prop) : Prop :=
  ∀ (pins : List (Addr × Obj)) (s : Shared) (σ : St) (H : Hp) (x : V) (xs : List V) (v : Value) (us : List Value) (Q : VK), Inv X pins σ H s → RelV x v → Vals xs us → r x xs H Q →
    wpAny (model X.prog X.w) X.A (call (.builtin id) (v :: us)) (EP X pins σ Q) X.xe s
section
variable {X : Cx} {a b : Expr} {ta tb : TE} {pos : Pos}
/-- a[b] -/
theorem pe_ix {r : R2} (hr : IxR X r) (ha : PE X a ta) (hb : PE X b tb) (hs : PlainIx b) : PE X (.Subscript a b pos) (tOp r ta tb) := by
  intro pins s σ H Q I h
  exact Subscript_ (binT ha hb I h fun v u s2 x y H2 I2 rx ry q => hr a b pins s2 σ H2 x y v u Q I2 rx ry q (hs _ _))

def rIxL (K : PySem.W.Frag) : R2 := fun x y H Q => ∃ p xs i v, x = .ref p ∧ y = .int i ∧ SqL K H p xs ∧ atI xs i = some v ∧ Q v H
def rIxT (K : PySem.W.Frag) : R2 := fun x y H Q => ∃ p xs i v, x = .ref p ∧ y = .int i ∧ SqT K H p xs ∧ atI xs i = some v ∧ Q v H
def rIxS : R2 := fun x y H Q => ∃ z i c, x = .str z ∧ y = .int i ∧ z.length ≤ sizeLine ∧ atI z.cps.toList i = some c ∧ Q (.str ⟨#[c]⟩) H
theorem ix_list : IxR X (rIxL X.K) := by
  intro value slice pins s σ H x y v u Q I rx ry h hs
  obtain ⟨p, xs, i, z, rfl, rfl, hq, he, q⟩ := h
  cases rx
  obtain ⟨t, rfl⟩ := ry
  obtain ⟨its, r, pl, hz⟩ := I.list hq
  obtain ⟨j, h1, h2, h3, h4, h5⟩ := atI_get he
  obtain ⟨w, ew, rw'⟩ := r.get h2
  have hl := r.length
  have hn := line63
  have fin : EP X pins σ Q w s := ⟨z, H, I, rw', q⟩
  by_cases h0 : 0 ≤ i
  · have hj : i.toNat = j := by
      rw [seqIndex_of h0 h5] at h1
      exact Option.some.inj h1
    exact item_listR pl.isList h0 (by omega) (by rw [hj]; simpa using ew) fin hs
  · have hj : (i + (its.toArray.size : Int)).toNat = j := by
      rw [seqIndex_neg (by omega) h4] at h1
      rw [List.size_toArray, ← hl]
      exact Option.some.inj h1
    exact subscriptTail_builtinR (x := w) pl.isList.typeIs slot_list_getitem.lookup
      (wpAny_getItem_list_neg (Q := fun r s' => r = w ∧ EP X pins σ Q r s') pl.isList (by omega) (by rw [List.size_toArray] <;> omega) (by omega) (by rw [hj]; simpa using ew) ⟨rfl, fin⟩) hs
theorem ix_tup : IxR X (rIxT X.K) := by
  intro value slice pins s σ H x y v u Q I rx ry h hs
  obtain ⟨p, xs, i, z, rfl, rfl, hq, he, q⟩ := h
  cases rx
  obtain ⟨t, rfl⟩ := ry
  obtain ⟨its, r, pl, hz⟩ := I.tuple hq
  obtain ⟨j, h1, h2, h3, h4, h5⟩ := atI_get he
  obtain ⟨w, ew, rw'⟩ := r.get h2
  have hl := r.length
  have hn := line63
  have fin : EP X pins σ Q w s := ⟨z, H, I, rw', q⟩
  exact subscriptTail_builtinR (x := w) pl.typeIs slot_tuple_getitem.lookup
    (getItem_tuple (j := j) (Q := fun r s' => r = w ∧ EP X pins σ Q r s') pl (by omega) (by omega) (by rw [List.size_toArray, ← hl]; exact h1) (by simpa using ew) ⟨rfl, fin⟩) hs
theorem ix_str : IxR X rIxS := by
  intro value slice pins s σ H x y v u Q I rx ry h hs
  obtain ⟨z, i, c, rfl, rfl, hz, he, q⟩ := h
  obtain ⟨t, rfl⟩ := rx
  obtain ⟨t', rfl⟩ := ry
  obtain ⟨j, h1, h2, h3, h4, h5⟩ := atI_get he
  have hl : z.cps.toList.length = z.length := by simp [Str.length]
  rw [hl] at h1 h4 h5
  have hn := line63
  exact tail_any (typeIs_str s z t) slot_str_getitem.lookup (getItem_str (c := c) (by
    have e1 : decide (i < -(2 ^ 63 : Int)) = false := decide_eq_false (by omega)
    have e2 : decide (i ≥ 2 ^ 63) = false := decide_eq_false (by omega)
    rw [e1, e2, Bool.or_false]) (by rw [h1]; simpa using h2) ⟨.str ⟨#[c]⟩, H, I.tok _, ⟨_, rfl⟩, q⟩) hs

/-! ### xs[i] = v, any sign -/

/-! ### slices -/
theorem slice_bounds (lo hi : Option Int) (n : Nat) : (sliceBounds lo hi none n).1 = ((HT.sIx n 0 lo : Nat) : Int) ∧ (sliceBounds lo hi none n).2.1 = ((HT.sIx n n hi : Nat) : Int) ∧ (sliceBounds lo hi none n).2.2 = 1 := by
  refine ⟨?_, ?_, rfl⟩
  · cases lo with
    | none => simp [sliceBounds, HT.sIx]
    | some i =>
      simp only [sliceBounds, HT.sIx, Option.getD_none, show (1 : Int) > 0 by decide, if_true]
      by_cases h : i < 0
      · simp only [h, if_true] <;> omega
      · simp only [h, if_false] <;> omega
  · cases hi with
    | none => simp [sliceBounds, HT.sIx]
    | some i =>
      simp only [sliceBounds, HT.sIx, Option.getD_none, show (1 : Int) > 0 by decide, if_true]
      by_cases h : i < 0
      · simp only [h, if_true] <;> omega
      · simp only [h, if_false] <;> omega
theorem slicePick_cut (its : List Value) (lo hi : Option Int) : slicePick its.toArray lo hi none = ((its.drop (HT.sIx its.length 0 lo)).take (HT.sIx its.length its.length hi - HT.sIx its.length 0 lo)).toArray := by
  obtain ⟨h1, h2, h3⟩ := slice_bounds lo hi its.toArray.size
  unfold slicePick
  rw [h1, h2, h3]
  simp only [sliceRange_one, pick_run, List.size_toArray] <;> rfl
/-- xs[lo:hi] of a list: a new list -/
def rSlL (K : PySem.W.Frag) : V → Option Int → Option Int → Hp → VK → Prop := fun x lo hi H Q => ∃ a xs, x = .ref a ∧ SqL K H a xs ∧ ∀ p, H p = none → Q (.ref p) (upd H p (.lst (cutV xs lo hi)))
theorem sl_list : SlR X (rSlL X.K) := by
  intro pins s σ H x v vl vu lo hi sl Q I rx hs pl pu h
  obtain ⟨a, xs, rfl, hx, q⟩ := h
  cases rx
  obtain ⟨its, r, ht, hz⟩ := I.list hx
  have hlen := r.length
  refine ⟨"list", _, slot_list_getitem.lookup, ht.isList.typeIs, ?_⟩
  refine wpAny_getItem_list_slice ht.isList hs pl pu .none (by simp) ?_ (by rw [List.size_toArray] <;> omega)
  rw [slicePick_cut, ← hlen]
  refine ⟨.ref s.heap.objs.size, _, I.laid (t' := s.toks) (o := .lst (cutV xs lo hi)) (fun b ob q => Heap.get?_push_of_some _ q) (Nat.le_refl _) ?_, rfl, q _ (I.hok.fresh (Nat.le_refl _))⟩
  exact ⟨Nat.le_trans (cutV_length xs lo hi) hz, _, 0, (r.drop (HT.sIx xs.length 0 lo)).take (HT.sIx xs.length xs.length hi - HT.sIx xs.length 0 lo), Heap.get?_push_size _ rfl⟩

/-! ### in, not in: flat items -/
def flatV : V → Bool
  | .non => true
  | .bl _ => true
  | .int _ => true
  | .str _ => true
  | _ => false
/-- == of flat values -/
def eqV : V → V → Bool
  | .non, .non => true
  | .bl a, .bl b => a == b
  | .bl a, .int b => (if a then 1 else 0) == b
  | .int a, .bl b => a == (if b then 1 else 0)
  | .int a, .int b => a == b
  | .str a, .str b => a == b
  | _, _ => false
theorem eqAt_V {A : Around} {s : Shared} {y x : V} {u v : Value} (ry : RelV y u) (rx : RelV x v) (fy : flatV y = true) (fx : flatV x = true) : SeqAt.EqAt A s u v (eqV y x) := by
  cases y with
  | non =>
    cases ry
    cases x with
    | non => cases rx; exact SeqAt.EqAt.same _
    | bl b => cases rx; exact SeqAt.EqAt.none_bool b
    | int b => obtain ⟨t, rfl⟩ := rx; exact SeqAt.EqAt.none_int b t
    | str b => obtain ⟨t, rfl⟩ := rx; exact SeqAt.EqAt.none_str b t
    | _ => exact absurd (show false = true from fx) Bool.false_ne_true
  | bl a =>
    cases ry
    cases x with
    | non => cases rx; exact SeqAt.EqAt.bool_none a
    | bl b => cases rx; exact SeqAt.EqAt.bool_bool a b
    | int b => obtain ⟨t, rfl⟩ := rx; exact SeqAt.EqAt.bool_int a b t
    | str b => obtain ⟨t, rfl⟩ := rx; exact SeqAt.EqAt.bool_str a b t
    | _ => exact absurd (show false = true from fx) Bool.false_ne_true
  | int a =>
    obtain ⟨t', rfl⟩ := ry
    cases x with
    | non => cases rx; exact SeqAt.EqAt.int_none a t'
    | bl b => cases rx; exact SeqAt.EqAt.int_bool a t' b
    | int b => obtain ⟨t, rfl⟩ := rx; exact SeqAt.EqAt.int_int a t' b t
    | str b => obtain ⟨t, rfl⟩ := rx; exact SeqAt.EqAt.int_str a t' b t
    | _ => exact absurd (show false = true from fx) Bool.false_ne_true
  | str a =>
    obtain ⟨t', rfl⟩ := ry
    cases x with
    | non => cases rx; exact SeqAt.EqAt.str_none a t'
    | bl b => cases rx; exact SeqAt.EqAt.str_bool a t' b
    | int b => obtain ⟨t, rfl⟩ := rx; exact SeqAt.EqAt.str_int a t' b t
    | str b => obtain ⟨t, rfl⟩ := rx; exact SeqAt.EqAt.str_str a t' b t
    | _ => exact absurd (show false = true from fx) Bool.false_ne_true
  | _ => exact absurd (show false = true from fy) Bool.false_ne_true
/-- the items' answers, read off the values (a value's own answer does not lean on its token) -/
def eqU (x : V) (u : Value) : Bool := match u with
  | .none => eqV .non x
  | .bool b => eqV (.bl b) x
  | .int i _ => eqV (.int i) x
  | .str z _ => eqV (.str z) x
  | _ => false
theorem eqU_of {x y : V} {u : Value} (r : RelV y u) (f : flatV y = true) : eqU x u = eqV y x := by
  cases y with
  | non => cases r; rfl
  | bl b => cases r; rfl
  | int i => obtain ⟨t, rfl⟩ := r; rfl
  | str z => obtain ⟨t, rfl⟩ := r; rfl
  | _ => exact absurd (show false = true from f) Bool.false_ne_true
theorem any_eqU {x : V} : ∀ {xs : List V} {us : List Value}, Vals xs us → xs.all flatV = true → us.any (eqU x) = xs.any fun y => eqV y x
  | _, _, .nil, _ => rfl
  | y :: xs, u :: us, .cons r t, f => by
    rw [List.all_cons, Bool.and_eq_true] at f
    rw [List.any_cons, List.any_cons, eqU_of r f.1, any_eqU t f.2]
theorem mem_eqAt {A : Around} {s : Shared} {x : V} {v : Value} (rx : RelV x v) (fx : flatV x = true) : ∀ {xs : List V} {us : List Value}, Vals xs us → xs.all flatV = true → ∀ u ∈ us, SeqAt.EqAt A s u v (eqU x u)
  | _, _, .nil, _ => fun u hu => by cases hu
  | y :: xs, u :: us, .cons r t, f => fun u' hu => by
    rw [List.all_cons, Bool.and_eq_true] at f
    rcases List.mem_cons.mp hu with rfl | hu
    · rw [eqU_of r f.1]; exact eqAt_V r rx f.1 fx
    · exact mem_eqAt rx fx t f.2 u' hu
def inV (x : V) (xs : List V) : Bool := xs.any fun y => eqV y x
/-- x in a list or tuple of flat items -/
def rIn (K : PySem.W.Frag) (neg : Bool) : R2 := fun x y H Q => ∃ p xs, y = .ref p ∧ (SqL K H p xs ∨ SqT K H p xs) ∧ flatV x = true ∧ xs.all flatV = true ∧ Q (.bl (if neg then !inV x xs else inV x xs)) H
theorem op_in_seq : OpR X (compareOp .In) (rIn X.K false) := by
  intro pins s σ H x y v u Q I rx ry h
  obtain ⟨p, xs, rfl, hq, fx, fs, q⟩ := h
  cases ry
  rcases hq with hq | hq
  · obtain ⟨its, r, pl, hz⟩ := I.list hq
    refine SeqAt.in_listAt (eqU x) pl.isList (fun w hw => mem_eqAt rx fx r fs w (by simpa using hw)) ⟨.bl _, H, I, rfl, ?_⟩
    rw [show its.toArray.any (eqU x) = its.any (eqU x) by simp, any_eqU r fs]
    exact q
  · obtain ⟨its, r, pl, hz⟩ := I.tuple hq
    refine SeqAt.in_tupleAt (eqU x) pl (fun w hw => mem_eqAt rx fx r fs w (by simpa using hw)) ⟨.bl _, H, I, rfl, ?_⟩
    rw [show its.toArray.any (eqU x) = its.any (eqU x) by simp, any_eqU r fs]
    exact q

/-! ### len, list(x), tuple(x) of any list or tuple that is read -/
theorem call_len_seq : CallR X (.builtin "len") (fun xs H Q => ∃ p ys, xs = [.ref p] ∧ (SqL X.K H p ys ∨ SqT X.K H p ys) ∧ Q (.int ys.length) H) := by
  intro pins s σ H xs us Q I r h
  obtain ⟨p, ys, rfl, hq, q⟩ := h
  obtain ⟨u, rfl, rx⟩ := vals1 r
  cases rx
  have hn := line63
  rcases hq with hq | hq
  · obtain ⟨its, r', pl, hz⟩ := I.list hq
    have hlen := r'.length
    exact Calls.call_len_list pl.isList (by simp only [List.size_toArray] <;> omega) ⟨.int ys.length, H, I.tok _, ⟨s.toks + 1, by rw [List.size_toArray, hlen]⟩, q⟩
  · obtain ⟨its, r', pl, hz⟩ := I.tuple hq
    have hlen := r'.length
    exact len_tuple pl (by simp only [List.size_toArray] <;> omega) ⟨.int ys.length, H, I.tok _, ⟨s.toks + 1, by rw [List.size_toArray, hlen]⟩, q⟩
theorem call_list_of : CallR X (.type "list") (fun xs H Q => ∃ p ys, xs = [.ref p] ∧ (SqL X.K H p ys ∨ SqT X.K H p ys) ∧ ∀ l, H l = none → Q (.ref l) (upd H l (.lst ys))) := by
  intro pins s σ H xs us Q I r h
  obtain ⟨p, ys, rfl, hq, q⟩ := h
  obtain ⟨u, rfl, rx⟩ := vals1 r
  cases rx
  have fin : ∀ (its : List Value), Vals ys its → ys.length ≤ sizeLine → ∀ (h' : Heap) (c' : Nat), (∀ b o', s.heap.get? b = some o' → h'.get? b = some o') →
      h'.get? s.heap.objs.size = some { cls := .type "list", dict := none, data := .seq its.toArray c', slots := #[] } → EP X pins σ Q (.ref s.heap.objs.size) { s with heap := h' } := fun its r' hz h' c' kp e =>
    ⟨.ref s.heap.objs.size, _, I.laid (t' := s.toks) kp (Nat.le_refl _) (show ObjOk X.prog X.w _ h' _ (.lst ys) from ⟨hz, its, c', r', e⟩), rfl, q _ (I.hok.fresh (Nat.le_refl _))⟩
  rcases hq with hq | hq
  · obtain ⟨its, r', pl, hz⟩ := I.list hq
    have hlen := r'.length
    obtain ⟨o, ho, hc, n, hd⟩ := pl.isList
    exact call_list_seq p (.inl rfl) ho hc hd (fun h' c' kp e => fin its r' hz h' c' kp e) (by simp only [List.size_toArray] <;> omega)
  · obtain ⟨its, r', pl, hz⟩ := I.tuple hq
    have hlen := r'.length
    obtain ⟨o, ho, hc, n, hd⟩ := pl
    exact call_list_seq p (.inr rfl) ho hc hd (fun h' c' kp e => fin its r' hz h' c' kp e) (by simp only [List.size_toArray] <;> omega)
theorem call_tuple_of : CallR X (.type "tuple") (fun xs H Q => ∃ p ys, xs = [.ref p] ∧ ((SqL X.K H p ys ∧ ∀ l, H l = none → Q (.ref l) (upd H l (.tup ys))) ∨ (SqT X.K H p ys ∧ Q (.ref p) H))) := by
  intro pins s σ H xs us Q I r h
  obtain ⟨p, ys, rfl, h⟩ := h
  obtain ⟨u, rfl, rx⟩ := vals1 r
  cases rx
  rcases h with ⟨hq, q⟩ | ⟨hq, q⟩
  · obtain ⟨its, r', pl, hz⟩ := I.list hq
    have hlen := r'.length
    refine call_tuple_list pl.isList (fun h' kp => ?_) (by simp only [List.size_toArray] <;> omega)
    have I1 : Inv X pins σ H { s with heap := h' } := I.kept (t' := s.toks) kp
    have I2 : Inv X pins σ (upd H h'.objs.size (.tup ys)) { s with heap := h'.push { cls := .type "tuple", data := .seq its.toArray } } :=
      I1.laid (t' := s.toks) (fun b o e => Heap.get?_push_of_some _ e) (Nat.le_refl _) (show ObjOk X.prog X.w _ _ _ (.tup ys) from ⟨hz, its, r', IsTup.new _ _⟩)
    exact ⟨.ref h'.objs.size, _, I2, rfl, q _ (I1.hok.fresh (Nat.le_refl _))⟩
  · obtain ⟨its, r', pl, hz⟩ := I.tuple hq
    exact call_tuple_same pl ⟨.ref p, H, I, rfl, q⟩

/-! ### the call of a builtin's method: o.m(..) -/
/-- the value is of that builtin type -/
def tyV (K : PySem.W.Frag) (T : String) (x : V) (H : Hp) : Prop := match x with
  | .str _ => T = "str"
  | .int _ => T = "int"
  | .ref p => (T = "list" ∧ ∃ xs, SqL K H p xs) ∨ (T = "tuple" ∧ ∃ o, K.lookup p = some o ∧ o.cls = .type "tuple" ∧ o.dict = none) ∨
      (T = "dict" ∧ ((∃ kvs, H p = some (.dK kvs)) ∨ ∃ kvs, H p = some (.dT kvs))) ∨ (T = "set" ∧ ∃ S n, H p = some (.set S n))
  | _ => False
theorem tyV_is {pins : List (Addr × Obj)} {σ : St} {H : Hp} {s : Shared} {T : String} {x : V} {v : Value} (I : Inv X pins σ H s) (r : RelV x v) (ty : tyV X.K T x H) :
    s.TypeIs v T ∧ ∀ a, v = .ref a → ∃ ob, s.heap.get? a = some ob ∧ ob.dict = none := by
  cases x with
  | str z =>
    obtain ⟨t, rfl⟩ := r
    cases (show T = "str" from ty)
    exact ⟨typeIs_str s z t, fun _ e => nomatch e⟩
  | int i =>
    obtain ⟨t, rfl⟩ := r
    cases (show T = "int" from ty)
    exact ⟨typeIs_int s i t, fun _ e => nomatch e⟩
  | ref p =>
    cases r
    rcases ty with ⟨rfl, xs, hq⟩ | ⟨rfl, o, hk, hc, hd⟩ | ⟨rfl, hk⟩ | ⟨rfl, S, n, hk⟩
    · obtain ⟨its, _, pl, _⟩ := I.list hq
      refine ⟨pl.isList.typeIs, fun a e => ?_⟩
      cases e
      obtain ⟨o, n, e, c, hd, _⟩ := pl
      exact ⟨o, e, hd⟩
    · refine ⟨⟨o, I.kIn p o hk, hc⟩, fun a e => ?_⟩
      cases e
      exact ⟨o, I.kIn _ o hk, hd⟩
    · have z : ∃ o, s.heap.get? p = some o ∧ o.ExactDict := by
        rcases hk with ⟨kvs, hk⟩ | ⟨kvs, hk⟩
        · obtain ⟨_, _, _, _, o, _, _, e, ex, _⟩ := I.hok p _ hk
          exact ⟨o, e, ex⟩
        · obtain ⟨_, _, _, _, o, _, _, e, ex, _⟩ := I.hok p _ hk
          exact ⟨o, e, ex⟩
      obtain ⟨o, e, ex⟩ := z
      refine ⟨⟨o, e, ex.1⟩, fun a e2 => ?_⟩
      cases e2
      exact ⟨o, e, ex.2.1⟩
    · obtain ⟨o, _, _, _, e, ex, _⟩ := I.hok p _ hk
      refine ⟨⟨o, e, ex.1⟩, fun a e2 => ?_⟩
      cases e2
      exact ⟨o, e, ex.2.1⟩
  | _ => exact False.elim ty
def tBM0 (K : PySem.W.Frag) (T : String) (r : V → List V → Hp → VK → Prop) (to : TE) : TE := fun σ H Q => to σ H fun x H1 => tyV K T x H1 ∧ r x [] H1 Q
def tBM (K : PySem.W.Frag) (T : String) (r : V → List V → Hp → VK → Prop) (to : TE) (t : TA) : TE := fun σ H Q => to σ H fun x H1 => tyV K T x H1 ∧ t σ H1 fun xs H2 => r x xs H2 Q
variable {o e : Expr} {es : List Expr} {to : TE} {t : TA} {name : Str} {apos cpos : Pos} {T id : String} {r : V → List V → Hp → VK → Prop}
theorem pe_bm0 (pa : PlainAttrs T) (slot : Slot T name id) (hty : typeOf (.builtin id) = pure (.type "method_descriptor")) (hm : MtR X id r) (ho : PE X o to)
    (hbase : attributeBase o name X.env (eval o X.env) = eval o X.env := by rfl) (hline : (apos.endLine == cpos.line) = true := by rfl) : PE X (.Call (.Attribute o name apos) [] [] cpos) (tBM0 X.K T r to) := by
  intro pins s σ H Q I h
  refine wpAny_Call_method0_late hbase hline (thn (ho pins s σ H _ I h) fun v s1 ⟨x, H1, I1, r1, ty, q1⟩ => ?_)
  obtain ⟨h1, h2⟩ := tyV_is I1 r1 ty
  exact ⟨T, id, pa, slot, hty, h1, h2, Calls.callWith_builtin rfl (PySem.evalArgs_none (hm pins s1 σ H1 x [] v [] Q I1 r1 .nil q1))⟩
theorem pe_bm (pa : PlainAttrs T) (slot : Slot T name id) (hty : typeOf (.builtin id) = pure (.type "method_descriptor")) (hm : MtR X id r) (ho : PE X o to) (ha : PA X (e :: es) t)
    (hbase : attributeBase o name X.env (eval o X.env) = eval o X.env := by rfl)
    (hfew : ((backTo cpos (starEach (e :: es) X.env)).all (fun x => !x.1) && (backToKw cpos (keywordEach [] X.env)).all (fun x => x.1.isSome)
      && decide ((e :: es).length + ([] : List Keyword).length + (if ([] : List Keyword).isEmpty then 0 else 1) < 30)) = true := by rfl)
    (hline : (apos.endLine == cpos.line) = true := by rfl) (hs : starEach (e :: es) X.env = (false, eval e X.env) :: starEach es X.env := by rfl) (hplain : (backTo cpos (starEach es X.env)).any (·.1) = false := by rfl) :
    PE X (.Call (.Attribute o name apos) (e :: es) [] cpos) (tBM X.K T r to t) := by
  intro pins s σ H Q I h
  refine wpAny_Call_method_late hbase hfew hline rfl (thn (ho pins s σ H _ I h) fun v s1 ⟨x, H1, I1, r1, ty, q1⟩ => ?_)
  obtain ⟨h1, h2⟩ := tyV_is I1 r1 ty
  refine ⟨T, id, pa, slot, hty, h1, h2, ?_⟩
  have hA := ha cpos pins s1 σ H1 _ I1 q1
  rw [hs] at hA ⊢
  refine Calls.callWith_builtin (by show (false || (backTo cpos (starEach es X.env)).any (·.1)) = false; rw [hplain] <;> rfl) (Calls.evalArgs_plain ?_)
  exact thn hA fun us s2 ⟨vs, H2, I2, r2, q2⟩ => hm pins s2 σ H2 x vs v us Q I2 r1 r2 q2
/- xs.append(e), list.index on a module's tuple .. are MtR facts of 06m -/
end
end L2

namespace L2
open PySem PySem.Spec PyProof.Rows

def MtM (X : Cx) (id : String) (r : V → List V → Hp → VK → Prop) : Prop :=
  ∀ (pins : List (Addr × Obj)) (s : Shared) (σ : St) (H : Hp) (x : V) (xs : List V) (v : Value) (us : List Value) (Q : VK), Inv X pins σ H s → RelV x v → Vals xs us → r x xs H Q →
    wpAny (model X.prog X.w) X.A (call (.builtin id) (v :: us)) (EP X pins σ Q) X.xe s

/-! ### lists of values -/
theorem Vals.one : ∀ {x : V} {us : List Value}, Vals [x] us → ∃ u, us = [u] ∧ RelV x u
  | _, _, .cons r .nil => ⟨_, rfl, r⟩
theorem Vals.zero : ∀ {us : List Value}, Vals [] us → us = []
  | _, .nil => rfl
theorem Vals.dropLast {xs : List V} {us : List Value} (h : Vals xs us) : Vals xs.dropLast us.dropLast := by
  induction h with
  | nil => exact .nil
  | cons r t ih =>
    cases t with
    | nil => exact .nil
    | cons q t' => exact .cons r ih
theorem Vals.reverse {xs : List V} {us : List Value} (h : Vals xs us) : Vals xs.reverse us.reverse := by
  induction h with
  | nil => exact .nil
  | cons r t ih => rw [List.reverse_cons, List.reverse_cons]; exact Vals.append ih (.cons r .nil)
theorem erase_last {α : Type} (l : List α) : l.eraseIdx (l.length - 1) = l.dropLast := by
  induction l with
  | nil => rfl
  | cons a r ih =>
    cases r with
    | nil => rfl
    | cons b r =>
      have e : (a :: b :: r).length - 1 = ((b :: r).length - 1) + 1 := by
        have h1 : (a :: b :: r).length = r.length + 2 := rfl
        have h2 : (b :: r).length = r.length + 1 := rfl
        omega
      rw [e, List.eraseIdx_cons_succ, ih]
      all_goals rfl

section
variable {X : Cx} {pins : List (Addr × Obj)} {σ : St} {H : Hp} {s : Shared} {l b : Addr} {xs ys zs : List V}

/-! ### the two steps: a tracked list is rewritten, a new list is laid -/
theorem Inv.lset {its its' : List Value} {n : Nat} {f : Array Value → Array Value} {t' : Nat} (I : Inv X pins σ H s) (hH : H l = some (.lst xs))
    (e : s.heap.get? l = some { cls := .type "list", data := .seq its.toArray n }) (hf : f its.toArray = its'.toArray) (hv : Vals ys its') (hz : ys.length ≤ sizeLine) :
    Inv X pins σ (upd H l (.lst ys)) { s with heap := s.heap.update l (Obj.mapSeq f), toks := t' } := by
  have q := PySem.IsL.update e f
  rw [hf] at q
  refine I.write (x := l) (e := l) (by rw [hH]; exact trivial) (.inl rfl) (fun b' u hb hu => (Heap.get?_update_other s.heap (Obj.mapSeq f) (Ne.symm hb)).trans hu) ⟨_, q⟩ ?_
  exact ⟨hz, its', _, hv, q⟩
theorem Inv.lnew {its : List Value} {t' : Nat} (I : Inv X pins σ H s) (hv : Vals ys its) (hz : ys.length ≤ sizeLine) :
    Inv X pins σ (upd H s.heap.objs.size (.lst ys)) { s with heap := s.heap.push { cls := .type "list", data := .seq its.toArray }, toks := t' } :=
  I.laid (fun _ _ q => Heap.get?_push_of_some _ q) (Nat.le_refl _) ⟨hz, its, 0, hv, Heap.get?_push_size _ rfl⟩
theorem Inv.fresh (I : Inv X pins σ H s) : H s.heap.objs.size = none := I.hok.fresh (Nat.le_refl _)
theorem Inv.lstM (I : Inv X pins σ H s) (hH : H l = some (.lst xs)) : xs.length ≤ sizeLine ∧ ∃ (its : List Value) (n : Nat), Vals xs its ∧ xs.length = its.length ∧ s.heap.get? l = some { cls := .type "list", data := .seq its.toArray n } := by
  obtain ⟨z, its, n, r, e⟩ := I.hok l _ hH
  exact ⟨z, its, n, r, r.length, e⟩

end

section
variable {X : Cx}

/-! ### methods -/
def rAppend : V → List V → Hp → VK → Prop := fun x vs H Q => ∃ l xs y, x = .ref l ∧ vs = [y] ∧ H l = some (.lst xs) ∧ xs.length < sizeLine ∧ Q .non (upd H l (.lst (xs ++ [y])))
theorem mt_append : MtM X "list.append" rAppend := by
  intro pins s σ H x vs v us Q I rx rv h
  obtain ⟨l, xs, y, rfl, rfl, hH, hz, q⟩ := h
  cases rx
  obtain ⟨u, rfl, ru⟩ := rv.one
  obtain ⟨z, its, n, r, hl, e⟩ := I.lstM hH
  refine call_meets F.slot_list_append ⟨_, e, rfl⟩ F.entry_list_append (F.args_list_append_2 _ _) (PySem.list_append l its.toArray n u (by rw [List.size_toArray]; omega)) ⟨e, ?_⟩
  refine ⟨.non, _, I.lset (its' := its ++ [u]) hH e (by simp) (r.append (.cons ru .nil)) ?_, rfl, q⟩
  rw [List.length_append, List.length_singleton]
  omega


def rPop : V → List V → Hp → VK → Prop := fun x vs H Q => ∃ l xs y, x = .ref l ∧ vs = [] ∧ H l = some (.lst xs) ∧ xs[xs.length - 1]? = some y ∧ Q y (upd H l (.lst xs.dropLast))
theorem mt_pop : MtM X "list.pop" rPop := by
  intro pins s σ H x vs v us Q I rx rv h
  obtain ⟨l, xs, y, rfl, rfl, hH, hy, q⟩ := h
  cases rx
  have hus := rv.zero
  subst hus
  obtain ⟨z, its, n, r, hl, e⟩ := I.lstM hH
  obtain ⟨u, hu, ru⟩ := r.get hy
  have hy' : its.toArray[its.toArray.size - 1]? = some u := by
    show its.toArray[its.length - 1]? = some u
    rw [← Array.getElem?_toList, ← hl]
    exact hu
  refine call_meets F.slot_list_pop ⟨_, e, rfl⟩ F.entry_list_pop (F.args_list_pop_1 _) (MeetsSeq.list_pop_last l its.toArray n u hy' (by rw [List.size_toArray]; omega)) ⟨e, ?_⟩
  refine ⟨y, _, I.lset (its' := its.dropLast) hH e ?_ r.dropLast ?_, ru, q⟩
  · show its.toArray.eraseIdxIfInBounds (its.toArray.size - 1) = its.dropLast.toArray
    rw [List.size_toArray, List.eraseIdxIfInBounds_toArray, erase_last]
  · rw [List.length_dropLast]
    omega




/-! ### list + list, list += list, list * int -/
def rCat : R2 := fun x y H Q => ∃ l b xs zs, x = .ref l ∧ y = .ref b ∧ H l = some (.lst xs) ∧ H b = some (.lst zs) ∧ xs.length + zs.length ≤ sizeLine ∧ ∀ p, H p = none → Q (.ref p) (upd H p (.lst (xs ++ zs)))
theorem op_cat : OpR X (binaryOp .Add) rCat := by
  intro pins s σ H x y v u Q I rx ry h
  obtain ⟨l, b, xs, zs, rfl, rfl, hH, hB, hz, q⟩ := h
  cases rx
  cases ry
  obtain ⟨z, its, n, r, hl, e⟩ := I.lstM hH
  obtain ⟨z2, its2, n2, r2, hl2, e2⟩ := I.lstM hB
  refine PySem.P.add_list e e2 ?_ (by rw [List.size_toArray, List.size_toArray]; omega)
  have ea : its.toArray ++ its2.toArray = (its ++ its2).toArray := by simp
  rw [ea]
  exact ⟨.ref _, _, I.lnew (t' := s.toks) (r.append r2) (by rw [List.length_append]; omega), rfl, q _ I.fresh⟩

/-! ### del xs[i] -/
end

/-! ### xs[a:b] = ys -/
section
variable {prog : Program} {w : World} {A : Around} {E : Value → Shared → Prop} {s : Shared}
end

section
variable {X : Cx}
end
end L2

namespace Att
open PySem PySem.W PySem.Calls PyProof.Rows

/-! ### the script -/
theorem ints_of_wellAll {P : Params} {h : Heap} : ∀ (ns : List Int) (vs : List Value), WellAll P h vs (ns.map WData.int) → IntsAre vs ns := by
  intro ns
  induction ns with
  | nil =>
    intro vs w
    rw [List.map_nil] at w
    cases w
    exact .nil
  | cons n ns ih =>
    intro vs w
    rw [List.map_cons] at w
    cases w with
    | cons a b =>
      cases a
      exact .cons _ _ (ih _ b)

theorem script_of {l : OpenLaw} {n : Nat} (hn : l.most = some n) {P : Params} {h : Heap} {args : List WData} {vals : List Value}
    (hpre : l.row.toRowW.claim.pre args = true) (hwl : WellAll P h vals args) :
    ∃ a vs ns, vals = [Value.ref a] ∧ args = [WData.list (ns.map WData.int)] ∧ h.get? a = some { cls := .type "list", data := .seq vs.toArray } ∧ IntsAre vs ns ∧ ns.length ≤ n := by
  have hsh : WShape.hasAll [] args [.list .int] = true := (pre_splitW hpre).1
  have hc : l.pre.holds [] { args := args } = true := (pre_splitW hpre).2
  obtain ⟨d, r, rfl, h1, h2⟩ := hasAllW_cons hsh
  obtain rfl := hasAllW_nil h2
  obtain ⟨xs, rfl, h3⟩ := hasW_list h1
  obtain ⟨ns, rfl⟩ := items_int h3
  have hlen : ns.length ≤ n := by
    unfold OpenLaw.pre at hc
    have h4 : (WTm.not (.lt (.lit (.int (n : Int))) (.len (.arg 0)))).holds [] { args := [.list (ns.map .int)] } = true := by
      have h4 := (holds_andW hc).1
      rw [hn] at h4
      exact h4
    have h5 := condW_of h4 (w_not (w_lt w_lit (w_len_list (w_arg rfl))))
    rw [List.length_map] at h5
    refine Nat.le_of_not_lt fun q => ?_
    have q' : (n : Int) < ((ns.length : Nat) : Int) := by omega
    first
      | (rw [decide_eq_true q'] at h5; exact absurd h5 (by decide))
      | (simp at h5; omega)
  cases hwl with
  | cons w1 w2 =>
    cases w2
    cases w1 with
    | list ho hall => exact ⟨_, _, ns, rfl, rfl, ho, ints_of_wellAll ns _ hall, hlen⟩

theorem post_true (l : OpenLaw) (args : List WData) : l.row.toRowW.claim.post args (.bool true) args = true :=
  postW_of (r := l.row.toRowW) (X := (true == true))
    (show WShape.has [] (.bool true) .bool = true by first | rfl | decide | simp [WShape.has, WShape.arms, WShape.armsAll])
    (show (WTm.eq .res (.lit (.bool true))).value [] { args := args, res := some (.bool true), after := args } = some (.bool (true == true)) from w_eq_bool (w_res rfl) w_lit) rfl

/-! ### the attachment: holds_open's last premise (the goal 'hc' behind k_head) from a wpAny of the law's body -/

/-- the same from a codeAny of the CALL (for a layer whose function contracts speak of calls) -/
theorem attach_call {l : OpenLaw} {n : Nat} {q : Program} {loose : List Str} {XP : (Str → Option Value) → Heap → Prop} {YP : World → Heap → Prop} {d : DefRec}
    (hn : l.most = some n) (hdf : d.params.defaults = [])
    (call : ∀ (w : World) (s₀ s₁ : Shared) (mg mb : Str → Option Value) (fa : Addr) (o : Obj) (pm cd doc : Value) (a : Addr) (vs : List Value) (ns : List Int),
      Ground q loose [] XP w s₀ mg mb s₁.heap → YP w s₁.heap →
      s₁.heap.get? fa = some o → o.data = .func (docDef d.name d.params d.body d.scope pm cd doc) → s₁.heap.CodeRec cd d.name → mg d.name = some (.ref fa) →
      s₁.heap.get? a = some { cls := .type "list", data := .seq vs.toArray } → IntsAre vs ns → ns.length ≤ n → s₁.gens = #[] →
      codeAny (model l.prog w) callerA (.call (.ref fa) ⟨[.ref a], []⟩) (fun r s' => r = .ok (.ret (.bool true)) ∧ OldK s₁.heap s'.heap ∧ s'.os = s₁.os ∧ AllBare s'.gens) s₁) :
    WalkO q loose XP YP l.row.toRowW d [] (fun f vs => PySem.call f vs) := by
  intro w s₀ s₁ mg mb G Y fa o pm cd doc dV kV ho hd hcd hD hmg hg args vals as hpre hlay hrd hwl hlo
  obtain rfl : dV = .none := Dflts.none hD hdf
  obtain rfl : kV = .none := Dflts.noKw hD
  obtain ⟨a, vs, ns, rfl, rfl, hobj, hints, hlen⟩ := script_of hn hpre hwl
  refine enter_call (codeAny_mono (call w s₀ s₁ mg mb fa o pm cd doc a vs ns G Y ho (fd_plain hd) hcd hmg hobj hints hlen hg) fun r s' hq => ?_)
  obtain ⟨rfl, h2, h3, h4⟩ := hq
  exact ⟨.inl ⟨.bool true, .bool true, [], rfl, fun _ => rfl, .bool true, post_true l _, fun _ => ⟨List.Pairwise.nil, fun _ hm => (nomatch hm)⟩⟩, h2, h3, h4⟩


/-! ### rules over ANY heap (no ledger) from facts about the written part K: the library's own take a ledger (News) for what they write -/
section
variable {prog : Program} {w : World} {A : Around} {E : Value → Shared → Prop} {s : Shared} {K : Frag}





/-! the whole heap as the ledger: makes every rule that writes through a ledger a rule over any heap -/
def ledger (h : Heap) (L d : Addr) : List (Addr × Obj) := (List.range h.objs.size).filterMap fun a => if a = L ∨ a = d then none else (h.get? a).map fun o => (a, o)

end
end Att

namespace L2
open PySem PySem.Spec PyProof.Rows

theorem vals_ints : ∀ {vs : List Value} {ns : List Int}, IntsAre vs ns → Vals (ns.map V.int) vs
  | _, _, .nil => .nil
  | _, _, .cons n t h => .cons ⟨t, rfl⟩ (vals_ints h)

/-- nothing is tracked but the script, known to the object (or it is an object of the module) -/
def Only (H : Hp) : Prop := ∀ b, H b = none ∨ ∃ o xs, H b = some (.frz o (.lst xs))

/-- THE HEAD: the law's promise, at the heap behind the top. F, the promise of the law's def, may use that base is part of the heap (so K.In base, base.Ns mainGlobals mg stand in Mod) -/
theorem law_call {P : Program} {w : World} {K : PySem.W.Frag} {mg mb : Str → Option Value} {CX : CXT} {k : Nat} {fa a : Addr} {fd : FuncData} {x : Str} {sp : Sp} {s₁ : Shared} {vs : List Value} {ns : List Int}
    (KX : K.In s₁.heap) (hns : s₁.heap.Ns mainGlobals mg) (hb : s₁.heap.Ns builtinsNs mb) (hbb : ∀ x : Str, x ≠ "__name__" → mb x = bootBuiltins x) (hlim : s₁.heap.NoLimit) (hg : s₁.gens = #[])
    (ha : s₁.heap.get? a = some { cls := .type "list", data := .seq vs.toArray }) (hi : IntsAre vs ns) (hl : ns.length ≤ sizeLine) (hr : Room k callerA)
    (F : ∀ base : Heap, K.In base → base.Ns mainGlobals mg → FnOk P w K mg base CX k fa fd [x] sp) (hbind : ∀ (s : Shared) (u : Value), BindsTo s fd ⟨[u], []⟩ [(x, u)])
    (hsp : ∀ H : Hp, Only H → SqL K H a (ns.map V.int) → sp [.ref a] H (fun v _ => v = .bl true) fun _ _ _ => False)
    (hCX : ∀ H e s', CX [] H s₁ (fun _ _ _ => False) e s' → False) :
    codeAny (model P w) callerA (.call (.ref fa) ⟨[.ref a], []⟩) (fun r s' => r = .ok (.ret (.bool true)) ∧ OldK s₁.heap s'.heap ∧ s'.os = s₁.os ∧ AllBare s'.gens) s₁ := by
  have rv := vals_ints hi
  have lenV := hi.length
  -- from an abstract heap in which nothing but the script may be tracked
  have core : ∀ H : Hp, Only H → SqL K H a (ns.map V.int) → HOk P w H s₁.heap → (∀ b, H b ≠ none → b = a) → (H a ≠ none → K.lookup a = none) →
      codeAny (model P w) callerA (.call (.ref fa) ⟨[.ref a], []⟩) (fun r s' => r = .ok (.ret (.bool true)) ∧ OldK s₁.heap s'.heap ∧ s'.os = s₁.os ∧ AllBare s'.gens) s₁ := by
    intro H hO hS hok hA hK
    have base_of : ∀ {b : Addr} {o : Obj}, s₁.heap.get? b = some o → H b = none → (hidT s₁.heap H).get? b = some o := fun e n => hidT_get e n
    have noA : ∀ {b : Addr} {o : Obj} {es : Array DictEntry} {ep : Nat}, s₁.heap.get? b = some o → o.data = .dict es ep → H b = none := fun {b o es ep} e d => by
      cases q : H b with
      | none => rfl
      | some u =>
        have e' : b = a := hA b (by rw [q]; simp)
        subst e'
        rw [ha] at e; cases e
        have d' : Data.seq vs.toArray _ = Data.dict es ep := d
        cases d'
    have nsK : ∀ {b : Addr} {m : Str → Option Value}, s₁.heap.Ns b m → (hidT s₁.heap H).Ns b m := fun {b m} ⟨o, es, ep, e, d, r⟩ => ⟨o, es, ep, base_of e (noA e d), d, r⟩
    have hKb : K.In (hidT s₁.heap H) := fun b o e => base_of (KX b o e) (by
      cases q : H b with
      | none => rfl
      | some u =>
        have e' : b = a := hA b (by rw [q]; simp)
        subst e'
        rw [hK (by rw [q]; simp)] at e; cases e)
    have hM : Mod K mg (hidT s₁.heap H) := ⟨hKb, nsK hns, ⟨mb, nsK hb, hbb⟩, let ⟨mc, h1, h2⟩ := hlim; ⟨mc, nsK h1, h2⟩⟩
    have e0 : Env0 P w K mg (hidT s₁.heap H) callerA [] s₁ H := ⟨rfl, hM, fun b o e => of_hidT e, Nat.le_of_eq (hidT_size _ _), trivial, fun b hb => absurd (show b ∈ ([] : List Addr) from hb) (by simp), hok, .of_eq hg⟩
    refine codeAny_mono ((F _ hKb (nsK hns)).run callerA [] s₁ H ⟨[.ref a], []⟩ [.ref a] [.ref a] _ _ hr e0 (hbind s₁ (.ref a)) (.cons rfl .nil) (hsp H hO hS)) fun r s' h => ?_
    cases r with
    | error e => exact (hCX H e s' h).elim
    | ok fl =>
      cases fl with
      | next => exact False.elim h
      | brk => exact False.elim h
      | cont => exact False.elim h
      | ret u =>
        obtain ⟨v, H', os, bare, un, hok', r', q⟩ := h
        have q' : v = .bl true := q
        subst q'
        obtain rfl : u = Value.bool true := r'
        refine ⟨rfl, OldK.of_keep fun b o e => ?_, os, bare⟩
        cases q : H b with
        | none => exact un.keep b o e q (by intro z; exact absurd (show b ∈ ([] : List Addr) from z) (by simp)) (by simp)
        | some u =>
          rcases hO b with z | ⟨ob, xs, z⟩
          · rw [q] at z; cases z
          · have z2 := un.frzs b ob _ z
            obtain ⟨e1, _⟩ := hok b _ z
            obtain ⟨e2, _⟩ := hok' b _ z2
            rw [e] at e1; cases e1
            exact e2
  cases hk : K.lookup a with
  | some o =>
    -- the script is one of the module's own objects
    have e := KX a o hk
    rw [ha] at e
    cases e
    refine core (fun _ => none) (fun _ => .inl rfl) (.inr ⟨_, vs.toArray, _, hk, rfl, rfl, rfl, by rw [List.size_toArray, lenV]; exact hl, by simpa using rv⟩) (fun b u z => by have z' : (none : Option HO) = some u := z; cases z') (fun b z => absurd rfl z) fun z => absurd rfl z
  | none =>
    refine core (fun b => if b = a then some (.frz { cls := .type "list", data := .seq vs.toArray } (.lst (ns.map V.int))) else none) (fun b => ?_) (.inl (.inr ⟨{ cls := .type "list", data := .seq vs.toArray }, if_pos rfl⟩)) (fun b u z => ?_) (fun b z => ?_) fun _ => hk
    · by_cases hb : b = a
      · exact .inr ⟨_, _, if_pos hb⟩
      · exact .inl (if_neg hb)
    · by_cases hb : b = a
      · have z' := (if_pos hb).symm.trans z
        cases z'
        subst hb
        exact ⟨ha, by rw [List.length_map]; exact hl, vs, _, rv, ha⟩
      · have z' := (if_neg hb).symm.trans z
        cases z'
    · by_cases hb : b = a
      · exact hb
      · exact absurd (if_neg hb) z
end L2

namespace L2
open PySem PySem.Spec PyProof.Rows


/-- the goal that k_head leaves (case hc), from the law's promise. F gives the function object fd (K's own) once, then the promise over every base -/
theorem walk_of {l : PySem.W.OpenLaw} {n k : Nat} {q : Program} {loose : List Str} {XP : (Str → Option Value) → Heap → Prop} {YP : World → Heap → Prop} {d : DefRec} {K : Params → PySem.W.Frag} {CX : World → CXT} {sp : World → Sp} {x : Str}
    (hn : l.most = some n) (hn2 : n ≤ sizeLine) (hdf : d.params.defaults = []) (hr : Room k callerA)
    (hY : ∀ (w : World) (h : Heap), YP w h → (K w.params).In h)
    (F : ∀ (w : World) (mg : Str → Option Value) (fa : Addr) (h : Heap), (K w.params).In h → h.Ns mainGlobals mg → mg d.name = some (.ref fa) →
      ∃ fd : FuncData, (∀ (s : Shared) (u : Value), BindsTo s fd ⟨[u], []⟩ [(x, u)]) ∧
        ∀ base : Heap, (K w.params).In base → base.Ns mainGlobals mg → FnOk l.prog w (K w.params) mg base (CX w) k fa fd [x] (sp w))
    (hsp : ∀ (w : World) (H : Hp) (a : Addr) (ns : List Int), ns.length ≤ n → Only H → SqL (K w.params) H a (ns.map V.int) → sp w [.ref a] H (fun v _ => v = .bl true) fun _ _ _ => False)
    (hCX : ∀ (w : World) (H : Hp) (s : Shared) (e : Value) (s' : Shared), CX w [] H s (fun _ _ _ => False) e s' → False) :
    PySem.W.WalkO q loose XP YP l.row.toRowW d [] (fun f vs => PySem.call f vs) := by
  refine Att.attach_call hn hdf fun w s₀ s₁ mg mb fa o pm cd doc a vs ns G Y ho hd hcd hmg hobj hints hlen hg => ?_
  have KX := hY w _ Y
  obtain ⟨fd, hb, hF⟩ := F w mg fa _ KX G.T.g hmg
  exact law_call KX G.T.g G.T.b G.T.builtins G.T.nolimit hg hobj hints (Nat.le_trans hlen hn2) hr hF hb (fun H hO hS => hsp w H a ns hlen hO hS) fun H e s' => hCX w H s₁ e s'
end L2



/-! SHORT WORDS over the layer: a def of the text, its body, what a loop and a test want. -/
namespace L2
open PySem PySem.Spec PyProof.Rows

/-! ### the text by places -/
/-- the j-th statement of a class's body -/
def inClass (s : Stmt) (j : Nat) : Stmt := match s with
  | .ClassDef _ _ _ body _ _ _ _ _ _ _ => body.getD j (.Pass ⟨0, 0, 0, 0⟩)
  | _ => .Pass ⟨0, 0, 0, 0⟩
def defArgs (s : Stmt) : Arguments := match s with
  | .FunctionDef _ a _ _ _ _ _ _ _ _ => a
  | _ => { posonlyargs := [], args := [], vararg := none, kwonlyargs := [], kw_defaults := [], kwarg := none, defaults := [] }
def defBody (s : Stmt) : List Stmt := match s with
  | .FunctionDef _ _ b _ _ _ _ _ _ _ => b
  | _ => []
def defScope (s : Stmt) : Scope := match s with
  | .FunctionDef _ _ _ _ _ _ sc _ _ _ => sc
  | _ => { kind := .function, names := [], isGenerator := false, isCoroutine := false }

/-! ### no exception leaves a def -/
abbrev CX0 : CXT := fun _ _ _ _ _ _ => False
abbrev E0 : XK := fun _ _ _ => False
theorem pass0 {X : Cx} : Passes CX0 X E0 := fun _ _ _ _ _ _ _ h => h.elim

/-! ### a def (or method) of the text as it stands behind the top -/
structure Fun (K : PySem.W.Frag) (x qual : Str) (st : Stmt) (f : Addr) (fd : FuncData) : Prop where
  ex : ∃ (oc : Value) (od : Option Addr) (kV doc pm : Value) (an : Option Addr) (cdv ct : Value) (osl : Array (Option Value)),
    fd = PySem.W.fnOf x qual (defArgs st) (defBody st) (defScope st) .none kV doc pm an cdv ct ∧ K.lookup f = some ⟨oc, od, .func fd, osl⟩ ∧ PySem.W.codeIn K cdv qual = true
  kp : PySem.W.keepIn K (.ref f) = true
section
variable {P : Program} {w : World} {K : PySem.W.Frag} {mg : Str → Option Value} {base : Heap}
/-- THE RULE for a def: its body as a term of rules, and the reading of that term -/
theorem Fun.ok {x qual : Str} {st : Stmt} {f : Addr} {fd : FuncData} {N ps : List Str} {k : Nat} {sp : Sp} (F : Fun K x qual st f fd) (S : FnScope N ps (defScope st)) (len : ∀ vs H Q E, sp vs H Q E → vs.length = ps.length)
    (hbody : ∀ (cdv : Value) (A : Around) (outer : List Env) (s : Shared) (H : Hp) (vs : List V) (Q : VK) (E : XK), Room k (A.deeper (envOfC qual (defScope st) s.heap.objs.size f cdv)) → sp vs H Q E →
      ∃ t, PSs (cxOf CX0 P w K mg base N qual (defScope st) f cdv A outer s H E).nox (defBody st) t ∧ t { nx := fun _ H' => Q .non H', rt := Q } (start N vs) H) : FnOk P w K mg base CX0 (k + 1) f fd ps sp := by
  obtain ⟨oc, od, kV, doc, pm, an, cdv, ct, osl, rfl, lk, hcd⟩ := F.ex
  refine fn_of lk hcd S len fun A outer s H vs Q E hr hsp => ?_
  obtain ⟨t, h, q⟩ := hbody cdv A outer s H vs Q E hr hsp
  exact ⟨t, h.nox, q⟩
/-- how its arguments bind (no defaults): h is «fun _ _ _ _ _ _ us hl => match us, hl with | [_, _], _ => rfl», one _ a parameter -/
theorem Fun.binds {x qual : Str} {st : Stmt} {f : Addr} {fd : FuncData} {ps : List Str} (F : Fun K x qual st f fd)
    (h : ∀ (kV doc pm : Value) (an : Option Addr) (cdv ct : Value) (us : List Value), us.length = ps.length → bindArgs (PySem.W.fnOf x qual (defArgs st) (defBody st) (defScope st) .none kV doc pm an cdv ct) ⟨us, []⟩ = pure (ps.zip us)) : Binds K fd ps [] := by
  obtain ⟨oc, od, kV, doc, pm, an, cdv, ct, osl, rfl, lk, hcd⟩ := F.ex
  exact .all (h kV doc pm an cdv ct)
theorem fun_mk {x qual : Str} {st : Stmt} {f : Addr} {oc : Value} {od an : Option Addr} {osl : Array (Option Value)} {kV doc pm cdv ct : Value} (l : K.lookup f = some ⟨oc, od, .func (PySem.W.fnOf x qual (defArgs st) (defBody st) (defScope st) .none kV doc pm an cdv ct), osl⟩)
    (c : PySem.W.codeIn K cdv qual = true) (k : PySem.W.keepIn K (.ref f) = true) : Fun K x qual st f (PySem.W.fnOf x qual (defArgs st) (defBody st) (defScope st) .none kV doc pm an cdv ct) := ⟨⟨oc, od, kV, doc, pm, an, cdv, ct, osl, rfl, l, c⟩, k⟩
end
theorem hu_of {A : Around} {k : Nat} (hr : Room k A) : A.units + 1 < cLine := Nat.lt_of_le_of_lt (Nat.add_le_add_left (by decide : 1 ≤ 64) _) hr.units

/-! ### expressions in short: the name that stands in the i-th slot -/
section
variable {X : Cx}
theorem pv (i : Nat) {x : Str} {pos : Pos} (hN : X.N[i]? = some x := by rfl) (hv : Vis X.env.scope x := by first | exact Or.inl rfl | exact Or.inr (Or.inl rfl) | exact Or.inr (Or.inr rfl)) (hd : (x == ("__debug__" : Str)) = false := by decide)
    (hcd : (x == ("__classdict__" : Str)) = false := by decide) : PE X (.Name x pos) (tVar i) := pe_var hN hv hd hcd
end

/-! ### tests -/
theorem iteF {A B : Prop} (h : B) : if false = true then A else B := by
  rw [if_neg Bool.false_ne_true]
  exact h
theorem iteT {A B : Prop} (h : A) : if true = true then A else B := by
  rw [if_pos rfl]
  exact h
theorem ite2 {c A B : Prop} [Decidable c] (h1 : c → A) (h2 : ¬ c → B) : if c then A else B := by
  by_cases h : c
  · rw [if_pos h]
    exact h1 h
  · rw [if_neg h]
    exact h2 h

/-! ### heaps -/
/-- all that was tracked is as it was -/
def Same (H H' : Hp) : Prop := ∀ b o, H b = some o → H' b = some o
theorem Same.refl (H : Hp) : Same H H := fun _ _ h => h
theorem Same.trans {H H1 H2 : Hp} (a : Same H H1) (b : Same H1 H2) : Same H H2 := fun c o h => b c o (a c o h)

end L2

set_option linter.all false
/-! The table of a set of ints: its places rise, so a walk meets each member once. Own work. -/
namespace SetPure
open PySem











end SetPure

set_option linter.all false
set_option maxRecDepth 100000
set_option maxHeartbeats 4000000
/-! A set of ints that is filled: which members, and that its table is good. Own work. -/
namespace SI
open PySem SetPure




section
variable {prog : Program} {w : World} {A : Around} {E : Value → Shared → Prop} {s : Shared}



end
end SI

set_option linter.all false
set_option maxRecDepth 100000
set_option maxHeartbeats 4000000
namespace SI
open PySem SetPure
section
variable {prog : Program} {w : World} {A : Around} {E : Value → Shared → Prop} {s : Shared}

end
end SI

set_option linter.all false
set_option maxRecDepth 100000
set_option maxHeartbeats 4000000
namespace SI
open PySem SetPure
section
variable {prog : Program} {w : World} {A : Around} {E : Value → Shared → Prop} {s : Shared}








end
end SI

set_option linter.all false
set_option maxRecDepth 100000
set_option maxHeartbeats 4000000
namespace SI
open PySem SetPure
section
variable {prog : Program} {w : World} {A : Around} {E : Value → Shared → Prop} {s : Shared}



end
end SI

set_option linter.all false
set_option maxRecDepth 100000
set_option maxHeartbeats 4000000
namespace SI
open PySem SetPure PyProof.Rows
section
variable {prog : Program} {w : World} {A : Around} {R : Result → Shared → Prop} {I : Addr} {fp wr : List Addr} {G : Array GenState → Array GenState → Prop} {n : Nat} {P : Nat → Value → Prop} {St : Nat → Shared → Prop}
end
section
variable {prog : Program} {w : World} {A : Around} {E : Value → Shared → Prop} {s : Shared}
end
end SI

set_option linter.all false
set_option maxRecDepth 100000
set_option maxHeartbeats 4000000
namespace SI
open PySem SetPure PyProof.Rows
section
variable {prog : Program} {w : World} {A : Around} {E : Value → Shared → Prop} {s : Shared}
end
end SI

set_option Elab.async false
set_option linter.all false
set_option maxRecDepth 100000
set_option maxHeartbeats 4000000
/-! A list comprehension of one clause over the hand layer: own work. -/
namespace L2
open PySem PySem.Spec PyProof.Rows

section
variable {prog : Program} {w : World} {A : Around} {R : Result → Shared → Prop} {s : Shared}
/-- the loop of a comprehension, its owned tuple let go, no exception within -/
theorem compLoop_own {elt target iter : Expr} {ifs : List Expr} {scope : Scope} {pos : Pos} {it acc : Value} {env : Env} (I : Nat → Shared → Prop)
    (turn : ∀ n s, I n s → wpAny (model prog w) A (pyNext it) (fun r s₁ => match r with
      | none => R (.ok .next) s₁
      | some v => wpAny (model prog w) A (letOwnedTupleGo target it v) (fun _ s₁' => wpAny (model prog w) A (assign target env v) (fun _ s₂ =>
          wpAny (model prog w) A (forIn ifs true fun c r => if r = true then do let ok ← isTrue c env (eval c env); pure (ForInStep.yield ok) else pure (ForInStep.yield r)) (fun ok s₃ =>
            if ok = true then wpAny (model prog w) A (eval elt env) (fun x s₄ =>
              wpAny (model prog w) A (call (.builtin "list.append") [acc, x]) (fun _ s₅ => ∃ m, m < n ∧ I m s₅) (fun _ _ => False) s₄) (fun _ _ => False) s₃
            else ∃ m, m < n ∧ I m s₃) (fun _ _ => False) s₂) (fun _ _ => False) s₁') (fun _ _ => False) s₁) (fun _ _ => False) s)
    (n : Nat) (h : I n s) : codeAny (model prog w) A (.compLoop (.ListComp elt [⟨target, iter, ifs, 0⟩] scope pos) 0 it acc env) R s := by
  refine codeAny_loop rfl I (fun n s hI => ?_) n h
  show wpAny _ A ((compTurn (.ListComp elt [⟨target, iter, ifs, 0⟩] scope pos) 0 it acc env).onRaise (fun x => do noteFrame x env; theTreesLotGoes x)) _ _ s
  refine wpAny_noted ?_
  rw [compTurn_list]
  refine wpAny_bind (wpAny_standAt (wpAny_bind (wpAny_mono (turn n s hI) (fun r s₁ h₁ => ?_) fun _ _ h' => h'.elim)))
  cases r with
  | none => exact wpAny_pure h₁
  | some v =>
    refine wpAny_bind (wpAny_mono h₁ (fun _ s₁' h₁' => wpAny_bind (wpAny_mono h₁' (fun _ s₂ h₂ => wpAny_bind (wpAny_mono h₂ (fun ok s₃ h₃ => ?_) fun _ _ h' => h'.elim)) fun _ _ h' => h'.elim)) fun _ _ h' => h'.elim)
    cases ok with
    | false => exact wpAny_pure ⟨rfl, h₃⟩
    | true =>
      exact wpAny_bind (wpAny_bind (wpAny_mono h₃ (fun x s₄ h₄ => wpAny_bind (wpAny_mono h₄ (fun _ s₅ h₅ => wpAny_pure (wpAny_pure ⟨rfl, h₅⟩)) fun _ _ h' => h'.elim)) fun _ _ h' => h'.elim))
end

/-- the cells that a comprehension's block takes from around it -/
theorem closure_of {scope : Scope} {env : Env} (h : ∀ y ∈ scope.names, y.2 = .free → ∃ c, env.cells.lookup y.1 = some c) :
    ∃ cl, closureFor scope env = pure cl ∧ (∀ x c, cl.lookup x = some c → env.cells.lookup x = some c) ∧ (∀ x, (x, NameKind.free) ∈ scope.names → ∃ c, cl.lookup x = some c) := by
  have key : ∀ (l : List (Str × NameKind)) (cs : List (Str × Addr)), (∀ y ∈ l, y.2 = .free → ∃ c, env.cells.lookup y.1 = some c) → (∀ x c, cs.lookup x = some c → env.cells.lookup x = some c) →
      ∃ cl, (forIn l cs (fun (p : Str × NameKind) (r : List (Str × Addr)) => (do
          if p.2 == NameKind.free then do
            let a ← cellOf env p.1
            pure (ForInStep.yield ((p.1, a) :: r))
          else pure (ForInStep.yield r) : Sem (ForInStep (List (Str × Addr)))))) = pure cl ∧ (∀ x c, cl.lookup x = some c → env.cells.lookup x = some c) ∧ (∀ x, ((x, NameKind.free) ∈ l ∨ ∃ c, cs.lookup x = some c) → ∃ c, cl.lookup x = some c) := by
    intro l
    induction l with
    | nil => intro cs _ hc; exact ⟨cs, rfl, hc, fun x hx => hx.elim (fun z => by cases z) id⟩
    | cons p r ih =>
      intro cs hl hc
      obtain ⟨n, k⟩ := p
      by_cases hk : k = .free
      · subst hk
        obtain ⟨c, e⟩ := hl (n, .free) List.mem_cons_self rfl
        obtain ⟨cl, e1, e2, e3⟩ := ih ((n, c) :: cs) (fun y hy => hl y (List.mem_cons_of_mem _ hy)) (fun x c' q => by
          rw [List.lookup_cons] at q
          by_cases hx : x == n
          · rw [hx] at q; cases q; rw [eq_of_beq hx]; exact e
          · have hx' : (x == n) = false := by simpa using hx
            rw [hx'] at q; exact hc x c' q)
        refine ⟨cl, ?_, e2, fun x hx => e3 x ?_⟩
        · rw [List.forIn_cons]
          have : (cellOf env n) = pure c := by unfold cellOf; rw [e]
          simp only [beq_self_eq_true, if_true, this, pure_bind]
          exact e1
        · rcases hx with hx | ⟨c', hx⟩
          · rcases List.mem_cons.mp hx with z | z
            · cases z; exact .inr ⟨c, by simp⟩
            · exact .inl z
          · by_cases q : x == n
            · exact .inr ⟨c, by rw [List.lookup_cons, q]⟩
            · have q' : (x == n) = false := by simpa using q
              exact .inr ⟨c', by rw [List.lookup_cons, q']; exact hx⟩
      · obtain ⟨cl, e1, e2, e3⟩ := ih cs (fun y hy => hl y (List.mem_cons_of_mem _ hy)) hc
        refine ⟨cl, ?_, e2, fun x hx => e3 x ?_⟩
        · rw [List.forIn_cons]
          have hb : (k == NameKind.free) = false := by simpa using hk
          simp only [hb, Bool.false_eq_true, if_false, pure_bind]
          exact e1
        · rcases hx with hx | hx
          · rcases List.mem_cons.mp hx with z | z
            · cases z; exact absurd rfl hk
            · exact .inl z
          · exact .inr hx
  obtain ⟨cl, e1, e2, e3⟩ := key scope.names [] h (fun x c q => by cases q)
  refine ⟨cl, ?_, e2, fun x hx => e3 x (.inl hx)⟩
  unfold closureFor
  have e1' := e1
  simp only [bind_pure] at e1' ⊢
  first
    | exact e1'
    | (rw [← e1']; rfl)
    | (show (forIn scope.names [] _ >>= fun r => pure r) = _; rw [bind_pure]; exact e1')
end L2

namespace L2
open PySem PySem.Spec PyProof.Rows

/-- what a comprehension's scope must be, over the def's own scope (outer), the def's names N; ks: which of N the block sees -/
structure LcS (outer names : List (Str × NameKind)) (N : List Str) (ks : List Bool) : Prop where
  fv : ∀ y ∈ names, y.2 = .free → outer.lookup y.1 = some .cell ∨ outer.lookup y.1 = some .free
  nocell : ∀ y ∈ names, y.2 ≠ .cell
  loc : ∀ y ∈ names, y.2 = .local → names.lookup y.1 = some .local
  free : ∀ y ∈ names, y.2 = .free → names.lookup y.1 = some .free
  vis : ∀ p ∈ N.zip ks, p.2 = true → names.lookup p.1 = some .free
  len : ks.length = N.length

/-- the values that the block sees -/
def mask (ks : List Bool) (σ : St) : St := List.zipWith (fun k v => if k then v else none) ks σ
theorem mask_get {ks : List Bool} {σ : St} {i : Nat} {v : V} (h : (mask ks σ)[i]? = some (some v)) : ks[i]? = some true ∧ σ[i]? = some (some v) := by
  unfold mask at h
  rw [List.getElem?_zipWith] at h
  cases e1 : ks[i]? with
  | none => rw [e1] at h; cases h
  | some k =>
    cases e2 : σ[i]? with
    | none => rw [e1, e2] at h; cases h
    | some u =>
      rw [e1, e2] at h
      cases k with
      | true => simp at h; subst h; exact ⟨rfl, rfl⟩
      | false => simp at h
theorem mask_len {ks : List Bool} {σ : St} (h : ks.length = σ.length) : (mask ks σ).length = σ.length := by
  unfold mask; rw [List.length_zipWith, h, Nat.min_self]

/-- the block's context -/
def cxLC (X : Cx) (scope : Scope) (cl : List (Str × Addr)) (ext : List Str) (C : Addr) (fp : List Addr) (s₀ : Shared) (H₀ : Hp) : Cx :=
  { X with N := X.N ++ ext, env := compEnvC scope cl C X.env, s₀ := s₀, H₀ := H₀, outer := X.stack, ex := fp, fn := fun _ => false, pn := [], xe := fun _ _ => False }

theorem relabel_kind {env : Env} : ∀ {names : List (Str × NameKind)} {x : Str} {k' : NameKind},
    (names.map fun (n, k) => if (k == NameKind.free && env.scope.kind == .function && env.kindOf n == some .cell) then (n, NameKind.cell) else (n, k)).lookup x = some k' →
    names.lookup x = some k' ∨ (k' = .cell ∧ names.lookup x = some .free)
  | [], _, _, h => by simp at h
  | (n, k) :: r, x, k', h => by
    have h : List.lookup x ((if (k == NameKind.free && env.scope.kind == .function && env.kindOf n == some .cell) = true then (n, NameKind.cell) else (n, k)) :: (r.map fun (n, k) => if (k == NameKind.free && env.scope.kind == .function && env.kindOf n == some .cell) then (n, NameKind.cell) else (n, k))) = some k' := h
    cases hx : x == n with
    | true =>
      by_cases hc : (k == NameKind.free && env.scope.kind == .function && env.kindOf n == some .cell) = true
      · rw [if_pos hc] at h
        simp only [List.lookup_cons, hx] at h
        cases h
        simp only [Bool.and_eq_true, beq_iff_eq] at hc
        exact .inr ⟨rfl, by simp only [List.lookup_cons, hx]; rw [hc.1.1]⟩
      · rw [if_neg hc] at h
        simp only [List.lookup_cons, hx] at h
        cases h
        exact .inl (by simp only [List.lookup_cons, hx])
    | false =>
      have h' : (r.map fun (n, k) => if (k == NameKind.free && env.scope.kind == .function && env.kindOf n == some .cell) then (n, NameKind.cell) else (n, k)).lookup x = some k' := by
        split at h <;> simpa only [List.lookup_cons, hx] using h
      simp only [List.lookup_cons, hx]
      exact relabel_kind h'
theorem relabel_free {env : Env} : ∀ {names : List (Str × NameKind)} {x : Str}, names.lookup x = some .free →
    (names.map fun (n, k) => if (k == NameKind.free && env.scope.kind == .function && env.kindOf n == some .cell) then (n, NameKind.cell) else (n, k)).lookup x = some .cell ∨
    (names.map fun (n, k) => if (k == NameKind.free && env.scope.kind == .function && env.kindOf n == some .cell) then (n, NameKind.cell) else (n, k)).lookup x = some .free
  | [], _, h => by simp at h
  | (n, k) :: r, x, h => by
    show List.lookup x ((if (k == NameKind.free && env.scope.kind == .function && env.kindOf n == some .cell) = true then (n, NameKind.cell) else (n, k)) :: _) = _ ∨ List.lookup x ((if (k == NameKind.free && env.scope.kind == .function && env.kindOf n == some .cell) = true then (n, NameKind.cell) else (n, k)) :: _) = _
    cases hx : x == n with
    | true =>
      simp only [List.lookup_cons, hx] at h
      cases h
      split
      · exact .inl (by simp only [List.lookup_cons, hx])
      · exact .inr (by simp only [List.lookup_cons, hx])
    | false =>
      simp only [List.lookup_cons, hx] at h
      have ih := @relabel_free env r x h
      split <;> simp only [List.lookup_cons, hx] <;> exact ih

/-- the block's entry -/
theorem inv_lc {X : Cx} {pins : List (Addr × Obj)} {σ : St} {H : Hp} {s : Shared} {scope : Scope} {cl : List (Str × Addr)} {ks : List Bool} {ext : List Str} {fp : List Addr} {C : Addr} {h1 : Heap} {tk : Nat}
    (I : Inv X pins σ H s) (S : LcS X.env.scope.names scope.names X.N ks) (hkind : scope.kind = .function) (c1 : ∀ x c, cl.lookup x = some c → X.env.cells.lookup x = some c) (c2 : ∀ x, (x, NameKind.free) ∈ scope.names → ∃ c, cl.lookup x = some c)
    (hfp : ∀ b ∈ fp, FpOk X pins H b) (hlt : ∀ b ∈ fp, b < s.heap.objs.size) (hC : C = s.heap.objs.size) (hn : h1.Ns C (fun _ => none)) (hk : ∀ b o, s.heap.get? b = some o → h1.get? b = some o) :
    Inv (cxLC X scope cl ext C fp s H) [] (mask ks σ ++ List.replicate ext.length none) H { s with heap := h1, toks := tk } := by
  have hlen : ks.length = σ.length := by rw [S.len, I.len]
  refine ⟨⟨I.ok.mod, hkind, I.ok.glob, I.ok.blt, Nat.le_of_eq hC.symm, fun x y c e1 e2 => I.ok.inj x y c (c1 x c e1) (c1 y c e2), fun x hx => ?_, (fun x c hf => by cases hf), I.ok.hd, I.ok.frames, .inl rfl, fun b hb => ⟨?_, fun x c e => (hfp b hb).2.2.2.2.1 x c (c1 x c e)⟩, I.bs, Nat.le_trans I.ok.bsz I.sz, fun b o e hb => ?_, fun b hb hz => ?_, I.stack, I.stkFree⟩,
    rfl, I.bare, Un.kept hk, ⟨_, hn, fun i x v e1 e2 e3 => ?_⟩, fun x c e => ?_, ?_, fun x c e => I.freeC x c (c1 x c e), fun p hp => absurd (show p ∈ ([] : List (Addr × Obj)) from hp) (by simp), I.hok.kept hk, ?_⟩
  · -- a cell for each cell or free name
    have hx' : (relabel scope X.env).names.lookup x = some .cell ∨ (relabel scope X.env).names.lookup x = some .free := hx
    have hfree : scope.names.lookup x = some .free := by
      rcases hx' with q | q
      · rcases relabel_kind q with z | ⟨_, z⟩
        · exact absurd rfl (S.nocell _ (PySem.mem_of_lookup z))
        · exact z
      · rcases relabel_kind q with z | ⟨z, _⟩
        · exact z
        · cases z
    exact c2 x (PySem.mem_of_lookup hfree)
  · intro z
    have h0 := hlt b hb
    have z' : b = C := z
    rw [z', hC] at h0
    exact Nat.lt_irrefl _ h0
  · obtain ⟨_, _, _, h4, _, _⟩ := hfp b hb
    rcases h4 with z | z
    · exact I.ok.noex b o e z
    · exact absurd (Heap.lt_size (I.ok.bs b o e).1) (Nat.not_lt.mpr z)
  · have hz' : b ∈ frs X.stack := hz
    rcases List.mem_cons.mp (I.stkSub b hz') with q | q
    · exact (hfp b hb).2.1 q
    · exact (hfp b hb).2.2.1 q
  · have hi : i < (mask ks σ).length := by
      by_cases hi : i < (mask ks σ).length
      · exact hi
      · rw [List.getElem?_append_right (by omega), List.getElem?_replicate] at e2
        split at e2 <;> cases e2
    rw [List.getElem?_append_left hi] at e2
    obtain ⟨k1, k2⟩ := mask_get e2
    have hiN : i < X.N.length := by rw [← I.len]; rw [mask_len hlen] at hi; exact hi
    have e1' : X.N[i]? = some x := by
      have : (X.N ++ ext)[i]? = some x := e1
      rwa [List.getElem?_append_left hiN] at this
    have hz : (x, true) ∈ X.N.zip ks := by
      rw [List.mem_iff_getElem?]
      exact ⟨i, by rw [List.getElem?_zip_eq_some]; exact ⟨e1', k1⟩⟩
    have hfree := S.vis (x, true) hz rfl
    have hvis : X.env.kindOf x = some .cell ∨ X.env.kindOf x = some .free := S.fv (x, .free) (PySem.mem_of_lookup hfree) rfl
    obtain ⟨m, hm, hl⟩ := I.loc
    obtain ⟨u, r, l⟩ := hl i x v e1' k2 (hvis.elim (fun z => .inr (.inl z)) fun z => .inr (.inr z))
    refine ⟨u, r, .inr ⟨relabel_free hfree, ?_⟩⟩
    rcases l with ⟨z, _⟩ | ⟨_, c, ec, hc⟩
    · rcases hvis with q | q <;> · rw [q] at z; cases z
    · obtain ⟨c', ec'⟩ := c2 x (PySem.mem_of_lookup hfree)
      have := c1 x c' ec'
      rw [ec] at this; cases this
      obtain ⟨o, ho, hd⟩ := hc
      exact ⟨c, ec', o, hk c o ho, hd⟩
  · obtain ⟨v, o, ho, hd⟩ := I.cell x c (c1 x c e)
    exact ⟨v, o, hk c o ho, hd⟩
  · show H C = none
    rw [hC]; exact I.hok.fresh (Nat.le_refl _)
  · rw [List.length_append, List.length_replicate, mask_len hlen, I.len]
    show _ = (X.N ++ ext).length
    rw [List.length_append]
end L2

namespace L2
open PySem PySem.Spec PyProof.Rows

/-- the tests of a clause -/
def PTs (X : Cx) (ifs : List Expr) (t : TT) : Prop :=
  ∀ (pins : List (Addr × Obj)) (s : Shared) (σ : St) (H : Hp) (Q : Bool → Hp → Prop), Inv X pins σ H s → t σ H Q →
    wpAny (model X.prog X.w) X.A (forIn ifs true fun c r => if r = true then do let ok ← isTrue c X.env (eval c X.env); pure (ForInStep.yield ok) else pure (ForInStep.yield r)) (TP X pins σ Q) X.xe s
def tYes : TT := fun _ H Q => Q true H
theorem pts_nil {X : Cx} : PTs X [] tYes := fun _ _ σ H Q I h => wpAny_tests_nil ⟨H, I, h⟩

/-- the turns, by a word W of turn, measure, what was gathered, values, heap -/
def lcTurn (J : It) (D : Addr) (g : TG) (tt : TT) (te : TE) (Q : Hp → Prop) (W : Nat → Nat → List V → St → Hp → Prop) : Prop :=
  ∀ i m ys σ H, W i m ys σ H → (J.stop i H ∧ Q H) ∨ (J.go i H ∧ ∀ x H', J.yld i H x H' → g x σ H' fun σ2 H2 => tt σ2 H2 fun b H3 =>
    if b = true then te σ2 H3 fun y H4 => H4 D = some (.lst ys) ∧ ys.length < sizeLine ∧ ∃ m', m' < m ∧ W (i + 1) m' (ys ++ [y]) σ2 (upd H4 D (.lst (ys ++ [y])))
    else ∃ m', m' < m ∧ W (i + 1) m' ys σ2 H3)
def tLC (ks : List Bool) (e : Nat) (wi : TI) (g : TG) (tt : TT) (te : TE) : TE := fun σ H Q => wi σ H fun J H1 => ∀ D, H1 D = none →
  ∃ W : Nat → Nat → List V → St → Hp → Prop, (∃ m, W 0 m [] (mask ks σ ++ List.replicate e none) (upd H1 D (.lst []))) ∧ lcTurn J D g tt te (fun H2 => Q (.ref D) H2) W

structure Blk (X : Cx) (scope : Scope) (ext : List Str) (tg : Expr) (ifs : List Expr) (elt : Expr) (g : TG) (tt : TT) (te : TE) : Prop where
  pg : ∀ cl C fp s₀ H₀, PG (cxLC X scope cl ext C fp s₀ H₀) tg g
  pt : ∀ cl C fp s₀ H₀, PTs (cxLC X scope cl ext C fp s₀ H₀) ifs tt
  pe : ∀ cl C fp s₀ H₀, PE (cxLC X scope cl ext C fp s₀ H₀) elt te

theorem lc_core {X : Cx} {elt tg iter : Expr} {ifs : List Expr} {scope : Scope} {pos : Pos} {ks : List Bool} {ext : List Str} {g : TG} {tt : TT} {te : TE} {pins : List (Addr × Obj)} {σ : St} {H2 : Hp} {s2 : Shared} {cl : List (Str × Addr)}
    {it : Addr} {fp : List Addr} {tn : Nat → Heap → Prop} {J : It} {RR : Value → Addr → Result → Shared → Prop} {QD : Addr → Hp → Prop} {E : Value → Shared → Prop}
    (S : LcS X.env.scope.names scope.names X.N ks) (hkind : scope.kind = .function) (hc : X.calm = true) (B : Blk X scope ext tg ifs elt g tt te)
    (c1 : ∀ x c, cl.lookup x = some c → X.env.cells.lookup x = some c) (c2 : ∀ x, (x, NameKind.free) ∈ scope.names → ∃ c, cl.lookup x = some c)
    (I2 : Inv X pins σ H2 s2) (T : Turn X.prog X.w X.K tg J fp it tn) (st2 : tn 0 s2.heap) (f2 : ∀ b ∈ fp, FpOk X pins H2 b)
    (hW : ∀ D, H2 D = none → ∃ W : Nat → Nat → List V → St → Hp → Prop, (∃ m, W 0 m [] (mask ks σ ++ List.replicate ext.length none) (upd H2 D (.lst []))) ∧ lcTurn J D g tt te (QD D) W)
    (hRR : ∀ D C s4 H' m, Inv X pins σ H' s4 → FpOk X pins H' C → s4.heap.Ns C m → QD D H' → RR (.ref D) C (.ok .next) s4) :
    wpAny (model X.prog X.w) X.A (newList []) (fun acc s₃ => wpAny (model X.prog X.w) X.A (newFunctionEnv scope X.env.globals cl [] X.env.qual none .none (some X.env)) (fun cenv s₄ =>
      codeAny (model X.prog X.w) X.A (.compStart (.ListComp elt [⟨tg, iter, ifs, 0⟩] scope pos) 0 (.ref it) acc { cenv with scope := relabel scope X.env }) (RR acc cenv.locals) s₄) E s₃) E s2 := by
  have hcell : ∀ y ∈ scope.names, y.2 ≠ .cell := S.nocell
  refine wpAny_newObj_type (wpAny_newFunctionEnv hcell (by intro y hy; simp at hy) (fun h₁ hns₁ hsb₁ => ?_) hkind)
  dsimp only at hns₁ hsb₁ ⊢
  have fD : H2 s2.heap.objs.size = none := I2.hok.fresh (Nat.le_refl _)
  have I3 : Inv X pins σ (upd H2 s2.heap.objs.size (.lst [])) { s2 with heap := s2.heap.push { cls := .type "list", dict := none, data := .seq ([] : List Value).toArray } } :=
    I2.laid (t' := s2.toks) (fun b u e => Heap.get?_push_of_some _ e) (Nat.le_refl _) ⟨Nat.zero_le _, [], 0, .nil, Heap.get?_push_size _ rfl⟩
  obtain ⟨W, ⟨m0, w0⟩, turn⟩ := hW s2.heap.objs.size fD
  generalize hH3 : s2.heap.push { cls := .type "list", dict := none, data := .seq ([] : List Value).toArray } = h3 at hns₁ hsb₁ I3 ⊢
  have hsz : h3.objs.size = s2.heap.objs.size + 1 := by rw [← hH3, Heap.size_push]
  have hlt2 : ∀ b ∈ fp, b < s2.heap.objs.size := fun b hb => let ⟨o, e, _⟩ := T.obj 0 _ st2 b hb; Heap.lt_size e
  have hlt : ∀ b ∈ fp, b < h3.objs.size := fun b hb => Nat.lt_of_lt_of_eq (Nat.lt_succ_of_lt (hlt2 b hb)) hsz.symm
  have f3 : ∀ b ∈ fp, FpOk X pins (upd H2 s2.heap.objs.size (.lst [])) b := fun b hb => ⟨by rw [upd_ne (Nat.ne_of_lt (hlt2 b hb))]; exact (f2 b hb).1, (f2 b hb).2⟩
  have hk : ∀ b o, h3.get? b = some o → h₁.get? b = some o := fun b o e => hsb₁.extBut b o (Nat.ne_of_lt (Heap.lt_size e)) (Heap.get?_push_of_some _ e)
  have I4 : Inv (cxLC X scope cl ext h3.objs.size fp { s2 with heap := h3 } (upd H2 s2.heap.objs.size (.lst []))) [] (mask ks σ ++ List.replicate ext.length none) (upd H2 s2.heap.objs.size (.lst [])) { s2 with heap := h₁, toks := s2.toks + ([] : List (Str × Value)).length } :=
    inv_lc (C := h3.objs.size) I3 S hkind c1 c2 f3 hlt rfl (by simpa using hns₁) hk
  have st4 : tn 0 h₁ := T.keep _ _ _ st2 fun b hb o e => hk b o (by rw [← hH3]; exact Heap.get?_push_of_some _ e)
  have stat : ∀ {H' : Hp} {p' : List (Addr × Obj)}, p' = [] → (∀ b ∈ fp, H' b = none) → ∀ b ∈ fp, FpOk (cxLC X scope cl ext h3.objs.size fp { s2 with heap := h3 } (upd H2 s2.heap.objs.size (.lst []))) p' H' b := fun {H' p'} hp hn b hb => by
    subst hp
    exact ⟨hn b hb, (I4.ok.exf b hb).1, I4.ok.exfs b hb, .inl hb, fun x c e => (I4.ok.exf b hb).2 x c e, fun p hp => absurd (show p ∈ ([] : List (Addr × Obj)) from hp) (by simp)⟩
  have loop : ∀ s₃ : Shared, s₃ = { s2 with heap := h₁, toks := s2.toks + ([] : List (Str × Value)).length } →
      codeAny (model X.prog X.w) X.A (.compLoop (.ListComp elt [⟨tg, iter, ifs, 0⟩] scope pos) 0 (.ref it) (.ref s2.heap.objs.size) (compEnvC scope cl h3.objs.size X.env)) (RR (.ref s2.heap.objs.size) h3.objs.size) s₃ := by
    rintro s₃ rfl
    refine compLoop_own (fun n s' => ∃ i ys σ' H', Inv (cxLC X scope cl ext h3.objs.size fp { s2 with heap := h3 } (upd H2 s2.heap.objs.size (.lst []))) [] σ' H' s' ∧ tn i s'.heap ∧ (∀ b ∈ fp, H' b = none) ∧ W i n ys σ' H') ?_ m0
      ⟨0, [], _, _, I4, st4, fun b hb => (f3 b hb).1, w0⟩
    rintro n s' ⟨i, ys, σ', H', I', st', fr', w'⟩
    rcases turn i n ys σ' H' w' with ⟨stop, q⟩ | ⟨go, step⟩
    · refine thn (T.done (cxLC X scope cl ext h3.objs.size fp { s2 with heap := h3 } (upd H2 s2.heap.objs.size (.lst []))) rfl rfl rfl hc i [] s' σ' H' _ I' (stat rfl fr') st' stop) fun r s4 ⟨hr, J4⟩ => ?_
      subst hr
      show RR (.ref s2.heap.objs.size) h3.objs.size (.ok .next) s4
      obtain ⟨m, hn, _⟩ := J4.loc
      have fC : H' h3.objs.size = none := J4.free
      have IX : Inv X pins σ H' s4 := I3.call' (ch := fp) J4.os J4.base J4.hok J4.bare fun b hb => ⟨(f3 b hb).2.2.2.1, (f3 b hb).2.1, (f3 b hb).2.2.2.2.1, (f3 b hb).2.2.2.2.2⟩
      exact hRR _ _ s4 H' m IX (I3.fpOk (Nat.le_refl _) fC) hn q
    · refine thn (T.item (cxLC X scope cl ext h3.objs.size fp { s2 with heap := h3 } (upd H2 s2.heap.objs.size (.lst []))) rfl rfl rfl hc i [] s' σ' H' _ I' (stat rfl fr') st' go) fun r s4 ⟨u, hr, h4⟩ => ?_
      subst hr
      refine thn h4 fun _ s5 ⟨x, H5, I5, r5, y5, st5, fr5⟩ => ?_
      have I5' := I5.pinned (stat rfl fr5) (T.obj _ _ st5)
      refine thn (B.pg _ _ _ _ _ _ s5 σ' H5 x u _ I5' r5 (step x H5 y5)) fun _ s6 ⟨σ6, H6, I6, q6⟩ => ?_
      refine thn (B.pt _ _ _ _ _ _ s6 σ6 H6 _ I6 q6) fun ok s7 ⟨H7, I7, q7⟩ => ?_
      have again : ∀ {σ7 : St} {H8 : Hp} {s8 : Shared} {ys' : List V} {m' : Nat}, Inv (cxLC X scope cl ext h3.objs.size fp { s2 with heap := h3 } (upd H2 s2.heap.objs.size (.lst []))) ([] ++ pinsAt fp s5.heap) σ7 H8 s8 → m' < n → W (i + 1) m' ys' σ7 H8 →
          ∃ m, m < n ∧ ∃ i ys σ' H', Inv (cxLC X scope cl ext h3.objs.size fp { s2 with heap := h3 } (upd H2 s2.heap.objs.size (.lst []))) [] σ' H' s8 ∧ tn i s8.heap ∧ (∀ b ∈ fp, H' b = none) ∧ W i m ys σ' H' := fun {σ7 H8 s8 ys' m'} I8 hm w8 => by
        refine ⟨m', hm, i + 1, ys', σ7, H8, I8.unpinned, T.keep _ _ _ st5 fun b hb o e => (I8.pin (b, o) (List.mem_append_right _ (List.mem_append_right _ (mem_pinsAt hb e)))).1, fun b hb => ?_, w8⟩
        obtain ⟨o, e, d⟩ := T.obj _ _ st5 b hb
        exact (I8.pin (b, o) (List.mem_append_right _ (List.mem_append_right _ (mem_pinsAt hb e)))).2.1
      cases ok with
      | false =>
        obtain ⟨m', hm, w7⟩ := (show ∃ m', m' < n ∧ W (i + 1) m' ys σ6 H7 from q7)
        exact again I7 hm w7
      | true =>
        rw [if_pos rfl] at q7 ⊢
        refine thn (B.pe _ _ _ _ _ _ s7 σ6 H7 _ I7 q7) fun yv s8 ⟨y, H8, I8, r8, e8, z8, m', hm, w8⟩ => ?_
        refine thn (mt_append _ s8 σ6 H8 (.ref s2.heap.objs.size) [y] (.ref s2.heap.objs.size) [yv] (fun _ H9 => H9 = upd H8 s2.heap.objs.size (.lst (ys ++ [y]))) I8 rfl (.cons r8 .nil) ⟨_, ys, y, rfl, rfl, e8, z8, rfl⟩) fun _ s9 ⟨_, H9, I9, _, e9⟩ => ?_
        subst e9
        exact again I9 hm w8
  exact codeAny_compStart_list (loop _ rfl) (T.self _ 0 _ _ _ st4 (loop _ rfl))

section
variable {X : Cx} {elt tg iter : Expr} {ifs : List Expr} {scope : Scope} {pos : Pos} {ks : List Bool} {ext : List Str} {wi : TI} {g : TG} {tt : TT} {te : TE}

theorem lc_clos {pins : List (Addr × Obj)} {σ : St} {H : Hp} {s : Shared} (I : Inv X pins σ H s) (S : LcS X.env.scope.names scope.names X.N ks) :
    ∃ cl, closureFor scope X.env = pure cl ∧ (∀ x c, cl.lookup x = some c → X.env.cells.lookup x = some c) ∧ (∀ x, (x, NameKind.free) ∈ scope.names → ∃ c, cl.lookup x = some c) :=
  closure_of fun y hy hf => I.ok.has y.1 (S.fv y hy hf)

/-- [e for x in iter if ..] -/
theorem pe_lc (S : LcS X.env.scope.names scope.names X.N ks) (hc : X.calm = true) (hi : PI X tg iter wi) (B : Blk X scope ext tg ifs elt g tt te) (hkind : scope.kind = .function := by rfl)
    (hs : ∀ x, foldedSetIterable iter X.env x = pure x := by intro _; rfl) : PE X (.ListComp elt [⟨tg, iter, ifs, 0⟩] scope pos) (tLC ks ext.length wi g tt te) := by
  intro pins s σ H Q I h
  obtain ⟨cl, hcl, c1, c2⟩ := lc_clos I S
  rw [eval_ListComp]
  refine wpAny_comprehension_free (use := none) rfl hs hcl hkind S.loc (thn (hi pins s σ H _ I h) fun v s1 h1 => thn h1 fun itv s2 h2 => ?_)
  obtain ⟨it, fp, tn, J, H2, e, I2, T, st2, f2, hW⟩ := h2
  subst e
  refine lc_core (RR := fun acc C => compPost (model X.prog X.w) X.A X.xe none (EP X pins σ Q) acc C) (QD := fun D H' => Q (.ref D) H') S hkind hc B c1 c2 I2 T st2 f2 hW fun D C s4 H' m I4 fC hn q => ?_
  refine ⟨m, hn, fun h' sb => ⟨.ref D, H', ?_, rfl, q⟩⟩
  exact I4.turned (t' := s4.toks) (fun b o hb e => (sb.2 b hb).trans e) fC.1 fC.2.1 fC.2.2.2.1 fC.2.2.2.2.1 fC.2.2.2.2.2

/-- y = [e for x in iter if ..], y a plain local -/
theorem ps_lc {i : Nat} {y : Str} {py spos : Pos} (hN : X.N.Nodup) (hiN : X.N[i]? = some y) (hy : X.env.scope.names.lookup y = some .local) (S : LcS X.env.scope.names scope.names X.N ks) (hc : X.calm = true) (hi : PI X tg iter wi) (B : Blk X scope ext tg ifs elt g tt te) (hkind : scope.kind = .function := by rfl)
    (hsw : swapsWith (.ListComp elt [⟨tg, iter, ifs, 0⟩] scope pos) (some (.Name y py)) spos.line X.env = pure true := by rfl)
    (hs : ∀ x, foldedSetIterable iter X.env x = pure x := by intro _; rfl) : PS X (.Assign [.Name y py] (.ListComp elt [⟨tg, iter, ifs, 0⟩] scope pos) spos) (tAsg (tLC ks ext.length wi g tt te) (gName i)) := by
  intro pins s σ H D I h
  obtain ⟨cl, hcl, c1, c2⟩ := lc_clos I S
  rw [exec_Assign_Name_used _ _ _ _ hsw]
  refine wpAny_bind (wpAny_standAt (wpAny_bind ?_))
  show wpAny _ X.A (do let _ ← comprehension (.ListComp elt [⟨tg, iter, ifs, 0⟩] scope pos) scope X.env _ (newList []) false (eval iter X.env) (some (assign (.Name y py) X.env))) _ _ s
  refine wpAny_bind (wpAny_mono (wpAny_comprehension_free (use := some (assign (.Name y py) X.env)) (Q := fun _ s' => SP X pins D .next s') rfl hs hcl hkind S.loc
    (thn (hi pins s σ H _ I h) fun v s1 h1 => thn h1 fun itv s2 h2 => ?_)) (fun _ s' hq => wpAny_pure (wpAny_pure hq)) fun _ _ e => e)
  obtain ⟨it, fp, tn, J, H2, e, I2, T, st2, f2, hW⟩ := h2
  subst e
  refine lc_core (RR := fun acc C => compPost (model X.prog X.w) X.A X.xe (some (assign (.Name y py) X.env)) (fun _ s' => SP X pins D .next s') acc C) (QD := fun Dl H' => D.nx (σ.set i (some (.ref Dl))) H') S hkind hc B c1 c2 I2 T st2 f2 hW fun Dl C s4 H' m I4 fC hn q => ?_
  show wpAny _ X.A (assign (.Name y py) X.env (.ref Dl)) _ _ _
  refine wpAny_assign_Name (store_ok2 I4 hN hiN (.inl hy) (v := .ref Dl) rfl (fun s5 I5 ⟨a, sb, ha⟩ => ?_) (.inr hy))
  have hCa : C ≠ a := by
    rcases ha with rfl | ha
    · exact fC.2.1
    · exact fun z => fC.2.2.2.2.1 y a ha z.symm
  refine ⟨m, hn.sameBut sb hCa, fun h' sb' => ⟨_, H', ?_, q⟩⟩
  exact I5.turned (t' := s5.toks) (fun b o hb e => (sb'.2 b hb).trans e) fC.1 fC.2.1 fC.2.2.2.1 fC.2.2.2.2.1 fC.2.2.2.2.2
end

/-! ### forms -/
end L2

namespace L2
open PySem PySem.Spec PyProof.Rows
end L2

set_option Elab.async false
set_option linter.all false
set_option maxRecDepth 100000
set_option maxHeartbeats 4000000
/-! Rules over the hand layer: sets of ints, all, isinstance, == of lists. Own work. -/
namespace L2
open PySem PySem.Spec PyProof.Rows SI

section
variable {X : Cx}





/-- a class, as a value -/
def clsV : V → Option Value
  | .ty n => some (.type n)
  | .ref C => some (.ref C)
  | _ => none
theorem clsV_of {c : V} {cv u : Value} (h : clsV c = some cv) (r : RelV c u) : u = cv := by
  cases c with
  | ty n => cases h; exact r
  | ref C => cases h; exact r
  | _ => cases h
/-- isinstance(x, c) -/
theorem call_isI : CallR X (.builtin "isinstance") (fun xs H Q => ∃ (x c : V) (cv t : Value) (b : Bool), xs = [x, c] ∧ clsV c = some cv ∧ TyOf X.K H x t ∧ PySem.W.kitOne X.K t cv = some b ∧ Q (.bl b) H) := by
  intro pins s σ H xs us Q I r h
  obtain ⟨x, c, cv, t, b, rfl, hcv, ty, hk, q⟩ := h
  obtain ⟨u, w', rfl, r1, r2⟩ := vals2 r
  have e := clsV_of hcv r2
  subst e
  exact isinst_ok I r1 ty hk fun tk => ⟨.bl b, H, I.tok tk, rfl, q⟩

/-- == of two lists of flat things -/
def eqVs : List V → List V → Bool
  | [], [] => true
  | x :: xs, y :: ys => eqV x y && eqVs xs ys
  | _, _ => false
theorem eqVs_len : ∀ {xs ys : List V}, eqVs xs ys = true → xs.length = ys.length
  | [], [], _ => rfl
  | [], _ :: _, h => by cases h
  | _ :: _, [], h => by cases h
  | x :: xs, y :: ys, h => by
    unfold eqVs at h
    rw [Bool.and_eq_true] at h
    simp [eqVs_len h.2]
theorem eqVs_all : ∀ {xs ys : List V}, xs.length = ys.length → eqVs xs ys = (List.range xs.length).all fun i => eqV (xs.getD i .non) (ys.getD i .non)
  | [], [], _ => rfl
  | [], _ :: _, h => by cases h
  | _ :: _, [], h => by cases h
  | x :: xs, y :: ys, h => by
    have ih := eqVs_all (xs := xs) (ys := ys) (by simpa using h)
    unfold eqVs
    rw [ih, List.length_cons, List.range_succ_eq_map, List.all_cons, List.all_map]
    rfl
theorem eqVs_ne {xs ys : List V} (h : xs.length ≠ ys.length) : eqVs xs ys = false := by
  cases e : eqVs xs ys with
  | false => rfl
  | true => exact absurd (eqVs_len e) h
def rEqL (K : PySem.W.Frag) (neg : Bool) : R2 := fun x y H Q => ∃ a b xs ys, x = .ref a ∧ y = .ref b ∧ SqL K H a xs ∧ SqL K H b ys ∧ xs.all flatV = true ∧ ys.all flatV = true ∧ Q (.bl (if neg then !eqVs xs ys else eqVs xs ys)) H
theorem op_eqL (hu : X.A.units + 1 < cLine) : OpR X (compareOp .Eq) (rEqL X.K false) := by
  intro pins s σ H x y v u Q I rx ry h
  obtain ⟨a, b, xs, ys, rfl, rfl, ha, hb, fx, fy, q⟩ := h
  cases rx
  cases ry
  obtain ⟨i1, r1, p1, z1⟩ := I.list ha
  obtain ⟨i2, r2, p2, z2⟩ := I.list hb
  have l1 := r1.length
  have l2 := r2.length
  by_cases hl : xs.length = ys.length
  · refine SeqAt.eq_listAt (e := fun i => eqV (xs.getD i .non) (ys.getD i .non)) p1.isList p2.isList (by simp; omega) (by omega) (fun j h1 h2 => ?_) ⟨.bl (eqVs xs ys), H, I, ?_, q⟩
    · simp only [List.size_toArray] at h1 h2
      have j1 : j < xs.length := by omega
      have j2 : j < ys.length := by omega
      obtain ⟨u1, e1, s1⟩ := r1.get (List.getElem?_eq_getElem j1)
      obtain ⟨u2, e2, s2⟩ := r2.get (List.getElem?_eq_getElem j2)
      rw [List.getElem?_eq_getElem h1] at e1
      rw [List.getElem?_eq_getElem h2] at e2
      cases e1
      cases e2
      have := eqAt_V (A := X.A.in1) (s := s) s1 s2 (List.all_eq_true.mp fx _ (List.getElem_mem j1)) (List.all_eq_true.mp fy _ (List.getElem_mem j2))
      simpa [List.getD, j1, j2] using this
    · show Value.bool _ = Value.bool _
      rw [eqVs_all hl, List.size_toArray, ← l1]
  · refine SeqAt.eq_list_lengthsAt p1.isList p2.isList (by simp; omega) (by omega) ⟨.bl (eqVs xs ys), H, I, ?_, q⟩
    rw [eqVs_ne hl]; rfl
end

theorem bt_len : bootBuiltins "len" = some (.builtin "len") := by decide +kernel
theorem bt_list : bootBuiltins "list" = some (.type "list") := by decide +kernel
theorem bt_isinstance : bootBuiltins "isinstance" = some (.builtin "isinstance") := by decide +kernel
theorem bt_bool : bootBuiltins "bool" = some (.type "bool") := by decide +kernel
theorem bt_int : bootBuiltins "int" = some (.type "int") := by decide +kernel
theorem same_upd {H : Hp} {l : Addr} {o : HO} (h : H l = none) : Same H (upd H l o) := fun b u e => by
  rw [upd_ne (ne_of_none e h)]; exact e
end L2

set_option Elab.async false
set_option linter.all false
set_option maxRecDepth 100000
set_option maxHeartbeats 4000000
/-! Rules over the hand layer: != of lists, sum, list(range(..)), bit_length. Own work. -/
namespace L2
open PySem PySem.Spec PyProof.Rows SI
section
variable {X : Cx}
theorem op_neL (hu : X.A.units + 1 < cLine) : OpR X (compareOp .NotEq) (rEqL X.K true) := by
  intro pins s σ H x y v u Q I rx ry h
  obtain ⟨a, b, xs, ys, rfl, rfl, ha, hb, fx, fy, q⟩ := h
  cases rx
  cases ry
  obtain ⟨i1, r1, p1, z1⟩ := I.list ha
  obtain ⟨i2, r2, p2, z2⟩ := I.list hb
  have l1 := r1.length
  have l2 := r2.length
  by_cases hl : xs.length = ys.length
  · refine SeqAt.RcNeAt.lists (e := fun i => eqV (xs.getD i .non) (ys.getD i .non)) p1.isList p2.isList (by simp; omega) (by omega) (fun j h1 h2 => ?_) X.prog X.w X.xe _ ⟨.bl (!eqVs xs ys), H, I, ?_, q⟩
    · simp only [List.size_toArray] at h1 h2
      have j1 : j < xs.length := by omega
      have j2 : j < ys.length := by omega
      obtain ⟨u1, e1, s1⟩ := r1.get (List.getElem?_eq_getElem j1)
      obtain ⟨u2, e2, s2⟩ := r2.get (List.getElem?_eq_getElem j2)
      rw [List.getElem?_eq_getElem h1] at e1
      rw [List.getElem?_eq_getElem h2] at e2
      cases e1
      cases e2
      have := eqAt_V (A := X.A.in1) (s := s) s1 s2 (List.all_eq_true.mp fx _ (List.getElem_mem j1)) (List.all_eq_true.mp fy _ (List.getElem_mem j2))
      simpa [List.getD, j1, j2] using this
    · show Value.bool _ = Value.bool _
      rw [eqVs_all hl, List.size_toArray, ← l1]
  · refine SeqAt.RcNeAt.lists_lengths p1.isList p2.isList (by simp; omega) (by omega) X.prog X.w X.xe _ ⟨.bl (!eqVs xs ys), H, I, ?_, q⟩
    rw [eqVs_ne hl]; rfl
end
end L2

set_option Elab.async false
set_option linter.all false
set_option maxRecDepth 100000
set_option maxHeartbeats 4000000
/-! Rules over the hand layer: classes' functions, methods by class, pairs walked (enumerate, zip), tuples compared, is. Own work. -/
namespace L2
open PySem PySem.Spec PyProof.Rows SI
/-! ### records of an iterator that is more than one object -/
section
variable {X : Cx} {pins : List (Addr × Obj)} {σ : St} {H : Hp} {s : Shared} {h' : Heap}
theorem Inv.turnedL {ch : List Addr} {t' : Nat} (I : Inv X pins σ H s) (hch : ∀ b ∈ ch, FpOk X pins H b) (k : ∀ b u, b ∉ ch → s.heap.get? b = some u → h'.get? b = some u) : Inv X pins σ H { s with heap := h', toks := t' } := by
  have nit : ∀ b u, H b = some u → b ∉ ch := fun b u e z => by rw [(hch b z).1] at e; cases e
  refine I.step (g' := s.gens) (d' := s.drawn) (ch := ch) (fun b hb => ?_) (fun b o _ _ hc e _ => k b o hc e) (fun b o _ _ hc e _ => ⟨o.slots, k b o hc e⟩) (fun _ _ _ _ n => n)
    (fun b o hc e => ⟨o, k b o hc e⟩) (fun _ _ e => e) (fun _ _ _ e => e) (fun b ps e => ⟨#[], by rw [e]; simp⟩) (fun m hm => ?_) (fun b u e => ?_) I.bare
  · obtain ⟨f0, f1, f2, f3, f4, f5⟩ := hch b hb
    exact ⟨f3, f1, f4, f5⟩
  · obtain ⟨o, es, ep, ho, r⟩ := hm
    exact ⟨o, es, ep, k _ o (fun z => (hch _ z).2.1 rfl) ho, r⟩
  · refine (I.hok b u e).stay (fun c v hc q => k c v ?_ q) (fun _ q => q) fun _ _ q => q
    rcases hc with z | z
    · rw [z]; exact nit b u e
    · exact nit c _ z
end

/-! ### enumerate(a list), walked by a target of two -/
theorem bt_max : bootBuiltins "max" = some (.builtin "max") := by decide +kernel
section
variable {X : Cx}
end

/-! ### zip(a list, a list), walked by a target of two -/
section
variable {X : Cx}
end
end L2

set_option Elab.async false
set_option linter.all false
set_option maxRecDepth 100000
set_option maxHeartbeats 4000000
/-! Rules over the hand layer: a class's function by the class, a method by the instance's class, max with a default, tuples compared, is, defs with defaults, comprehensions that make things. Own work. -/
namespace L2
open PySem PySem.Spec PyProof.Rows SI
/-! ### C.m(..) -/
section
variable {X : Cx} {CX : CXT} {k : Nat} {f C : Addr} {fd : FuncData} {ps : List Str} {sp : Sp} {dvs : List V} {ds : List Value} {E : XK} {x m : Str} {p pos apos : Pos} {e o : Expr} {es : List Expr} {ta : TE} {t : TA}

/-! ### o.m(..), by the class of o -/
end

/-! ### a def with defaults -/
structure FunD (K : PySem.W.Frag) (x qual : Str) (st : Stmt) (f : Addr) (fd : FuncData) (T : Addr) : Prop where
  ex : ∃ (oc : Value) (od : Option Addr) (kV doc pm : Value) (an : Option Addr) (cdv ct : Value) (osl : Array (Option Value)),
    fd = PySem.W.fnOf x qual (defArgs st) (defBody st) (defScope st) (.ref T) kV doc pm an cdv ct ∧ K.lookup f = some ⟨oc, od, .func fd, osl⟩ ∧ PySem.W.codeIn K cdv qual = true
  kp : PySem.W.keepIn K (.ref f) = true
section
variable {P : Program} {w : World} {K : PySem.W.Frag} {mg : Str → Option Value} {base : Heap}
theorem FunD.ok {x qual : Str} {st : Stmt} {f T : Addr} {fd : FuncData} {N ps : List Str} {k : Nat} {sp : Sp} (F : FunD K x qual st f fd T) (S : FnScope N ps (defScope st)) (len : ∀ vs H Q E, sp vs H Q E → vs.length = ps.length)
    (hbody : ∀ (cdv : Value) (A : Around) (outer : List Env) (s : Shared) (H : Hp) (vs : List V) (Q : VK) (E : XK), Room k (A.deeper (envOfC qual (defScope st) s.heap.objs.size f cdv)) → sp vs H Q E →
      ∃ t, PSs (cxOf CX0 P w K mg base N qual (defScope st) f cdv A outer s H E).nox (defBody st) t ∧ t { nx := fun _ H' => Q .non H', rt := Q } (start N vs) H) : FnOk P w K mg base CX0 (k + 1) f fd ps sp := by
  obtain ⟨oc, od, kV, doc, pm, an, cdv, ct, osl, rfl, lk, hcd⟩ := F.ex
  refine fn_of lk hcd S len fun A outer s H vs Q E hr hsp => ?_
  obtain ⟨t, h, q⟩ := hbody cdv A outer s H vs Q E hr hsp
  exact ⟨t, h.nox, q⟩
theorem fund_mk {x qual : Str} {st : Stmt} {f T : Addr} {oc : Value} {od an : Option Addr} {osl : Array (Option Value)} {kV doc pm cdv ct : Value} (l : K.lookup f = some ⟨oc, od, .func (PySem.W.fnOf x qual (defArgs st) (defBody st) (defScope st) (.ref T) kV doc pm an cdv ct), osl⟩)
    (c : PySem.W.codeIn K cdv qual = true) (k : PySem.W.keepIn K (.ref f) = true) : FunD K x qual st f (PySem.W.fnOf x qual (defArgs st) (defBody st) (defScope st) (.ref T) kV doc pm an cdv ct) T := ⟨⟨oc, od, kV, doc, pm, an, cdv, ct, osl, rfl, l, c⟩, k⟩
end

/-! ### max(a list of ints, default = d) -/
section
variable {prog : Program} {w : World} {A : Around} {R : Result → Shared → Prop}
end
end L2

set_option Elab.async false
set_option linter.all false
set_option maxRecDepth 100000
set_option maxHeartbeats 4000000
/-! Rules over the hand layer: max with a default, tuples compared, is, comprehensions that make things. Own work. -/
namespace L2
open PySem PySem.Spec PyProof.Rows SI
section
variable {X : Cx}
/-! ### tuples compared -/
/-! ### is, of bools -/
end
/-! ### comprehensions over a list, of which each element may make things -/
end L2

set_option Elab.async false
set_option linter.all false
set_option maxRecDepth 100000
set_option maxHeartbeats 4000000
/-! Rules over the hand layer: lists of different length compared, whatever they hold. Own work. -/
namespace L2
open PySem PySem.Spec PyProof.Rows SI
section
variable {X : Cx}
end
end L2

set_option Elab.async false
set_option linter.all false
set_option maxRecDepth 100000
set_option maxHeartbeats 4000000
/-! Comprehensions over enumerate, zip, range, whatever their elements do. Own work. -/
namespace L2
open PySem PySem.Spec PyProof.Rows
theorem lc_gen {J : It} {n : Nat} {g : TG} {tt : TT} {te : TE} {σ : St} {H : Hp} {D : Addr} {Q : Hp → Prop} (P : Nat → List V → St → Hp → Prop) (h0 : P 0 [] σ (upd H D (.lst [])))
    (hs : ∀ k ys σ' H', k < n → P k ys σ' H' → J.go k H' ∧ ∀ x H1, J.yld k H' x H1 → g x σ' H1 (fun σ2 H2 => tt σ2 H2 fun b H3 =>
      if b = true then te σ2 H3 fun y H4 => H4 D = some (.lst ys) ∧ ys.length < sizeLine ∧ ∃ m', m' < n - k ∧ m' = n - (k + 1) ∧ k + 1 ≤ n ∧ P (k + 1) (ys ++ [y]) σ2 (upd H4 D (.lst (ys ++ [y]))) else ∃ m', m' < n - k ∧ m' = n - (k + 1) ∧ k + 1 ≤ n ∧ P (k + 1) ys σ2 H3))
    (hd : ∀ ys σ' H', P n ys σ' H' → J.stop n H' ∧ Q H') :
    ∃ W : Nat → Nat → List V → St → Hp → Prop, (∃ m, W 0 m [] σ (upd H D (.lst []))) ∧ lcTurn J D g tt te Q W := by
  refine ⟨fun k m ys σ' H' => m = n - k ∧ k ≤ n ∧ P k ys σ' H', ⟨n, by simp, Nat.zero_le _, h0⟩, ?_⟩
  rintro k m ys σ' H' ⟨rfl, hk, hP⟩
  by_cases hlt : k < n
  · exact .inr (hs k ys σ' H' hlt hP)
  · have e : k = n := by omega
    subst e
    exact .inl (hd ys σ' H' hP)
/-- what stands behind a turn -/
def Beh (n k : Nat) (P : Nat → List V → St → Hp → Prop) (ys : List V) (σ : St) (H : Hp) : Prop := ∃ m', m' < n - k ∧ m' = n - (k + 1) ∧ k + 1 ≤ n ∧ P (k + 1) ys σ H
theorem Beh.of {n k : Nat} {P : Nat → List V → St → Hp → Prop} {ys : List V} {σ : St} {H : Hp} (hk : k < n) (h : P (k + 1) ys σ H) : Beh n k P ys σ H := ⟨n - (k + 1), by omega, rfl, hk, h⟩
theorem lc_rng {lo : Int} {n : Nat} {g : TG} {tt : TT} {te : TE} {σ : St} {H : Hp} {D : Addr} {Q : Hp → Prop} (P : Nat → List V → St → Hp → Prop) (h0 : P 0 [] σ (upd H D (.lst [])))
    (hs : ∀ k ys σ' H', k < n → P k ys σ' H' → g (.int (lo + k)) σ' H' (fun σ2 H2 => tt σ2 H2 fun b H3 =>
      if b = true then te σ2 H3 fun y H4 => H4 D = some (.lst ys) ∧ ys.length < sizeLine ∧ Beh n k P (ys ++ [y]) σ2 (upd H4 D (.lst (ys ++ [y]))) else Beh n k P ys σ2 H3))
    (hd : ∀ ys σ' H', P n ys σ' H' → Q H') :
    ∃ W : Nat → Nat → List V → St → Hp → Prop, (∃ m, W 0 m [] σ (upd H D (.lst []))) ∧ lcTurn (Itr lo n) D g tt te Q W := by
  refine lc_gen (n := n) P h0 (fun k ys σ' H' hk hP => ⟨hk, fun x H1 y => ?_⟩) (fun ys σ' H' hP => ⟨Nat.le_refl _, hd ys σ' H' hP⟩)
  obtain ⟨rfl, rfl⟩ := y
  exact hs k ys σ' _ hk hP
end L2

set_option Elab.async false
set_option linter.all false
set_option maxRecDepth 100000
set_option maxHeartbeats 4000000
/-! reversed(a list): walked, and as a list; cuts of a list by steps. Own work. -/
namespace RV
open PySem PyProof.Rows
theorem nolen : typeLookup (.type "list_reverseiterator") "__len__" = pure none := by rw [typeLookup_type, builtinLookup_eq_fast]; kernel_rfl
theorem hint : typeLookup (.type "list_reverseiterator") "__length_hint__" = pure (some (.builtin "list_reverseiterator.__length_hint__")) := by
  rw [typeLookup_type, builtinLookup_eq_fast]; kernel_rfl
section
variable {prog : Program} {w : World} {A : Around} {E : Value → Shared → Prop} {s : Shared} {J : Addr} {fp wr : List Addr} {G : Array GenState → Array GenState → Prop} {n : Nat} {P : Nat → Value → Prop} {St : Nat → Shared → Prop}
theorem grow {R : Result → Shared → Prop} (W : WalksS prog w A.in1 J fp wr G n P St) (hT : ∀ i t, St i t → t.TypeIs (.ref J) "list_reverseiterator") (D : Addr) (res : Value) (c : Nat) (st0 : St 0 s) (hDf : D ∉ fp) (hJ : J ∈ fp)
    (hD : s.heap.get? D = some { cls := .type "list", data := .seq #[] c }) (hn : n ≤ sizeLine)
    (hR : ∀ t xs k, Moved (D :: wr) G s t → t.heap.get? D = some { cls := .type "list", dict := none, data := .seq xs k, slots := #[] } → ItemsOf P xs n → R (.ok (.ret res)) t) :
    wpAny (model prog w) A.in1 (Builtin.List.listExtendWith (.ref D) (.ref J) res) (fun fin t => match fin with | .done f => R (.ok f) t | .again k => k.quiet = true ∧ codeAny (model prog w) A k R t) (fun e t => R (.error e) t) s := by
  have hne : D ≠ J := fun e => hDf (e ▸ hJ)
  have e1 : Builtin.List.listSameRef (.ref D) (.ref J) = false := by simp [Builtin.List.listSameRef, hne]
  unfold Builtin.List.listExtendWith
  refine wpAny_bind (wpAny_typeOf (hT 0 _ st0) ?_)
  rw [if_neg (by rw [e1]; decide)]
  refine wpAny_bind (W.self 0 _ _ _ st0 ?_)
  refine wpAny_bind (wpAny_holding ?_)
  unfold Builtin.List.listLengthHint
  refine wpAny_bind (wpAny_specialOf (hT 0 _ st0) nolen ?_)
  show wpAny _ A.in1 (specialOf (Value.ref J) (Str.ofString "__length_hint__") >>= _) _ _ _
  refine wpAny_bind (wpAny_specialOf (hT 0 _ st0) hint ?_)
  generalize hid : ("list_reverseiterator.__length_hint__" : String) = id0
  wp_delta
  rw [show splitId id0 = some ("list_reverseiterator", "__length_hint__") from by subst hid; decide +kernel]
  subst hid
  refine wpAny_bind (wpAny_isInstance (b := true) (hT 0 _ st0) (by rw [isSubtype_type]; kernel_rfl) ?_)
  refine wpAny_pure ?_
  rw [if_neg (by decide)]
  exact wpAny_pure ⟨plainId_quiet F.plain_extend_loop _, codeAny_extend_loopS W hn _ hDf _ n 0 _ _ _ rfl (Nat.zero_le _) st0 hD (ItemsOf.nil P) fun t xs k hm hD' hx => hR t xs k hm hD' hx⟩
theorem init {R : Result → Shared → Prop} (W : WalksS prog w A.in1 J fp wr G n P St) (hT : ∀ i t, St i t → t.TypeIs (.ref J) "list_reverseiterator") (D : Addr) (st0 : St 0 s) (hDf : D ∉ fp) (hJ : J ∈ fp)
    (hD : s.heap.get? D = some { cls := .type "list", data := .seq #[] }) (hn : n ≤ sizeLine)
    (hR : ∀ t xs k, Moved (D :: wr) G s t → t.heap.get? D = some { cls := .type "list", dict := none, data := .seq xs k, slots := #[] } → ItemsOf P xs n → R (.ok (.ret .none)) t) :
    wpAny (model prog w) A.in1 (Builtin.«list.__init__» ⟨[.ref D, .ref J], []⟩) (fun fin t => match fin with | .done f => R (.ok f) t | .again k => k.quiet = true ∧ codeAny (model prog w) A k R t) (fun e t => R (.error e) t) s := by
  show wpAny _ A.in1 (do let was ← Builtin.List.listItems (.ref D); Builtin.List.listUpdate (.ref D) (fun _ => #[]); letGo was.toList.reverse; Builtin.List.listExtendWith (.ref D) (.ref J) .none) _ _ s
  refine wpAny_bind ?_
  unfold Builtin.List.listItems
  refine wpAny_bind (wpAny_seqItems hD rfl (wpAny_pure ?_))
  show wpAny _ A.in1 (updateSeq D (fun _ => #[]) >>= fun _ => letGo (#[] : Array Value).toList.reverse >>= fun _ => Builtin.List.listExtendWith (.ref D) (.ref J) .none) _ _ s
  refine wpAny_bind (wpAny_updateSeq hD rfl ?_)
  have hD2 := Heap.get?_update_self (Obj.mapSeq (fun _ => (#[] : Array Value))) hD rfl
  have oth : ∀ b o, b ≠ D → s.heap.get? b = some o → (s.heap.update D (Obj.mapSeq (fun _ => (#[] : Array Value)))).get? b = some o :=
    fun b o hb q => (Heap.get?_update_other _ _ (Ne.symm hb)).trans q
  refine wpAny_bind (wpAny_letGo ?_)
  refine grow W hT D .none _ (W.frame 0 s _ s.toks st0 (Nat.le_refl _) fun b hb o q => oth b o (fun z => hDf (z ▸ hb)) q) hDf hJ hD2 hn fun t xs k hm hD' hx => ?_
  exact hR t xs k (Moved.trans W.gtrans ((Moved.refl W.grefl).then_heap (Nat.le_refl _) fun b o hb q => oth b o (fun z => hb (z ▸ List.mem_cons_self)) q) hm) hD' hx
/-- list(a walk back over a list) -/
theorem call_list_rev {l : Addr} {items : Array Value} {Q : Value → Shared → Prop} (hh : A.handled = none) (hne : l ≠ J) (hJ : s.heap.IsRevIter J l ((items.size : Int) - 1)) (hl : s.heap.IsList l items) (hn : items.size ≤ sizeLine)
    (hQ : ∀ h' tk c, (∀ b o, b ≠ J → s.heap.get? b = some o → h'.get? b = some o) → h'.get? s.heap.objs.size = some { cls := .type "list", dict := none, data := .seq items.toList.reverse.toArray c, slots := #[] } → Q (.ref s.heap.objs.size) { s with heap := h', toks := tk }) :
    wpAny (model prog w) A (call (.type "list") [.ref J]) Q E s := by
  have W := (Walks.listRev (prog := prog) (w := w) (A := A.in1.in1) (by simp [hh]) J l hne items).toS
  have hJlt : J < s.heap.objs.size := by obtain ⟨o, ho, _⟩ := hJ; exact Heap.lt_size ho
  have hllt : l < s.heap.objs.size := by obtain ⟨o, ho, _⟩ := hl; exact Heap.lt_size ho
  have hDf : s.heap.objs.size ∉ [J, l] := fun z => by
    simp only [List.mem_cons, List.not_mem_nil, or_false] at z
    rcases z with z | z
    · rw [← z] at hJlt; exact Nat.lt_irrefl _ hJlt
    · rw [← z] at hllt; exact Nat.lt_irrefl _ hllt
  refine callType_codes (Q₁ := fun obj t => obj = .ref s.heap.objs.size ∧ t = { s with heap := s.heap.push { cls := .type "list", data := .seq #[] } }) F.called_list (F.typeCall_list_1 _) F.entry_list_init (code_list_new _ ⟨rfl, rfl⟩) fun obj t ht => ?_
  obtain ⟨rfl, rfl⟩ := ht
  have hD : (s.heap.push { cls := .type "list", data := .seq #[] }).get? s.heap.objs.size = some { cls := .type "list", data := .seq #[] } := Heap.get?_push_size _ rfl
  refine ⟨⟨_, hD, rfl⟩, F.args_list_init_2 _ _, init (A := A.in1) W (fun _ _ x => x.2.1.typeIs) _ ⟨Nat.zero_le _, ?_, hl.push _⟩ hDf (by simp) hD hn fun t xs k hm hD' hx => ?_⟩
  · have e : (items.size : Int) - 1 - ((0 : Nat) : Int) = (items.size : Int) - 1 := by omega
    rw [e]
    exact hJ.at fun o q => Heap.get?_push_of_some _ q
  · have et := Moved.eq_with hm
    have ex : xs = items.toList.reverse.toArray := by
      obtain ⟨h1, h2⟩ := hx
      apply Array.ext'
      apply List.ext_getElem?
      intro i
      by_cases hi : i < items.size
      · have q1 : xs[i]? = some (xs[i]'(by omega)) := Array.getElem?_eq_getElem (by omega)
        have q2 := h2 i _ q1
        rw [Array.getElem?_toList, q1, ← q2]
        have : items.toList.reverse[i]? = items.toList[items.toList.length - 1 - i]? := List.getElem?_reverse (by simpa using hi)
        rw [List.toList_toArray, this, Array.getElem?_toList, Array.length_toList]
      · rw [List.getElem?_eq_none (by rw [Array.length_toList]; omega), List.getElem?_eq_none (by simp; omega)]
    subst ex
    refine ⟨rfl, ?_⟩
    rw [et]
    refine hQ t.heap t.toks k (fun b o hb q => hm.heap b o (fun z => ?_) (Heap.get?_push_of_some _ q)) hD'
    simp only [List.mem_cons, List.not_mem_nil, or_false] at z
    rcases z with z | z
    · exact absurd (Heap.lt_size q) (by rw [z]; exact Nat.lt_irrefl _)
    · exact hb z
end
end RV
namespace L2
open PySem PySem.Spec PyProof.Rows
theorem bt_reversed : bootBuiltins "reversed" = some (.type "reversed") := by decide +kernel
def tLRev (K : PySem.W.Frag) (te : TE) : TE := fun σ H Q => te σ H fun x H1 => ∃ a xs, x = .ref a ∧ SqL K H1 a xs ∧ ∀ p, H1 p = none → Q (.ref p) (upd H1 p (.lst xs.reverse))
section
variable {X : Cx} {e : Expr} {te : TE} {p1 p2 p3 p4 : Pos}
/-- list(reversed(e)), e a list -/
theorem pe_lrev (hc : X.calm = true) (gl : Gl X "list") (ml : X.mg "list" = none) (gr : Gl X "reversed") (mr : X.mg "reversed" = none) (he : PE X e te)
    (hs : starEach [e] X.env = [(false, eval e X.env)] := by rfl) (hs2 : starEach [Expr.Call (.Name "reversed" p2) [e] [] p3] X.env = [(false, eval (.Call (.Name "reversed" p2) [e] [] p3) X.env)] := by rfl) :
    PE X (.Call (.Name "list" p1) [.Call (.Name "reversed" p2) [e] [] p3] [] p4) (tLRev X.K te) := by
  intro pins s σ H Q I h
  refine wpAny_Call_Name_kw (ld_blt I gl ml bt_list ?_)
  refine PyProof.Rows.callWith_type1 ?_ hs2 rfl
  rw [hs2]
  show wpAny _ _ (spliced ((false, eval (.Call (.Name "reversed" p2) [e] [] p3) X.env) :: [])) _ _ s
  refine Calls.spliced_cons ?_
  refine wpAny_Call_Name_kw (ld_blt I gr mr bt_reversed ?_)
  refine PyProof.Rows.callWith_type1 ?_ hs rfl
  rw [hs]
  show wpAny _ _ (spliced ((false, eval e X.env) :: [])) _ _ s
  refine Calls.spliced_cons (thn (he pins s σ H _ I h) fun u s1 ⟨x, H1, I1, r1, q1⟩ => Calls.spliced_nil ?_)
  obtain ⟨a, xs, rfl, hq, q⟩ := q1
  cases r1
  obtain ⟨its, rv, pl, hz⟩ := I1.list hq
  have hlen := rv.length
  have ha : a < s1.heap.objs.size := by obtain ⟨o, ho, _⟩ := pl.isList; exact Heap.lt_size ho
  refine call_reversed_list pl.isList (Calls.spliced_nil ?_)
  refine RV.call_list_rev (J := s1.heap.objs.size) (l := a) (items := its.toArray) (I.ok.hd hc) (Nat.ne_of_lt ha) ⟨_, Heap.get?_push_size _ rfl, rfl, rfl⟩ (pl.isList.push _) (by rw [List.size_toArray]; omega) fun h' tk c hk hD => ?_
  have hle : s1.heap.objs.size ≤ s1.heap.objs.size + 1 := Nat.le_succ _
  have hD' : h'.get? (s1.heap.objs.size + 1) = some { cls := .type "list", dict := none, data := .seq its.reverse.toArray c, slots := #[] } := by
    rw [← hD]; congr 1; exact (Heap.size_push ..).symm
  refine ⟨.ref (s1.heap.objs.size + 1), upd H1 (s1.heap.objs.size + 1) (.lst xs.reverse), ?_, ?_, q _ (I1.hok.fresh hle)⟩
  · exact I1.laid (t' := tk) (fun b o hb => hk b o (Nat.ne_of_lt (Heap.lt_size hb)) (Heap.get?_push_of_some _ hb)) hle (show ObjOk X.prog X.w _ h' _ (.lst xs.reverse) from ⟨by rw [List.length_reverse]; exact hz, its.reverse, c, rv.reverse, hD'⟩)
  · show Value.ref _ = Value.ref _
    rw [Heap.size_push]
end
/-! ### a walk back over a list -/
section
variable {X : Cx}
end
/-! ### cuts by steps -/
section
variable {X : Cx} {e : Expr} {te : TE} {lo hi : Option Expr} {ke : Expr} {tl th ts : TO} {pos p2 : Pos}
end
end L2

set_option Elab.async false
set_option linter.all false
set_option maxRecDepth 100000
set_option maxHeartbeats 4000000
/-! reversed(a tuple), walked. Own work. -/
namespace RVT
open PySem PyProof.Rows
theorem noRev : typeLookup (.type "tuple") "__reversed__" = pure none := by rw [typeLookup_type, builtinLookup_eq_fast]; kernel_rfl
theorem subTD : isSubtype (.type "tuple") (.type "dict") = pure false := by rw [isSubtype_type]; kernel_rfl
theorem slot_init : Slot "reversed" "__init__" "object.__init__" :=
  .of (owner := "object") (n := "__init__") (by rw [typeLookup_type, builtinLookup_eq_fast]; kernel_rfl) (by decide +kernel) (by decide +kernel) (by decide +kernel)
    (by first | exact .inl (by decide +kernel) | exact .inr (by decide +kernel)) (by rw [isSubtype_type]; kernel_rfl)
theorem called : TypeCalled "reversed" "reversed.__new__" "object.__init__" := ⟨by decide +kernel, F.create_reversed, ⟨_, _, F.mro_reversed⟩, F.made_reversed, F.plain_reversed_new, F.sub_reversed_self, slot_init⟩
theorem slot_next : Slot "reversed" "__next__" "reversed.__next__" :=
  .of (owner := "reversed") (n := "__next__") (by rw [typeLookup_type, builtinLookup_eq_fast]; kernel_rfl) (by decide +kernel) (by decide +kernel) (by decide +kernel)
    (by first | exact .inl (by decide +kernel) | exact .inr (by decide +kernel)) (by rw [isSubtype_type]; kernel_rfl)
theorem entry_next : entryFor table "reversed.__next__" = some Builtin.«reversed.__next__» := entryFor_of_tree (by kernel_rfl)
theorem args_next (a : Value) : argsOk "reversed.__next__" ⟨[a], []⟩ := by unfold argsOk; kernel_rfl
theorem slot_iter : Slot "reversed" "__iter__" "reversed.__iter__" :=
  .of (owner := "reversed") (n := "__iter__") (by rw [typeLookup_type, builtinLookup_eq_fast]; kernel_rfl) (by decide +kernel) (by decide +kernel) (by decide +kernel)
    (by first | exact .inl (by decide +kernel) | exact .inr (by decide +kernel)) (by rw [isSubtype_type]; kernel_rfl)
theorem args_iter (a : Value) : argsOk "reversed.__iter__" ⟨[a], []⟩ := by unfold argsOk; kernel_rfl
theorem entry_iter : entryFor table "reversed.__iter__" = some Builtin.«dict_keyiterator.__iter__» :=
  entryFor_alias (id' := "dict_keyiterator.__iter__") (by kernel_rfl) (by first | rfl | decide +kernel | (unfold String.splitOn; simp +decide [String.splitOnAux])) (by decide +kernel) (by kernel_rfl)
def rvsObj (t : Addr) (i : Int) : Obj := { cls := .type "reversed", data := .fields #[.ref t, rawInt i] }
def IsRvs (h : Heap) (a t : Addr) (i : Int) : Prop := ∃ o, h.get? a = some o ∧ o.cls = .type "reversed" ∧ o.data = .fields #[.ref t, rawInt i]
section
variable {prog : Program} {w : World} {A : Around} {E : Value → Shared → Prop} {s : Shared}
theorem IsRvs.typeIs {a t : Addr} {i : Int} (x : IsRvs s.heap a t i) : s.TypeIs (.ref a) "reversed" := let ⟨o, ho, hc, _⟩ := x; ⟨o, ho, hc⟩
theorem IsRvs.at {h h' : Heap} {a t : Addr} {i : Int} (x : IsRvs h a t i) (e : ∀ o, h.get? a = some o → h'.get? a = some o) : IsRvs h' a t i := let ⟨o, ho, r⟩ := x; ⟨o, e _ ho, r⟩
theorem meets_new (t : Addr) (items : Array Value) : Meets (Builtin.«reversed.__new__» ⟨[.type "reversed", .ref t], []⟩) (fun _ R s => IsTup s.heap t items ∧ (items.size : Int) < 2 ^ 63 ∧
    ∀ tk, R (.ok (.ret (.ref s.heap.objs.size))) { s with heap := s.heap.push (rvsObj t ((items.size : Int) - 1)), toks := tk }) :=
  .of_wp fun prog w A R s h => by
    obtain ⟨ht, hz, h⟩ := h
    unfold Builtin.«reversed.__new__»
    refine wpAny_bind (wpAny_of_eq (newClass_reversed _) ?_)
    try dsimp only
    refine wpAny_bind (wpAny_of_eq (a := ()) (by first | rfl | kernel_rfl) ?_)
    refine wpAny_bind (wpAny_of_eq (a := ()) (by first | rfl | kernel_rfl) ?_)
    try dsimp only
    refine wpAny_bind (wpAny_specialOf ht.typeIs noRev ?_)
    try dsimp only
    refine wpAny_bind (wpAny_mono (Q := fun b s' => b = true ∧ s' = s) ?_ ?_ fun _ _ z => z)
    · show wpAny _ _ (isInstance (.ref t) (.type "dict") >>= _) _ _ s
      refine wpAny_bind (wpAny_isInstance (T := "tuple") (b := false) ht.typeIs subTD ?_)
      show wpAny _ _ (specialOf (.ref t) (Str.ofString "__getitem__") >>= _) _ _ s
      refine wpAny_bind (wpAny_specialOf ht.typeIs slot_tuple_getitem.lookup ?_)
      exact wpAny_pure ⟨rfl, rfl⟩
    rintro b s' ⟨rfl, rfl⟩
    rw [if_neg (by decide)]
    refine wpAny_bind (len_tuple ht hz ?_)
    refine wpAny_bind (wpAny_of_eq (a := some (items.size : Int)) rfl ?_)
    try dsimp only
    refine wpAny_bind ?_
    show wpAny _ _ (newObj (.type "reversed") (.fields #[.ref t, rawInt ((items.size : Int) - 1)])) _ _ _
    exact wpAny_newObj_type (wpAny_pure ⟨_, rfl, h _⟩)
theorem call_rvs {t : Addr} {items : Array Value} {Q : Value → Shared → Prop} (ht : IsTup s.heap t items) (hz : (items.size : Int) < 2 ^ 63)
    (h : ∀ tk, Q (.ref s.heap.objs.size) { s with heap := s.heap.push (rvsObj t ((items.size : Int) - 1)), toks := tk }) : wpAny (model prog w) A (call (.type "reversed") [.ref t]) Q E s :=
  callType_new called (by decide) (F.typeCall_reversed_1 _) (F.newCall_reversed_1 _) (fun obj => F.args_object_init_2 obj _) F.entry_reversed_new (meets_new t items) ⟨ht, hz, fun tk => ⟨⟨_, Heap.get?_push_size _ rfl, rfl⟩, h tk⟩⟩
theorem next_item {it t : Addr} {i : Nat} {items : Array Value} {x : Value} {Q : Option Value → Shared → Prop} (hit : IsRvs s.heap it t (i : Int)) (ht : IsTup s.heap t items) (hi : (i : Int) < 2 ^ 63) (hx : items[i]? = some x)
    (hQ : ∀ h' tk, IsRvs h' it t ((i : Int) - 1) → Heap.SameBut it s.heap h' → Q (some x) { s with heap := h', toks := tk }) : wpAny (model prog w) A (pyNext (.ref it)) Q E s := by
  obtain ⟨o, ho, hc, hd⟩ := id hit
  unfold pyNext
  refine wpAny_bind (wpAny_attempt (wpAny_callSpecial?_slot (name := Str.ofString "__next__") hit.typeIs slot_next
    (wpAny_call_entry slot_next hit.typeIs entry_next ?_ (args_next _))))
  unfold Builtin.«reversed.__next__»
  refine wpAny_bind (wpAny_of_eq (a := (Value.ref it, [])) rfl ?_)
  try dsimp only
  refine wpAny_bind (wpAny_field ho hd (x := .ref t) rfl ?_)
  refine wpAny_bind (wpAny_field ho hd (x := rawInt (i : Int)) rfl ?_)
  show wpAny _ _ (if (i : Int) < 0 then _ else _) _ _ s
  rw [if_neg (by omega)]
  show wpAny _ _ (specialOf (.ref t) (Str.ofString "__getitem__") >>= _) _ _ s
  refine wpAny_bind (wpAny_specialOf ht.typeIs slot_tuple_getitem.lookup ?_)
  rw [if_neg (by simp)]
  refine wpAny_bind (wpAny_mkInt ?_)
  have hj : seqIndex? (i : Int) items.size = some i := by
    have hlt : i < items.size := (Array.getElem?_eq_some_iff.mp hx).1
    unfold seqIndex?
    simp
    omega
  refine wpAny_bind (wpAny_attempt (getItem_tuple ht (by omega) hi hj hx ?_))
  try dsimp only
  refine wpAny_bind (wpAny_field ho hd (x := rawInt (i : Int)) rfl ?_)
  show wpAny _ _ (setField (.ref it) 1 (rawInt ((i : Int) - 1)) >>= _) _ _ _
  refine wpAny_bind (wpAny_setField ho hd (by simp) ?_)
  refine wpAny_pure ⟨x, rfl, wpAny_pure (hQ _ _ ?_ (Heap.SameBut.update ..))⟩
  exact ⟨_, Heap.get?_update_self _ ho (Obj.isFreed_of_fields (Obj.data_mapFields hd _)), (Obj.cls_mapFields ..).trans hc, by
    rw [Obj.data_mapFields hd]; simp⟩
theorem next_end {it t : Addr} {Q : Option Value → Shared → Prop} (hh : A.handled = none) (hit : IsRvs s.heap it t (-1))
    (hQ : ∀ h', Heap.ExtBut it s.heap h' → Q none { s with heap := h' }) : wpAny (model prog w) A (pyNext (.ref it)) Q E s := by
  obtain ⟨o, ho, hc, hd⟩ := id hit
  unfold pyNext
  refine wpAny_bind (wpAny_attempt (wpAny_callSpecial?_slot (name := Str.ofString "__next__") hit.typeIs slot_next
    (wpAny_call_entry slot_next hit.typeIs entry_next ?_ (args_next _))))
  unfold Builtin.«reversed.__next__»
  refine wpAny_bind (wpAny_of_eq (a := (Value.ref it, [])) rfl ?_)
  try dsimp only
  refine wpAny_bind (wpAny_field ho hd (x := .ref t) rfl ?_)
  refine wpAny_bind (wpAny_field ho hd (x := rawInt (-1)) rfl ?_)
  show wpAny _ _ (if (-1 : Int) < 0 then _ else _) _ _ s
  rw [if_pos (by decide)]
  refine wpAny_bind (wpAny_rule ?_)
  refine wpAny_bind ?_
  show wpAny _ _ (setField (.ref it) 1 (rawInt (-1)) >>= fun _ => setField (.ref it) 0 .none) _ _ s
  refine wpAny_bind (wpAny_setField ho hd (by simp) ?_)
  have h1 := Heap.get?_update_self (Obj.mapFields fun vs => vs.setIfInBounds 1 (rawInt (-1))) ho (Obj.isFreed_of_fields (Obj.data_mapFields hd _))
  refine wpAny_setField h1 (Obj.data_mapFields hd _) (by simp) ?_
  have eb : Heap.ExtBut it s.heap ((s.heap.update it (Obj.mapFields fun x => x.setIfInBounds 1 (rawInt (-1)))).update it (Obj.mapFields fun x => x.setIfInBounds 0 Value.none)) := fun b o' hb q => by
    rw [Heap.get?_update_other _ _ (Ne.symm hb), Heap.get?_update_other _ _ (Ne.symm hb)]; exact q
  show wpAny _ _ _ _ _ { s with heap := (s.heap.update it (Obj.mapFields fun x => x.setIfInBounds 1 (rawInt (-1)))).update it (Obj.mapFields fun x => x.setIfInBounds 0 Value.none) }
  generalize (s.heap.update it (Obj.mapFields fun x => x.setIfInBounds 1 (rawInt (-1)))).update it (Obj.mapFields fun x => x.setIfInBounds 0 Value.none) = h2 at eb ⊢
  refine wpAny_bind ?_
  show wpAny _ _ (newExc (.type "StopIteration") [] >>= _) _ _ _
  refine wpAny_bind ?_
  simp only [newExc, newTuple]
  refine wpAny_bind (wpAny_newObj_type ?_ (by size_fits))
  refine wpAny_bind (m := firstArgMember _ _) (wpAny_of_eq (a := Value.none) (by first | rfl | (simp only [firstArgMember]; rfl)) ?_)
  refine wpAny_newObj_type ?_ (by size_fits)
  simp only [raiseNew]
  refine wpAny_bind (wpAny_handled ?_)
  first | rw [show A.in1.handled = none from hh] | rw [hh]
  refine wpAny_bind (wpAny_pure (wpAny_throw ?_))
  refine wpAny_bind (wpAny_isInstance (T := "StopIteration") (b := true) ⟨_, Heap.get?_push_size _ rfl, rfl⟩ isSubtype_stop ?_)
  exact wpAny_pure (hQ _ ((eb.push _).push _))
theorem iter_self {it t : Addr} {i : Int} {Q : Value → Shared → Prop} (hit : IsRvs s.heap it t i) (h : Q (.ref it) s) : wpAny (model prog w) A (pyIter (.ref it)) Q E s := by
  refine wpAny_pyIter_slot hit.typeIs slot_iter (wpAny_call_entry slot_iter hit.typeIs entry_iter ?_ (args_iter _))
  show wpAny _ _ (ret (.ref it)) _ _ s
  exact wpAny_pure ⟨_, rfl, "reversed", _, hit.typeIs, slot_next.lookup, h⟩
end
end RVT
namespace L2
open PySem PySem.Spec PyProof.Rows RVT
/-! ### a walk back over a tuple -/
def Itw (K : PySem.W.Frag) (a : Addr) (n : Nat) : It :=
  ⟨fun i H => i < n ∧ ∃ xs, SqT K H a xs ∧ xs.length = n, fun i H x H' => H' = H ∧ ∀ xs, SqT K H a xs → xs[n - 1 - i]? = some x, fun i H => i = n ∧ ∃ xs, SqT K H a xs ∧ xs.length = n⟩
theorem turn_rvs {P : Program} {w : World} {K : PySem.W.Frag} {tg : Expr} (a it : Addr) (n : Nat) (hne : a ≠ it) :
    Turn P w K tg (Itw K a n) [it] it (fun i h => i ≤ n ∧ IsRvs h it a ((n : Int) - 1 - (i : Int))) where
  mem := by simp
  obj := fun i h st b hb => by
    obtain ⟨_, o, ho, c, d⟩ := st
    rw [List.mem_singleton.mp hb]
    exact ⟨o, ho, fun v z => by rw [d] at z; cases z⟩
  keep := fun i h h' st k => ⟨st.1, st.2.at fun o ho => k it (by simp) o ho⟩
  item := by
    intro X hP hw hK hc i pins s σ H E I hf st hg
    subst hP hw hK
    obtain ⟨hi, xs, hq, hx⟩ := hg
    obtain ⟨its, rv, p, hz⟩ := I.tuple hq
    have hlen := rv.length
    obtain ⟨u, hu, ru⟩ := rv.get (i := n - 1 - i) (x := xs[n - 1 - i]'(by omega)) (List.getElem?_eq_getElem (by omega))
    have hit := st.2
    have e : (n : Int) - 1 - (i : Int) = ((n - 1 - i : Nat) : Int) := by omega
    rw [e] at hit
    refine next_item hit p (by rw [sizeLine_eq] at hz; omega) (x := u) (by simpa using hu) fun h1 tk hit1 hs1 => ?_
    obtain ⟨o1, ho1, hc1, hd1⟩ := id hit1
    refine ⟨_, rfl, go_of ho1 hc1 hd1 (by decide) ⟨xs[n - 1 - i]'(by omega), H, ?_, ru, ⟨rfl, fun ys hy => by rw [I.tuple_inj hy hq]; exact List.getElem?_eq_getElem (by omega)⟩, ⟨hi, ?_⟩, fun b hb => (hf b hb).1⟩⟩
    · exact I.turnedL (ch := [it]) (t' := tk) hf fun b o hb q => hs1.extBut b o (fun z => hb (by simp [z])) q
    · have e2 : ((n - 1 - i : Nat) : Int) - 1 = (n : Int) - 1 - ((i + 1 : Nat) : Int) := by omega
      rw [e2] at hit1
      exact hit1
  done := by
    intro X hP hw hK hc i pins s σ H E I hf st hg
    subst hP hw hK
    obtain ⟨hi, xs, hq, hx⟩ := hg
    have hit := st.2
    have e : (n : Int) - 1 - (i : Int) = -1 := by omega
    rw [e] at hit
    exact next_end (I.ok.hd hc) hit fun h' eb => ⟨rfl, I.turnedL (ch := [it]) (t' := s.toks) hf fun b o hb q => eb b o (fun z => hb (by simp [z])) q⟩
  self := fun _ _ _ _ _ st h => iter_self st.2 h
def iRvs (K : PySem.W.Frag) (te : TE) : TI := fun σ H R => te σ H fun x H1 => ∃ a xs, x = .ref a ∧ SqT K H1 a xs ∧ R (Itw K a xs.length) H1
section
variable {X : Cx}
/-- reversed(e), e a tuple -/
theorem pi_rvs {e : Expr} {te : TE} {p pos : Pos} {tg : Expr} (hg : Gl X "reversed") (hm : X.mg "reversed" = none) (he : PE X e te) (hs : starEach [e] X.env = [(false, eval e X.env)] := by rfl) :
    PI X tg (.Call (.Name "reversed" p) [e] [] pos) (iRvs X.K te) := by
  intro pins s σ H R I h
  refine wpAny_Call_Name_kw (ld_blt I hg hm bt_reversed ?_)
  refine PyProof.Rows.callWith_type1 ?_ hs rfl
  rw [hs]
  show wpAny _ _ (spliced ((false, eval e X.env) :: [])) _ _ s
  refine Calls.spliced_cons (thn (he pins s σ H _ I h) fun u s1 ⟨x, H1, I1, r1, q1⟩ => Calls.spliced_nil ?_)
  obtain ⟨a, xs, rfl, hq, q⟩ := q1
  cases r1
  obtain ⟨its, rv, pl, hz⟩ := I1.tuple hq
  have hlen := rv.length
  have ha : a < s1.heap.objs.size := by obtain ⟨o, ho, _⟩ := id pl; exact Heap.lt_size ho
  refine call_rvs pl (by rw [List.size_toArray, ← hlen]; rw [sizeLine_eq] at hz; omega) fun tk => ?_
  have hJ : IsRvs (s1.heap.push (rvsObj a ((its.toArray.size : Int) - 1))) s1.heap.objs.size a ((xs.length : Int) - 1 - ((0 : Nat) : Int)) := by
    rw [hlen]
    refine ⟨_, Heap.get?_push_size _ rfl, rfl, ?_⟩
    show Data.fields #[.ref a, rawInt ((its.toArray.size : Int) - 1)] = _
    rw [List.size_toArray, show ((its.length : Int) - 1 - ((0 : Nat) : Int)) = (its.length : Int) - 1 by omega]
  refine iter_self (s := { s1 with heap := s1.heap.push (rvsObj a ((its.toArray.size : Int) - 1)), toks := tk }) hJ ?_
  have I2 : Inv X pins σ H1 { s1 with heap := s1.heap.push (rvsObj a ((its.toArray.size : Int) - 1)), toks := tk } := I1.kept (t' := tk) fun b o q => Heap.get?_push_of_some _ q
  refine ⟨s1.heap.objs.size, [s1.heap.objs.size], _, _, H1, rfl, I2, turn_rvs a _ xs.length (Nat.ne_of_lt ha), ⟨Nat.zero_le _, hJ⟩, fun b hb => ?_, q⟩
  rw [List.mem_singleton.mp hb]
  exact I1.fpOk (Nat.le_refl _) (I1.hok.fresh (Nat.le_refl _))
end
theorem for_rvs {K : PySem.W.Frag} {a : Addr} {xs : List V} {g : TG} {tb : TS} {D : Ends} {σ : St} {H : Hp} (Pv : Nat → St → Hp → Prop) (h0 : Pv 0 σ H) (hl : ∀ i σ H, i ≤ xs.length → Pv i σ H → SqT K H a xs)
    (hs : ∀ i x σ H, xs[xs.length - 1 - i]? = some x → i < xs.length → Pv i σ H → g x σ H fun σ2 H2 => tb { D with nx := Pv (i + 1), ct := Pv (i + 1), bk := D.nx } σ2 H2) (hd : ∀ σ H, Pv xs.length σ H → D.nx σ H) :
    ∃ W : Nat → Nat → St → Hp → Prop, (∃ m, W 0 m σ H) ∧ ∀ i m σ H, W i m σ H →
      ((Itw K a xs.length).stop i H ∧ D.nx σ H) ∨ ((Itw K a xs.length).go i H ∧ ∃ N : St → Hp → Prop, (∀ σ' H', N σ' H' → ∃ m', m' < m ∧ W (i + 1) m' σ' H') ∧ ∀ x H', (Itw K a xs.length).yld i H x H' → g x σ H' fun σ2 H2 => tb { D with nx := N, ct := N, bk := D.nx } σ2 H2) := by
  refine ⟨fun i m σ H => m = xs.length - i ∧ i ≤ xs.length ∧ Pv i σ H, ⟨xs.length, by simp, Nat.zero_le _, h0⟩, ?_⟩
  rintro i m σ H ⟨rfl, hi, p⟩
  have q := hl i σ H hi p
  by_cases hlt : i < xs.length
  · refine .inr ⟨⟨hlt, xs, q, rfl⟩, Pv (i + 1), fun σ' H' p' => ⟨xs.length - (i + 1), by omega, rfl, hlt, p'⟩, fun x H' y => ?_⟩
    obtain ⟨rfl, y⟩ := y
    exact hs i x σ _ (y xs q) hlt p
  · have e : i = xs.length := by omega
    exact .inl ⟨⟨e, xs, q, rfl⟩, hd σ H (by rw [← e]; exact p)⟩
end L2

set_option Elab.async false
set_option linter.all false
set_option maxRecDepth 100000
namespace L2
open PySem PySem.Spec PyProof.Rows

/-! ### lists of pairs as tables -/
section
variable {κ : Type} [DecidableEq κ]
def valV (kvs : List (κ × V)) (k : κ) : Option V := (kvs.find? fun kv => decide (kv.1 = k)).map (·.2)
/-- in its place, or at the end -/
def putK (kvs : List (κ × V)) (k : κ) (v : V) : List (κ × V) :=
  if (kvs.any fun kv => decide (kv.1 = k)) = true then kvs.map (fun kv => if kv.1 = k then (kv.1, v) else kv) else kvs ++ [(k, v)]

theorem valV_pos {p : κ × V} {r : List (κ × V)} {k : κ} (e : p.1 = k) : valV (p :: r) k = some p.2 := by simp [valV, List.find?_cons, e]
theorem valV_neg {p : κ × V} {r : List (κ × V)} {k : κ} (e : ¬ p.1 = k) : valV (p :: r) k = valV r k := by simp [valV, List.find?_cons, e]
theorem valV_any (k : κ) : ∀ kvs : List (κ × V), (kvs.any fun kv => decide (kv.1 = k)) = (valV kvs k).isSome
  | [] => rfl
  | p :: r => by
    rw [List.any_cons]
    by_cases e : p.1 = k
    · simp only [valV_pos e, decide_eq_true e, Bool.true_or, Option.isSome_some]
    · rw [valV_neg e, decide_eq_false e, Bool.false_or]; exact valV_any k r
theorem valV_map (k j : κ) (y : V) : ∀ kvs : List (κ × V), valV (kvs.map fun kv => if kv.1 = k then (kv.1, y) else kv) j = (valV kvs j).map fun x => if j = k then y else x
  | [] => rfl
  | p :: r => by
    have ih := valV_map k j y r
    rw [List.map_cons]
    by_cases h : p.1 = k
    · rw [if_pos h]
      by_cases e : p.1 = j
      · rw [valV_pos (p := (p.1, y)) e, valV_pos e, Option.map_some, if_pos (e.symm.trans h)]
      · rw [valV_neg (p := (p.1, y)) e, valV_neg e, ih]
    · rw [if_neg h]
      by_cases e : p.1 = j
      · rw [valV_pos (p := p) e, valV_pos e, Option.map_some, if_neg (fun z => h (e.trans z))]
      · rw [valV_neg (p := p) e, valV_neg e, ih]
theorem valV_snoc (k j : κ) (y : V) : ∀ kvs : List (κ × V), valV kvs k = none → valV (kvs ++ [(k, y)]) j = if j = k then some y else valV kvs j
  | [], _ => by
    by_cases e : k = j
    · rw [if_pos e.symm]; exact valV_pos (p := (k, y)) e
    · rw [if_neg (fun z => e z.symm)]; exact valV_neg (p := (k, y)) e
  | p :: r, hn => by
    rw [List.cons_append]
    have hk : ¬ p.1 = k := fun z => by rw [valV_pos z] at hn; cases hn
    rw [valV_neg hk] at hn
    have ih := valV_snoc k j y r hn
    by_cases e : p.1 = j
    · rw [valV_pos e, valV_pos e, if_neg (fun z => hk (e.trans z))]
    · rw [valV_neg e, valV_neg e, ih]
theorem valV_put (kvs : List (κ × V)) (k j : κ) (y : V) : valV (putK kvs k y) j = if j = k then some y else valV kvs j := by
  unfold putK
  by_cases a : (kvs.any fun kv => decide (kv.1 = k)) = true
  · rw [if_pos a, valV_map]
    rw [valV_any] at a
    by_cases e : j = k
    · obtain ⟨x, hx⟩ := Option.isSome_iff_exists.mp a
      rw [if_pos e, e, hx, Option.map_some, if_pos rfl]
    · rw [if_neg e]
      cases valV kvs j with
      | none => rfl
      | some x => rw [Option.map_some, if_neg e]
  · rw [if_neg a]
    refine valV_snoc k j y kvs ?_
    rw [valV_any] at a
    cases q : valV kvs k with
    | none => rfl
    | some x => rw [q] at a; exact (a rfl).elim
theorem length_putK (kvs : List (κ × V)) (k : κ) (v : V) : (putK kvs k v).length ≤ kvs.length + 1 := by
  unfold putK
  split
  · rw [List.length_map]; omega
  · rw [List.length_append, List.length_cons, List.length_nil]; omega

theorem RelO.isSome_eq {o : Option V} {u : Option Value} (r : RelO o u) : o.isSome = u.isSome := by
  cases o with
  | none => cases u with
    | none => rfl
    | some _ => exact (show False from r).elim
  | some _ => cases u with
    | none => exact (show False from r).elim
    | some _ => rfl
theorem RelO.getD {o : Option V} {u : Option Value} {d : V} {d' : Value} (r : RelO o u) (rd : RelV d d') : RelV (o.getD d) (u.getD d') := by
  cases o with
  | none => cases u with
    | none => exact rd
    | some _ => exact (show False from r).elim
  | some _ => cases u with
    | none => exact (show False from r).elim
    | some _ => exact r

/-- raw tables of the same keys -/
theorem KV.val {kvs : List (κ × V)} {vs : List (κ × Value)} (r : KV kvs vs) (k : κ) : RelO (valV kvs k) (valueAt vs k) := by
  unfold KV at r
  induction r with
  | nil => exact True.intro
  | @cons p q ps qs h t ih =>
    obtain ⟨h1, h2⟩ := h
    by_cases e : p.1 = k
    · have e' : q.1 = k := h1.symm.trans e
      have b : valueAt (q :: qs) k = some q.2 := by simp [valueAt, List.find?_cons, e']
      rw [valV_pos e, b]; exact h2
    · have e' : ¬ q.1 = k := fun z => e (h1.trans z)
      have b : valueAt (q :: qs) k = valueAt qs k := by simp [valueAt, List.find?_cons, e']
      rw [valV_neg e, b]; exact ih
theorem KV.any {kvs : List (κ × V)} {vs : List (κ × Value)} (r : KV kvs vs) (k : κ) : (kvs.any fun kv => decide (kv.1 = k)) = vs.any fun kv => decide (kv.1 = k) := by
  unfold KV at r
  induction r with
  | nil => rfl
  | cons h t ih => rw [List.any_cons, List.any_cons, ih, h.1]
theorem KV.repl {kvs : List (κ × V)} {vs : List (κ × Value)} (r : KV kvs vs) (k : κ) {y : V} {u : Value} (ry : RelV y u) :
    KV (kvs.map fun kv => if kv.1 = k then (kv.1, y) else kv) (vs.map fun kv => if kv.1 = k then (kv.1, u) else kv) := by
  unfold KV at r ⊢
  induction r with
  | nil => exact .nil
  | @cons p q ps qs h t ih =>
    rw [List.map_cons, List.map_cons]
    refine .cons ?_ ih
    obtain ⟨h1, h2⟩ := h
    by_cases e : p.1 = k
    · rw [if_pos e, if_pos (h1.symm.trans e)]; exact ⟨h1, ry⟩
    · rw [if_neg e, if_neg (fun z => e (h1.trans z))]; exact ⟨h1, h2⟩
theorem KV.put {kvs : List (κ × V)} {vs : List (κ × Value)} (r : KV kvs vs) (k : κ) {y : V} {u : Value} (ry : RelV y u) : KV (putK kvs k y) (stored vs k u) := by
  unfold putK stored
  rw [r.any k]
  by_cases e : (vs.any fun kv => decide (kv.1 = k)) = true
  · rw [if_pos e, if_pos e]; exact r.repl k ry
  · rw [if_neg e, if_neg e]; exact Paired.snoc r ⟨rfl, ry⟩
theorem KV.length {kvs : List (κ × V)} {vs : List (κ × Value)} (r : KV kvs vs) : kvs.length = vs.length := Paired.length r
end


/-! ### a tracked dict, its keys ints and texts or tuples of these -/
theorem kV_is {P : Program} {w : World} {k : Key} {u : Value} (r : RelV (kV k) u) : (mixKind P w).is k u = true := by
  rcases k with (_ | i) | x
  · cases (show u = Value.none from r); exact mixKind_none P w
  · obtain ⟨t, e⟩ := (show ∃ t, u = Value.int i t from r); subst e; exact mixKind_int P w i t
  · obtain ⟨t, e⟩ := (show ∃ t, u = Value.str x t from r); subst e; exact mixKind_str P w x t
theorem items_are {P : Program} {w : World} : ∀ {ks : List Key} {us : List Value}, Vals (ks.map kV) us → ItemsAre (mixKind P w) ks us
  | [], _, r => by rw [List.map_nil] at r; cases r; exact .nil
  | k :: ks, _, r => by
    rw [List.map_cons] at r
    cases r with
    | cons h t => exact .cons (kV_is h) (items_are t)

/-- raw entries of a dict with tuple keys -/
abbrev KT (H : Hp) : List (List Key × V) → List (List Key × Addr × Value) → Prop := Paired fun p q => p.1 = q.1 ∧ H q.2.1 = some (.tup (p.1.map kV)) ∧ RelV p.2 q.2.2
theorem KT.val {H : Hp} {kvs : List (List Key × V)} {xs : List (List Key × Addr × Value)} (r : KT H kvs xs) (k : List Key) : RelO (valV kvs k) ((atKey xs k).map (·.2)) := by
  induction r with
  | nil => exact True.intro
  | @cons p q ps qs h t ih =>
    obtain ⟨h1, _, h2⟩ := h
    by_cases e : p.1 = k
    · have e' : q.1 = k := h1.symm.trans e
      have b : atKey (q :: qs) k = some q.2 := by simp [atKey, List.find?_cons, e']
      rw [valV_pos e, b]; exact h2
    · have e' : ¬ q.1 = k := fun z => e (h1.trans z)
      have b : atKey (q :: qs) k = atKey qs k := by simp [atKey, List.find?_cons, e']
      rw [valV_neg e, b]; exact ih
theorem KT.repl {H : Hp} {kvs : List (List Key × V)} {xs : List (List Key × Addr × Value)} (r : KT H kvs xs) (k : List Key) {y : V} {u : Value} (ry : RelV y u) :
    KT H (kvs.map fun kv => if kv.1 = k then (kv.1, y) else kv) (xs.map (putAt k u)) := by
  induction r with
  | nil => exact .nil
  | @cons p q ps qs h t ih =>
    rw [List.map_cons, List.map_cons]
    refine .cons ?_ ih
    obtain ⟨h1, h2, h3⟩ := h
    unfold putAt
    by_cases e : p.1 = k
    · rw [if_pos e, if_pos (h1.symm.trans e)]; exact ⟨h1, h2, ry⟩
    · rw [if_neg e, if_neg (fun z => e (h1.trans z))]; exact ⟨h1, h2, h3⟩
theorem KT.put {H : Hp} {kvs : List (List Key × V)} {xs : List (List Key × Addr × Value)} (r : KT H kvs xs) (k : List Key) {b : Addr} {y : V} {u : Value} (hb : H b = some (.tup (k.map kV))) (ry : RelV y u) :
    KT H (putK kvs k y) (storedH xs k b u) := by
  have e : (kvs.any fun kv => decide (kv.1 = k)) = (atKey xs k).isSome := by
    rw [valV_any, (r.val k).isSome_eq, Option.isSome_map]
  unfold putK storedH
  rw [e]
  by_cases q : (atKey xs k).isSome = true
  · rw [if_pos q, if_pos q]; exact r.repl k ry
  · rw [if_neg q, if_neg q]; exact Paired.snoc r ⟨rfl, hb, ry⟩
theorem KT.keeps {H H' : Hp} {kvs : List (List Key × V)} {xs : List (List Key × Addr × Value)} (r : KT H kvs xs) (ht : ∀ b ys, H b = some (.tup ys) → H' b = some (.tup ys)) : KT H' kvs xs :=
  Paired.mapP r fun _ _ z => ⟨z.1, ht _ _ z.2.1, z.2.2⟩

section
variable {P : Program} {w : World} {H : Hp} {h : Heap} {a : Addr}
theorem rd_of {u : HO} (ok : HOk P w H h) (e : Rd H a u) : ObjOk P w H h a u := e.ok ok
theorem dk_rd {kvs : List (Key × V)} (ok : HOk P w H h) (e : Rd H a (.dK kvs)) : kvs.length ≤ sizeLine ∧ (a == sysModules) = false ∧ ∃ vs, KV kvs vs ∧ h.DictOf (mixKind P w) a vs :=
  show ObjOk P w H h a (.dK kvs) from rd_of ok e
theorem dk_of {kvs : List (Key × V)} (ok : HOk P w H h) (e : H a = some (.dK kvs)) : kvs.length ≤ sizeLine ∧ (a == sysModules) = false ∧ ∃ vs, KV kvs vs ∧ h.DictOf (mixKind P w) a vs := dk_rd ok (.inl e)
/-- a tracked tuple of ints and texts is a key -/
theorem key_of {ks : List Key} (ok : HOk P w H h) (e : H a = some (.tup (ks.map kV))) : (tupleKind (mixKind P w)).is h ks a := by
  obtain ⟨_, its, r, o, h1, h2, n, h3⟩ := (show ObjOk P w H h a (.tup (ks.map kV)) from ok a _ e)
  exact ⟨o, its.toArray, n, h1, h2, h3, by simpa using items_are r⟩
theorem dt_rd {kvs : List (List Key × V)} (ok : HOk P w H h) (e : Rd H a (.dT kvs)) : kvs.length ≤ sizeLine ∧ (a == sysModules) = false ∧
    ∃ xs, KT H kvs xs ∧ h.DictOfH (tupleKind (mixKind P w)) a xs := by
  obtain ⟨z, y, xs, r, o, es, ep, h1, h2, h3, h4, h5⟩ := (show ObjOk P w H h a (.dT kvs) from rd_of ok e)
  refine ⟨z, y, xs, r, o, es, ep, h1, h2, h3, h4, fun x hx => ?_, h5⟩
  have all : ∀ {l : List (List Key × V)} {m : List (List Key × Addr × Value)}, KT H l m → ∀ x ∈ m, (tupleKind (mixKind P w)).is h x.1 x.2.1 := by
    intro l m q
    induction q with
    | nil => intro x hx; exact nomatch hx
    | @cons p q ps qs hq t ih =>
      intro x hx
      rcases List.mem_cons.mp hx with e | hx
      · subst e
        exact key_of ok (by rw [← hq.1]; exact hq.2.1)
      · exact ih x hx
  exact all r x hx
theorem dt_of {kvs : List (List Key × V)} (ok : HOk P w H h) (e : H a = some (.dT kvs)) : kvs.length ≤ sizeLine ∧ (a == sysModules) = false ∧
    ∃ xs, KT H kvs xs ∧ h.DictOfH (tupleKind (mixKind P w)) a xs := dt_rd ok (.inl e)
end

/-- what the dict at a holds at the key y -/
def DGet (H : Hp) (a : Addr) (y : V) (r : Option V) : Prop :=
  (∃ kvs k, Rd H a (.dK kvs) ∧ y = kV k ∧ r = valV kvs k) ∨ ∃ kvs k b, Rd H a (.dT kvs) ∧ y = .ref b ∧ H b = some (.tup (k.map kV)) ∧ r = valV kvs k
/-- the heap behind a[y] = v -/
def DPut (H : Hp) (a : Addr) (y v : V) (H' : Hp) : Prop :=
  (∃ kvs k, H a = some (.dK kvs) ∧ y = kV k ∧ kvs.length < sizeLine ∧ H' = upd H a (.dK (putK kvs k v))) ∨
  ∃ kvs k b, H a = some (.dT kvs) ∧ y = .ref b ∧ H b = some (.tup (k.map kV)) ∧ kvs.length < sizeLine ∧ H' = upd H a (.dT (putK kvs k v))
theorem DGet.k {H : Hp} {a : Addr} {kvs : List (Key × V)} {k : Key} (e : H a = some (.dK kvs)) : DGet H a (kV k) (valV kvs k) := .inl ⟨kvs, k, .inl e, rfl, rfl⟩
theorem DPut.k {H : Hp} {a : Addr} {kvs : List (Key × V)} {k : Key} {v : V} (e : H a = some (.dK kvs)) (hl : kvs.length < sizeLine) : DPut H a (kV k) v (upd H a (.dK (putK kvs k v))) := .inl ⟨kvs, k, e, rfl, hl, rfl⟩


section
variable {X : Cx} {pins : List (Addr × Obj)} {σ : St} {H : Hp} {s : Shared} {a : Addr} {y v : V} {u r : Value} {o : Option V} {A : Around} {E : Value → Shared → Prop}

theorem Inv.big (I : Inv X pins σ H s) : sysModules < s.heap.objs.size := by
  have h : mainGlobals < s.heap.objs.size := (I.mod.glob.keeps I.bk).lt
  exact Nat.lt_trans (by decide) h

/-- a dict's object is replaced -/
theorem d_write {h' : Heap} {t' : Nat} {ob : HO} (I : Inv X pins σ H s) (mu : Mut (H a)) (hs : Heap.SameBut a s.heap h') (he : ∃ q, h'.get? a = some q) (new : ObjOk X.prog X.w (upd H a ob) h' a ob) :
    Inv X pins σ (upd H a ob) { s with heap := h', toks := t' } :=
  I.write (x := a) (e := a) mu (.inl rfl) (fun b q hb z => (hs.2 b hb).trans z) he new
theorem dk_new {P : Program} {w : World} {H' : Hp} {h' : Heap} {kvs : List (Key × V)} {vs : List (Key × Value)} (z : kvs.length ≤ sizeLine) (hd : (a == sysModules) = false) (rel : KV kvs vs) (dd : h'.DictOf (mixKind P w) a vs) :
    ObjOk P w H' h' a (.dK kvs) := ⟨z, hd, vs, rel, dd⟩
/-- d[y] = v -/
theorem d_setItem {H' : Hp} {Q : Unit → Shared → Prop} (hu : A.units + 1 < cLine) (I : Inv X pins σ H s) (g : DPut H a y v H') (ry : RelV y u) (rv : RelV v r) (h : ∀ s', Inv X pins σ H' s' → Q () s') :
    wpAny (model X.prog X.w) A (setItem (.ref a) u r) Q E s := by
  rcases g with ⟨kvs, k, e, ey, l, eH⟩ | ⟨kvs, k, b, e, ey, eb, l, eH⟩
  · subst ey eH
    obtain ⟨z, hd, vs, rel, dd⟩ := dk_of I.hok e
    have hz : vs.length ≤ sizeLine := by rw [← rel.length]; exact z
    have hl : (putK kvs k v).length ≤ sizeLine := by have := length_putK kvs k v; omega
    refine wpAny_setItem_pairs (hsz := hz) (kV_is ry) dd fun h' dd' hs => h _ ?_
    have he : ∃ q, h'.get? a = some q := let ⟨q, _, _, hq, _⟩ := dd'; ⟨q, hq⟩
    exact d_write I (by rw [e]; exact True.intro) hs he (dk_new hl hd (rel.put k rv) dd')
  · subst ey eH
    cases (show u = Value.ref b from ry)
    obtain ⟨z, hd, xs, rel, dd⟩ := dt_of I.hok e
    have hz : xs.length ≤ sizeLine := by rw [← Paired.length rel]; exact z
    have hl : (putK kvs k v).length ≤ sizeLine := by have := length_putK kvs k v; omega
    refine wpAny_setItem_heap (hsz := hz) (tupleKind_room_in1 hu) (key_of I.hok eb) dd fun h' dd' hs => h _ ?_
    obtain ⟨q, es, ep, hq, h2, h3, h4, _, h5⟩ := dd'
    refine d_write I (by rw [e]; exact True.intro) hs ⟨q, hq⟩ ⟨hl, hd, _, (rel.put k eb rv).keeps fun c ys ec => ?_, q, es, ep, hq, h2, h3, h4, h5⟩
    rw [upd_ne (ne_of ec e (fun z => nomatch z))]
    exact ec
end

section
variable {X : Cx} {pins : List (Addr × Obj)} {σ : St} {H : Hp} {s : Shared} {a : Addr} {kvs : List (Key × V)} {k : Key} {u : Value} {A : Around} {E : Value → Shared → Prop}
end


/-! ### readings and rules -/


/-- d[y] = v -/
def sDPut (td ty tv : TE) : TS := fun D σ H => tv σ H fun v H1 => td σ H1 fun x H2 => ty σ H2 fun y H3 => ∃ a H4, x = .ref a ∧ DPut H3 a y v H4 ∧ D.nx σ H4

section
variable {X : Cx} {o i e value : Expr} {pos pos' tpos : Pos} {td ty tv : TE}
theorem ps_dput (hu : X.A.units + 1 < cLine) (ho : PE X o td) (hi : PE X i ty) (hv : PE X value tv) (hs : swapsWith value (some (.Subscript o i pos')) pos.line X.env = pure false) :
    PS X (.Assign [.Subscript o i pos'] value pos) (sDPut td ty tv) := by
  intro pins s σ H D I h
  refine wpAny_Assign_Subscript (thn (hv pins s σ H _ I h) fun r s1 ⟨v, H1, I1, rv, q1⟩ => thn (ho pins s1 σ H1 _ I1 q1) fun u s2 ⟨x, H2, I2, rx, q2⟩ => thn (hi pins s2 σ H2 _ I2 q2) fun iv s3 ⟨y, H3, I3, ry, a, H4, ex, g, q3⟩ => ?_) hs
  subst ex
  obtain rfl : u = Value.ref a := rx
  exact d_setItem hu I3 g ry rv fun s4 I4 => ⟨σ, H4, I4, q3⟩
end


/-! ### displays -/
theorem dk_empty {P : Program} {w : World} {H : Hp} (h : Heap) (hb : sysModules < h.objs.size) : ObjOk P w H (h.push { cls := .type "dict", data := .dict #[] }) h.objs.size (.dK []) :=
  ⟨Nat.zero_le _, beq_eq_false_iff_ne.mpr (Ne.symm (Nat.ne_of_lt hb)), [], .nil, Heap.DictOf.new h⟩
/-- {}, to be a dict of the kind that is wanted -/
def tDNewK : TE := fun _ H Q => ∀ p, H p = none → Q (.ref p) (upd H p (.dK []))
section
variable {X : Cx} {pos : Pos}
theorem pe_dnewK : PE X (.Dict [] [] pos) tDNewK := fun pins s σ H Q I h =>
  wpAny_Dict_empty ⟨.ref s.heap.objs.size, _, I.laid (a := s.heap.objs.size) (o := .dK []) (t' := s.toks) (fun _ _ q => Heap.get?_push_of_some _ q) (Nat.le_refl _) (dk_empty s.heap I.big), rfl, h _ (I.hok.fresh (Nat.le_refl _))⟩
end




/-! ### methods -/
/-- a method call o.m(e) of a built-in, with one argument: what must be seen of the text -/
structure M1 (X : Cx) (o : Expr) (m : Str) (apos : Pos) (e : Expr) (cpos : Pos) : Prop where
  base : attributeBase o m X.env (eval o X.env) = eval o X.env
  few : ((backTo cpos (starEach [e] X.env)).all (fun x => !x.1) && (backToKw cpos (keywordEach [] X.env)).all (fun x => x.1.isSome)
    && decide (([e] : List Expr).length + ([] : List Keyword).length + (if ([] : List Keyword).isEmpty then 0 else 1) < 30)) = true
  line : (apos.endLine == cpos.line) = true
  trees : backTo cpos (starEach [e] X.env) = [(false, eval e X.env)]

/-- a is a dict, whatever its keys -/
def IsD (H : Hp) (a : Addr) : Prop := (∃ kvs, Rd H a (.dK kvs)) ∨ ∃ kvs, Rd H a (.dT kvs)
theorem isD_at {X : Cx} {pins : List (Addr × Obj)} {σ : St} {H : Hp} {s : Shared} {a : Addr} (I : Inv X pins σ H s) (d : IsD H a) :
    s.TypeIs (.ref a) "dict" ∧ (∀ b, Value.ref a = .ref b → ∃ ob, s.heap.get? b = some ob ∧ ob.dict = none) ∧ (a == sysModules) = false := by
  rcases d with ⟨kvs, e⟩ | ⟨kvs, e⟩
  · obtain ⟨_, hd, vs, _, dd⟩ := dk_rd I.hok e
    refine ⟨dd.typeIs, fun b q => ?_, hd⟩
    cases q
    obtain ⟨ob, _, _, h1, h2, _⟩ := dd
    exact ⟨ob, h1, h2.2.1⟩
  · obtain ⟨_, hd, xs, _, dd⟩ := dt_rd I.hok e
    refine ⟨dd.typeIs, fun b q => ?_, hd⟩
    cases q
    obtain ⟨ob, _, _, h1, h2, _⟩ := dd
    exact ⟨ob, h1, h2.2.1⟩

section
variable {X : Cx} {pins : List (Addr × Obj)} {σ : St} {H : Hp} {s : Shared} {a : Addr} {y d : V} {u r : Value} {o : Option V} {A : Around} {E : Value → Shared → Prop}
/-- d.get(y) -/
theorem d_get1 {Q : Value → Shared → Prop} (hu : A.units + 1 < cLine) (I : Inv X pins σ H s) (g : DGet H a y o) (ry : RelV y u) (h : ∀ w' s', Inv X pins σ H s' → RelV (o.getD .non) w' → Q w' s') :
    wpAny (model X.prog X.w) A (call (.builtin "dict.get") [.ref a, u]) Q E s := by
  rcases g with ⟨kvs, k, e, ey, l⟩ | ⟨kvs, k, b, e, ey, eb, l⟩
  · subst ey
    obtain ⟨z, hd, vs, rel, dd⟩ := dk_rd I.hok e
    refine call_meetsIn PySem.F.slot_dict_get dd.typeIs PySem.F.entry_dict_get (PySem.F.args_dict_get_2 _ _) (meets_dict_get (mixKind X.prog X.w) a (kV_is ry) hd) ⟨_, dd.mapOf, h _ _ (I.tok _) ?_⟩
    rw [l]
    exact (rel.val k).getD rfl
  · subst ey
    cases (show u = Value.ref b from ry)
    obtain ⟨z, hd, xs, rel, dd⟩ := dt_rd I.hok e
    refine call_meetsIn PySem.F.slot_dict_get dd.typeIs PySem.F.entry_dict_get (PySem.F.args_dict_get_2 _ _) (meetsH_dict_get (tupleKind (mixKind X.prog X.w)) a b hd) ⟨tupleKind_room_in1 hu, k, xs, key_of I.hok eb, dd, h _ _ (I.tok _) ?_⟩
    rw [l]
    exact (rel.val k).getD rfl
end

def tDGet1 (td ty : TE) : TE := fun σ H Q => td σ H fun x H1 => ∃ a, x = .ref a ∧ IsD H1 a ∧ ty σ H1 fun y H2 => ∃ o, DGet H2 a y o ∧ Q (o.getD .non) H2
section
variable {X : Cx} {o e f : Expr} {apos cpos : Pos} {td ty tx : TE}
theorem pe_dget1 (hu : X.A.units + 1 < cLine) (ho : PE X o td) (he : PE X e ty) (m : M1 X o "get" apos e cpos) : PE X (.Call (.Attribute o "get" apos) [e] [] cpos) (tDGet1 td ty) := by
  intro pins s σ H Q I h
  refine wpAny_Call_method m.base m.few m.line PySem.F.plainAttrs_dict PySem.F.slot_dict_get PySem.F.type_dict_get (thn (ho pins s σ H _ I h) fun u s1 ⟨x, H1, I1, rx, a, ex, d, q1⟩ => ?_)
  subst ex
  obtain rfl : u = Value.ref a := rx
  obtain ⟨t1, t2, _⟩ := isD_at I1 d
  refine ⟨t1, t2, ?_⟩
  rw [m.trees]
  refine Calls.callWith_builtin rfl (Calls.evalArgs_plain (Calls.spliced_cons (thn (he pins s1 σ H1 _ I1 q1) fun iv s2 ⟨y, H2, I2, ry, ov, g, q2⟩ => Calls.spliced_nil ?_)))
  exact d_get1 hu I2 g ry fun w' s3 I3 rw' => ⟨_, H2, I3, rw', q2⟩
end

/-! ### dict(d): a copy -/
section
variable {X : Cx} {pins : List (Addr × Obj)} {σ : St} {H : Hp} {s : Shared} {a : Addr} {kvs : List (Key × V)} {A : Around} {E : Value → Shared → Prop}
end


section
variable {X : Cx} {pins : List (Addr × Obj)} {σ : St} {H : Hp} {s : Shared} {a : Addr} {y : V} {u : Value} {A : Around} {E : Value → Shared → Prop}
end
end L2

namespace L2
open PySem PySem.Spec PyProof.Rows
section
variable {X : Cx}
end
/-! ### a dict's pairs: keys that differ -/
section
variable {κ : Type} [DecidableEq κ]
end
end L2

set_option Elab.async false
set_option linter.all false
set_option maxRecDepth 100000
set_option maxHeartbeats 4000000
/-! d.setdefault(y, x); sorted(a list of ints). Own work. -/
namespace SDf
open PySem PyProof.Rows
section
variable {prog : Program} {w : World} {κ : Type} [DecidableEq κ] {knd : PySem.KeyKind prog w κ} {A : Around} {E : Value → Shared → Prop} {s : Shared}
end
end SDf
namespace L2
open PySem PySem.Spec PyProof.Rows
section
variable {X : Cx} {o e f : Expr} {apos cpos : Pos} {td ty tx : TE}
end
end L2

set_option Elab.async false
set_option linter.all false
set_option maxRecDepth 100000
set_option maxHeartbeats 4000000
/-! sorted(a list of ints); lists and tuples that are alike, within one another. Own work. -/
namespace L2
open PySem PySem.Spec PyProof.Rows SI
section
variable {X : Cx}
end
/-! ### alike, within one another -/
def Alk (K : PySem.W.Frag) (H : Hp) : Nat → V → V → Prop
  | 0, x, y => x = y ∧ (flatV x = true ∨ ∃ a, x = .ref a)
  | d + 1, x, y => (x = y ∧ (flatV x = true ∨ ∃ a, x = .ref a)) ∨ ∃ a c xs ys, x = .ref a ∧ y = .ref c ∧ ((SqT K H a xs ∧ SqT K H c ys) ∨ (SqL K H a xs ∧ SqL K H c ys)) ∧ Paired (Alk K H d) xs ys
theorem eqV_self {x : V} (h : flatV x = true) : eqV x x = true := by
  cases x with
  | non => rfl
  | bl b => cases b <;> rfl
  | int i => show (i == i) = true; simp
  | str z => show (z == z) = true; simp
  | byt b => exact absurd (show false = true from h) Bool.false_ne_true
  | flt b => exact absurd (show false = true from h) Bool.false_ne_true
  | ref a => exact absurd (show false = true from h) Bool.false_ne_true
  | ty n => exact absurd (show false = true from h) Bool.false_ne_true
theorem all_true (n : Nat) : (List.range n).all (fun _ => true) = true := by simp
theorem paired_get {α β : Type} {R : α → β → Prop} : ∀ {xs : List α} {ys : List β}, Paired R xs ys → ∀ {j : Nat} {x : α} {y : β}, xs[j]? = some x → ys[j]? = some y → R x y
  | _, _, .nil, j, x, y, e, _ => by simp at e
  | _, _, .cons h t, 0, x, y, e1, e2 => by simp at e1 e2; subst e1 e2; exact h
  | _, _, .cons h t, j + 1, x, y, e1, e2 => paired_get t (j := j) (by simpa using e1) (by simpa using e2)
section
variable {X : Cx} {pins : List (Addr × Obj)} {σ : St} {H : Hp} {s : Shared}
theorem same_eqAt {A : Around} {x y : V} {u v : Value} (h : x = y ∧ (flatV x = true ∨ ∃ a, x = .ref a)) (ru : RelV x u) (rv : RelV y v) : SeqAt.EqAt A s u v true := by
  obtain ⟨rfl, h | ⟨a, rfl⟩⟩ := h
  · have := eqAt_V (A := A) (s := s) ru rv h h
    rw [eqV_self h] at this
    exact this
  · cases ru
    cases rv
    exact SeqAt.EqAt.same _
theorem alk_eqAt (I : Inv X pins σ H s) : ∀ (d : Nat) {A : Around} {x y : V} {u v : Value}, Alk X.K H d x y → RelV x u → RelV y v → A.units + d < cLine → SeqAt.EqAt A s u v true
  | 0, A, x, y, u, v, h, ru, rv, _ => same_eqAt h ru rv
  | d + 1, A, x, y, u, v, h, ru, rv, hu => by
    rcases h with h | ⟨a, c, xs, ys, rfl, rfl, hs, hp⟩
    · exact same_eqAt h ru rv
    · cases ru
      cases rv
      by_cases hac : a = c
      · subst hac; exact SeqAt.EqAt.same _
      · refine SeqAt.EqAt.of_refs hac ?_
        have hl := Paired.length hp
        rcases hs with ⟨h1, h2⟩ | ⟨h1, h2⟩
        · obtain ⟨i1, r1, p1, z1⟩ := I.tuple h1
          obtain ⟨i2, r2, p2, z2⟩ := I.tuple h2
          have l1 := r1.length
          have l2 := r2.length
          have := SeqAt.RcAt.tuples (A := A) (e := fun _ => true) (show s.heap.IsTuple a i1.toArray from p1) (show s.heap.IsTuple c i2.toArray from p2) (by omega) (fun j j1 j2 => by
            simp only [List.size_toArray] at j1 j2
            have k1 : j < xs.length := by omega
            have k2 : j < ys.length := by omega
            obtain ⟨u1, e1, s1⟩ := r1.get (List.getElem?_eq_getElem k1)
            obtain ⟨u2, e2, s2⟩ := r2.get (List.getElem?_eq_getElem k2)
            rw [List.getElem?_eq_getElem j1] at e1
            rw [List.getElem?_eq_getElem j2] at e2
            cases e1
            cases e2
            exact alk_eqAt I d (paired_get hp (List.getElem?_eq_getElem k1) (List.getElem?_eq_getElem k2)) s1 s2 (by show A.units + 1 + d < _; omega))
          rw [all_true, List.size_toArray, List.size_toArray, ← l1, ← l2, hl] at this
          simpa using this
        · obtain ⟨i1, r1, p1, z1⟩ := I.list h1
          obtain ⟨i2, r2, p2, z2⟩ := I.list h2
          have l1 := r1.length
          have l2 := r2.length
          have := SeqAt.RcAt.lists (A := A) (e := fun _ => true) p1.isList p2.isList (by simp; omega) (by omega) (fun j j1 j2 => by
            simp only [List.size_toArray] at j1 j2
            have k1 : j < xs.length := by omega
            have k2 : j < ys.length := by omega
            obtain ⟨u1, e1, s1⟩ := r1.get (List.getElem?_eq_getElem k1)
            obtain ⟨u2, e2, s2⟩ := r2.get (List.getElem?_eq_getElem k2)
            rw [List.getElem?_eq_getElem j1] at e1
            rw [List.getElem?_eq_getElem j2] at e2
            cases e1
            cases e2
            exact alk_eqAt I d (paired_get hp (List.getElem?_eq_getElem k1) (List.getElem?_eq_getElem k2)) s1 s2 (by show A.units + 1 + d < _; omega))
          rw [all_true] at this
          exact this
end
section
variable {X : Cx}
/-- two lists or two tuples that are alike, compared -/
def rAlk (K : PySem.W.Frag) (d : Nat) (b : Bool) : R2 := fun x y H Q => ∃ a c xs ys, x = .ref a ∧ y = .ref c ∧ ((SqT K H a xs ∧ SqT K H c ys) ∨ (SqL K H a xs ∧ SqL K H c ys)) ∧ Paired (Alk K H d) xs ys ∧ Q (.bl b) H
theorem alk_items {pins : List (Addr × Obj)} {σ : St} {H : Hp} {s : Shared} (I : Inv X pins σ H s) {d : Nat} {xs ys : List V} {i1 i2 : List Value} (hu : X.A.units + 1 + d < cLine) (hp : Paired (Alk X.K H d) xs ys) (r1 : Vals xs i1) (r2 : Vals ys i2) :
    ∀ j (j1 : j < i1.toArray.size) (j2 : j < i2.toArray.size), SeqAt.EqAt X.A.in1 s i1.toArray[j] i2.toArray[j] true := fun j j1 j2 => by
  have l1 := r1.length
  have l2 := r2.length
  simp only [List.size_toArray] at j1 j2
  have k1 : j < xs.length := by omega
  have k2 : j < ys.length := by omega
  obtain ⟨u1, e1, s1⟩ := r1.get (List.getElem?_eq_getElem k1)
  obtain ⟨u2, e2, s2⟩ := r2.get (List.getElem?_eq_getElem k2)
  rw [List.getElem?_eq_getElem j1] at e1
  rw [List.getElem?_eq_getElem j2] at e2
  cases e1
  cases e2
  exact alk_eqAt I d (paired_get hp (List.getElem?_eq_getElem k1) (List.getElem?_eq_getElem k2)) s1 s2 (by show X.A.units + 1 + d < _; omega)
theorem op_neA {d : Nat} (hu : X.A.units + 1 + d < cLine) : OpR X (compareOp .NotEq) (rAlk X.K d false) := by
  intro pins s σ H x y v u Q I rx ry h
  obtain ⟨a, c, xs, ys, rfl, rfl, hs, hp, q⟩ := h
  cases rx
  cases ry
  have hl := Paired.length hp
  rcases hs with ⟨h1, h2⟩ | ⟨h1, h2⟩
  · obtain ⟨i1, r1, p1, z1⟩ := I.tuple h1
    obtain ⟨i2, r2, p2, z2⟩ := I.tuple h2
    have l1 := r1.length
    have l2 := r2.length
    refine SeqAt.RcNeAt.tuples (e := fun _ => true) (show s.heap.IsTuple a i1.toArray from p1) (show s.heap.IsTuple c i2.toArray from p2) (by omega) (alk_items I hu hp r1 r2) X.prog X.w X.xe _ ⟨.bl false, H, I, ?_, q⟩
    show Value.bool _ = Value.bool _
    rw [all_true, List.size_toArray, List.size_toArray, ← l1, ← l2, hl]; simp
  · obtain ⟨i1, r1, p1, z1⟩ := I.list h1
    obtain ⟨i2, r2, p2, z2⟩ := I.list h2
    have l1 := r1.length
    have l2 := r2.length
    refine SeqAt.RcNeAt.lists (e := fun _ => true) p1.isList p2.isList (by simp; omega) (by omega) (alk_items I hu hp r1 r2) X.prog X.w X.xe _ ⟨.bl false, H, I, ?_, q⟩
    show Value.bool _ = Value.bool _
    rw [all_true]; rfl
end
end L2

set_option Elab.async false
set_option linter.all false
set_option maxRecDepth 100000
set_option maxHeartbeats 4000000
/-! A comprehension over a list, whatever its elements do. Own work (as in K24f). -/
namespace L2
open PySem PySem.Spec PyProof.Rows
theorem lc_lst {K : PySem.W.Frag} {a : Addr} {xs : List V} {g : TG} {tt : TT} {te : TE} {σ : St} {H : Hp} {D : Addr} {Q : Hp → Prop} (P : Nat → List V → St → Hp → Prop) (h0 : P 0 [] σ (upd H D (.lst []))) (hl : ∀ k ys σ' H', k ≤ xs.length → P k ys σ' H' → SqL K H' a xs)
    (hs : ∀ k x ys σ' H', xs[k]? = some x → P k ys σ' H' → g x σ' H' (fun σ2 H2 => tt σ2 H2 fun b H3 =>
      if b = true then te σ2 H3 fun y H4 => H4 D = some (.lst ys) ∧ ys.length < sizeLine ∧ Beh xs.length k P (ys ++ [y]) σ2 (upd H4 D (.lst (ys ++ [y]))) else Beh xs.length k P ys σ2 H3))
    (hd : ∀ ys σ' H', P xs.length ys σ' H' → Q H') :
    ∃ W : Nat → Nat → List V → St → Hp → Prop, (∃ m, W 0 m [] σ (upd H D (.lst []))) ∧ lcTurn (Itl K a) D g tt te Q W := by
  refine lc_gen (n := xs.length) P h0 (fun k ys σ' H' hk hP => ?_) (fun ys σ' H' hP => ⟨⟨xs, hl _ _ _ _ (Nat.le_refl _) hP, Nat.le_refl _⟩, hd ys σ' H' hP⟩)
  have q := hl k ys σ' H' (Nat.le_of_lt hk) hP
  refine ⟨⟨xs, xs[k], q, by simp [hk]⟩, fun x H1 y => ?_⟩
  obtain ⟨rfl, y⟩ := y
  exact hs k x ys σ' _ (y xs q) hP
/-- strs written out -/
def strsOf : List Expr → Option (List Str)
  | [] => some []
  | .Constant (.str x) _ _ :: r => (strsOf r).map (x :: ·)
  | _ => none
def tStrs (xs : List Str) : TA := fun _ H Q => Q (xs.map V.str) H
theorem pa_strs {X : Cx} : ∀ {es : List Expr} {xs : List Str}, strsOf es = some xs → PA X es (tStrs xs)
  | [], xs, h => by
    cases h
    exact pa_nil
  | e :: r, xs, h => by
    cases e with
    | Constant c j p =>
      cases c with
      | str x =>
        cases hr : strsOf r with
        | none =>
          have h' : (strsOf r).map (x :: ·) = some xs := h
          rw [hr] at h'
          exact nomatch h'
        | some ys =>
          have h' : (strsOf r).map (x :: ·) = some xs := h
          rw [hr] at h'
          cases h'
          intro pos pins s σ H Q I q
          exact pa_cons (pe_str (x := x) (j := j) (pos := p)) (pa_strs hr) rfl pos pins s σ H Q I q
      | _ => exact nomatch h
    | _ => exact nomatch h
end L2

set_option linter.all false
/-! Signs of texts as lists of numbers: parts at one sign, words between blanks, padding. Own work. -/
namespace TX
def Plain (l : List Nat) : Prop := ∀ k ∈ l, k ≠ 32 ∧ k ≠ 10 ∧ k ≠ 40 ∧ k ≠ 41
end TX

set_option Elab.async false
set_option linter.all false
set_option maxRecDepth 100000
set_option maxHeartbeats 4000000
/-! Texts over the hand layer: their mathematics as lists of numbers; split, replace, startswith, walks over the signs, cuts, repeats. Own work. -/
namespace L2
open PySem PySem.Spec PyProof.Rows Builtin Builtin.Str
/-! ### texts as lists of numbers -/
def cpl (x : Str) : List Nat := x.cps.toList
/-! ### rules -/
section
variable {X : Cx}
end
end L2

set_option Elab.async false
set_option linter.all false
set_option maxRecDepth 100000
set_option maxHeartbeats 4000000
/-! Texts over the hand layer: walks over the signs, repeats, replace behind a def's entry. Own work. -/
namespace L2
open PySem PySem.Spec PyProof.Rows Builtin Builtin.Str
/-- a text's signs, as values -/
def sgn (c : Nat) : V := .str ⟨#[c]⟩
def sgns (x : Str) : List V := (cpl x).map sgn
/-- the signs of x, one after another -/
def Its (x : Str) : It := ⟨fun i _ => i < x.length, fun i H v H' => H' = H ∧ (sgns x)[i]? = some v, fun i _ => i = x.length⟩
section
variable {X : Cx} {tg : Expr}
end
end L2

set_option Elab.async false
set_option linter.all false
set_option maxRecDepth 100000
set_option maxHeartbeats 4000000
/-! Behind a def's entry at least one token has been counted: str.replace with written texts. Own work. -/
namespace L2
open PySem PySem.Spec PyProof.Rows Builtin Builtin.Str
section
variable {X : Cx}
end
/-! ### the entry -/
section
variable {M : Model} {A : Around} {E : Value → Shared → Prop} {s₀ : Shared} {env : Env}
end
end L2

set_option Elab.async false
set_option linter.all false
set_option maxRecDepth 100000
set_option maxHeartbeats 4000000
/-! Texts over the hand layer: join. Own work. -/
namespace L2
open PySem PySem.Spec PyProof.Rows Builtin Builtin.Str
section
variable {X : Cx}
end
end L2
namespace TX
end TX
namespace L2
open PySem
end L2

set_option Elab.async false
set_option linter.all false
set_option maxRecDepth 100000
set_option maxHeartbeats 4000000
/-! t[lo:hi], the whole of it too. Own work. -/
namespace HT
open PySem PySem.Spec PyProof.Rows
section
variable {prog : Program} {w : World} {A : Around} {E : Value → Shared → Prop} {s : Shared}
theorem getItem_tuple_whole {t sl : Addr} {items : Array Value} {vl vu : Value} {lo hi : Option Int} {Q : Value → Shared → Prop} (ht : IsTup s.heap t items) (hs : s.heap.IsSliceOf sl vl vu .none) (pl : IsPart vl lo) (pu : IsPart vu hi)
    (hw : sIx items.size 0 lo = 0 ∧ sIx items.size items.size hi = items.size)
    (h : Q (.ref t) s) : wpAny (model prog w) A (getItem (.ref t) (.ref sl)) Q E s := by
  obtain ⟨os, hos, hcs, hds⟩ := id hs
  have hTs : s.TypeIs (.ref sl) "slice" := ⟨os, hos, hcs⟩
  unfold getItem
  try with_reducible refine wpAny_holding ?_
  first | refine wpAny_bind (wpAny_pure ?_) | skip
  refine wpAny_bind (wpAny_sequenceKey ht.typeIs (by decide) ?_)
  refine wpAny_bind (wpAny_callSpecial?_slot (name := Str.ofString "__getitem__") ht.typeIs PyProof.Rows.slot_tuple_getitem
    (wpAny_call_entry PyProof.Rows.slot_tuple_getitem ht.typeIs entry_tuple_getitem ?_ (args_tuple_getitem _ _)))
  show wpAny _ _ (Builtin.Tuple.tupleItemsOf (.ref t) >>= _) _ _ s
  refine wpAny_bind (tupleItemsOf_ ht ?_)
  refine wpAny_bind (wpAny_typeOf hTs ?_)
  rw [if_pos (by decide)]
  refine wpAny_bind (sliceApplied_gen hs pl pu ?_)
  have hyes : (((sIx items.size 0 lo : Nat) : Int) == 0 && (1 : Int) == 1 && (sIx items.size items.size hi - sIx items.size 0 lo) == items.size) = true := by
    rw [hw.1, hw.2]; simp
  show wpAny _ _ (if (((sIx items.size 0 lo : Nat) : Int) == 0 && (1 : Int) == 1 && (sIx items.size items.size hi - sIx items.size 0 lo) == items.size) = true then _ else _) _ _ s
  rw [if_pos hyes]
  refine wpAny_bind (m := Builtin.Tuple.tupleIsExact (.ref t)) ?_
  show wpAny _ _ (typeOf (.ref t) >>= _) _ _ s
  refine wpAny_bind (wpAny_typeOf ht.typeIs ?_)
  refine wpAny_pure ?_
  rw [if_pos (by decide)]
  show wpAny _ _ (rule "tuple.getitem.whole" >>= fun _ => ret (Value.ref t)) _ _ s
  first
    | exact wpAny_bind (wpAny_rule (wpAny_pure ⟨_, rfl, wpAny_pure h⟩))
    | exact wpAny_bind (wpAny_rule _ (wpAny_pure ⟨_, rfl, wpAny_pure h⟩))
    | exact wpAny_rule (wpAny_pure ⟨_, rfl, wpAny_pure h⟩)
end
end HT
namespace L2
open PySem PySem.Spec PyProof.Rows
/-- t[lo:hi]: t itself where it is the whole -/
def rSlW (K : PySem.W.Frag) : V → Option Int → Option Int → Hp → VK → Prop := fun x lo hi H Q => ∃ a xs, x = .ref a ∧ SqT K H a xs ∧
  ((cutV xs lo hi = xs → Q (.ref a) H) ∧ ∀ p, H p = none → Q (.ref p) (upd H p (.tup (cutV xs lo hi))))
theorem sl_tupW {X : Cx} : SlR X (rSlW X.K) := by
  intro pins s σ H x v vl vu lo hi sl Q I rx hs pl pu h
  obtain ⟨a, xs, rfl, hx, q1, q2⟩ := h
  by_cases hw : HT.sIx xs.length 0 lo = 0 ∧ HT.sIx xs.length xs.length hi = xs.length
  · cases rx
    obtain ⟨its, r, ht, hz⟩ := I.tuple hx
    have hlen : its.toArray.size = xs.length := by rw [List.size_toArray]; exact r.length.symm
    refine ⟨"tuple", _, PyProof.Rows.slot_tuple_getitem.lookup, ht.typeIs, ?_⟩
    refine HT.getItem_tuple_whole ht hs pl pu (by rw [hlen]; exact hw) ?_
    exact ⟨.ref a, H, I, rfl, q1 (by unfold cutV; rw [hw.1, hw.2, List.drop_zero, Nat.sub_zero, List.take_length])⟩
  · exact sl_tup pins s σ H _ v vl vu lo hi sl Q I rx hs pl pu ⟨a, xs, rfl, hx, hw, q2⟩
end L2

set_option Elab.async false
set_option linter.all false
set_option maxRecDepth 100000
set_option maxHeartbeats 4000000
/-! The rules once more, behind structures: Lean's elaborator does not look into these, so that suites with long lists written out are read fast. Own work. -/
namespace Z
open PySem L2
structure E (X : Cx) (e : Expr) (t : TE) : Prop where h : PE X e t
structure T (X : Cx) (e : Expr) (t : TT) : Prop where h : PT X e t
structure W (X : Cx) (e : Expr) (t : TT) : Prop where h : PW X e t
structure A (X : Cx) (es : List Expr) (t : TA) : Prop where h : PA X es t
structure S (X : Cx) (st : Stmt) (t : TS) : Prop where h : PS X st t
structure Ss (X : Cx) (sts : List Stmt) (t : TS) : Prop where h : PSs X sts t
structure O (X : Cx) (e : Option Expr) (t : TO) : Prop where h : PO X e t
section
variable {X : Cx} {st : Stmt} {rest : List Stmt} {t u : TS} {a b e : Expr} {es : List Expr} {ta tb te : TE} {tA tB' : TT} {tt : TA} {pos p p2 : Pos}
theorem suite (h : Ss X rest t) : PSs X rest t := h.h
theorem pss_cons (h1 : S X st t) (h2 : Ss X rest u) : Ss X (st :: rest) (tSeq t u) := ⟨L2.pss_cons h1.h h2.h⟩
theorem pss_one (h1 : S X st t) : Ss X [st] t := ⟨L2.pss_one h1.h⟩
theorem pss_nil : Ss X [] tNext := ⟨L2.pss_nil⟩
theorem ps_if {c : Expr} {xs ys : List Stmt} {tc : TT} (hc : T X c tc) (ha : Ss X xs t) (hb : Ss X ys u) : S X (.If c xs ys pos) (tIfS tc t u) := ⟨L2.ps_if hc.h ha.h hb.h⟩
theorem ps_ret (he : E X e te) : S X (.Return (some e) pos) (tRet te) := ⟨L2.ps_ret he.h⟩
theorem ps_set {i : Nat} {x : Str} {pos' : Pos} (hN : X.N.Nodup) (hi : X.N[i]? = some x) (hx : Loc X.env.scope x) (he : E X e te) (hs : swapsWith e (some (.Name x pos')) pos.line X.env = pure false := by rfl) (hf : X.fn x = true ∨ X.env.scope.names.lookup x = some .local := by first | exact .inl rfl | exact .inr rfl | assumption) :
    S X (.Assign [.Name x pos'] e pos) (tAsg te (gName i)) := ⟨L2.ps_set hN hi hx he.h hs hf⟩
theorem pt_cmpR {op : CmpOp} {r : R2} (ho : OpR X (compareOp op) r) (ha : E X a ta) (hb : E X b tb) (hm : behindInMarks op b = false) : T X (.Compare a [op] [b] pos) (tTest (tOp r ta tb)) := ⟨L2.pt_cmpR ho ha.h hb.h hm⟩
theorem pe_cmpR {op : CmpOp} {r : R2} (ho : OpR X (compareOp op) r) (ha : E X a ta) (hb : E X b tb) (hm : behindInMarks op b = false) : E X (.Compare a [op] [b] pos) (tOp r ta tb) := ⟨L2.pe_cmpR ho ha.h hb.h hm⟩
theorem pt (h : W X e tA) : T X e tA := ⟨h.h.pt⟩
theorem pw_and1 (ha : T X a tA) : W X (.BoolOp .And [a] pos) tA := ⟨L2.pw_and1 ha.h⟩
theorem pw_or1 (ha : T X a tA) : W X (.BoolOp .Or [a] pos) tA := ⟨L2.pw_or1 ha.h⟩
theorem pw_or {r : List Expr} (ha : T X a tA) (hb : W X (.BoolOp .Or (b :: r) pos) tB') : W X (.BoolOp .Or (a :: b :: r) pos) (tOr tA tB') := ⟨L2.pw_or ha.h hb.h⟩
theorem pw_and {r : List Expr} (ha : T X a tA) (hb : W X (.BoolOp .And (b :: r) pos) tB') : W X (.BoolOp .And (a :: b :: r) pos) (tAnd tA tB') := ⟨L2.pw_and ha.h hb.h⟩
theorem pe_tup {x1} (h : A X es tt) : E X (.Tuple es x1 pos) (tTup tt) := ⟨L2.pe_tup h.h⟩
theorem pe_lst (h : A X es tt) : E X (.List es pos) (tLst tt) := ⟨L2.pe_lst h.h⟩
theorem pa_cons (ha : E X e te) (hr : A X es tt) (hs : starEach (e :: es) X.env = (false, eval e X.env) :: starEach es X.env := by rfl) : A X (e :: es) (tCons te tt) := ⟨L2.pa_cons ha.h hr.h hs⟩
theorem pa_nil : A X [] tNil := ⟨L2.pa_nil⟩
theorem pa_strs {xs : List Str} (h : strsOf es = some xs) : A X es (tStrs xs) := ⟨L2.pa_strs h⟩
theorem pe_str {x j} : E X (.Constant (.str x) j pos) (tC (.str x)) := ⟨L2.pe_str⟩
theorem pe_int {i j} : E X (.Constant (.int i) j pos) (tC (.int i)) := ⟨L2.pe_int⟩
theorem pe_op {op : Operator} {r : R2} (ho : OpR X (binaryOp op) r) (ha : E X a ta) (hb : E X b tb) : E X (.BinOp a op b pos) (tOp r ta tb) := ⟨L2.pe_op ho ha.h hb.h⟩
theorem pv (i : Nat) {x : Str} (hN : X.N[i]? = some x := by rfl) (hv : Vis X.env.scope x := by first | exact Or.inl rfl | exact Or.inr (Or.inl rfl) | exact Or.inr (Or.inr rfl)) (hd : (x == ("__debug__" : Str)) = false := by decide)
    (hcd : (x == ("__classdict__" : Str)) = false := by decide) : E X (.Name x pos) (tVar i) := ⟨L2.pv i hN hv hd hcd⟩
theorem pe_ix {r : R2} (hr : IxR X r) (ha : E X a ta) (hb : E X b tb) (hs : PlainIx b) : E X (.Subscript a b pos) (tOp r ta tb) := ⟨L2.pe_ix hr ha.h hb.h hs⟩
theorem po_none : O X none tNoPart := ⟨L2.po_none⟩
theorem po_some (h : E X e te) : O X (some e) (tPart te) := ⟨L2.po_some h.h⟩
theorem pe_slice {lo hi : Option Expr} {tl th : TO} {r : V → Option Int → Option Int → Hp → VK → Prop} (hr : SlR X r) (he : E X e te) (hl : O X lo tl) (hu : O X hi th) : E X (.Subscript e (.Slice lo hi none p2) pos) (tSl r te tl th) := ⟨L2.pe_slice hr he.h hl.h hu.h⟩
theorem pe_call {CX : CXT} {k : Nat} {f : Addr} {fd : FuncData} {ps : List Str} {sp : Sp} {dvs : List V} {ds : List Value} {EE : XK} {x : Str} (F : FnOk X.prog X.w X.K X.mg X.base CX k f fd ps sp) (hr : Room k X.A) (hg : Gl X x) (hm : X.mg x = some (.ref f)) (hk : PySem.W.keepIn X.K (.ref f) = true) (hb : Binds X.K fd ps ds) (hd : Vals dvs ds) (hx : Passes CX X EE)
    (ha : A X (e :: es) tt) (hdb : (x == ("__debug__" : Str)) = false := by decide) (he : starEach (e :: es) X.env = (false, eval e X.env) :: starEach es X.env := by rfl) (hpl : (backTo pos (starEach es X.env)).any (·.1) = false := by rfl) :
    E X (.Call (.Name x p) (e :: es) [] pos) (tCall sp dvs EE tt) := ⟨L2.pe_call F hr hg hm hk hb hd hx ha.h hdb he hpl⟩
theorem pe_callB {id : String} {r : List V → Hp → VK → Prop} {x : Str} (hc : CallR X (.builtin id) r) (hg : Gl X x) (hm : X.mg x = none) (hv : bootBuiltins x = some (.builtin id)) (ha : A X (e :: es) tt) (hn : x ≠ "__name__" := by decide) (hdb : (x == ("__debug__" : Str)) = false := by decide)
    (he : starEach (e :: es) X.env = (false, eval e X.env) :: starEach es X.env := by rfl) (hpl : (backTo pos (starEach es X.env)).any (·.1) = false := by rfl) : E X (.Call (.Name x p) (e :: es) [] pos) (tCB r tt) := ⟨L2.pe_callB hc hg hm hv ha.h hn hdb he hpl⟩
theorem pe_callTy {TT : String} {r : List V → Hp → VK → Prop} {x : Str} (hc : CallR X (.type TT) r) (hg : Gl X x) (hm : X.mg x = none) (hv : bootBuiltins x = some (.type TT)) (ha : A X (e :: es) tt) (hn : x ≠ "__name__" := by decide) (hdb : (x == ("__debug__" : Str)) = false := by decide)
    (he : starEach (e :: es) X.env = (false, eval e X.env) :: starEach es X.env := by rfl) (hpl : (backTo pos (starEach es X.env)).any (·.1) = false := by rfl) : E X (.Call (.Name x p) (e :: es) [] pos) (tCB r tt) := ⟨L2.pe_callTy hc hg hm hv ha.h hn hdb he hpl⟩
end
end Z

set_option Elab.async false
set_option linter.all false
set_option maxRecDepth 100000
set_option maxHeartbeats 4000000
/-! k63: the machine without fuel, step by step, on the heap's own values. Own work. -/
namespace K63
open PySem L2 Builtin.Str
def top (i : Nat) : Stmt := PySem.Challenge.pw_macrohouse_k63_stuck_or_on.main.body.getD i (.Pass ⟨0, 0, 0, 0⟩)
abbrev sRun : Stmt := top 2
abbrev sAns : Stmt := top 3
abbrev sMInit : Stmt := inClass (top 4) 0
abbrev sValue : Stmt := inClass (top 4) 1
abbrev sWork : Stmt := inClass (top 4) 2
abbrev sFound : Stmt := inClass (top 4) 3
abbrev sChoose : Stmt := inClass (top 4) 4
abbrev sBegin : Stmt := inClass (top 4) 5
abbrev sEnd : Stmt := inClass (top 4) 6
abbrev sCallFn : Stmt := inClass (top 4) 7
abbrev sVIn : Stmt := top 5
abbrev sReck : Stmt := top 6
abbrev sCell : Stmt := top 8
abbrev sNumber : Stmt := top 9
abbrev sFn : Stmt := top 10
abbrev sStuck : Stmt := top 11
abbrev sCore : Stmt := top 12
abbrev sVal : Stmt := top 13
abbrev sCalled : Stmt := top 14
abbrev sPicked : Stmt := top 15
abbrev sLaw : Stmt := top 16
def cal (n : Str) (x y : Int) : Int := if n = "add" then x + y else if n = "sub" then x - y else if x < y then 1 else 0
abbrev OPS : List Str := ["add", "sub", "less"]
/-- values; an end -/
inductive AV where
  | num (z : Int)
  | op (n : Str)
  | fn (m : Nat)
def AV.kind : AV → Str
  | .num _ => "num"
  | .op _ => "op"
  | .fn _ => "fn"
inductive Out where
  | val (a : AV)
  | stuck
  | on
def reckO (f : AV) (as : List AV) : Option Int :=
  match f, as with
  | .op n, [.num x, .num y] => some (cal n x y)
  | _, _ => none
def reckR (f : AV) (as : List AV) : Out := match reckO f as with
  | some z => .val (.num z)
  | none => .stuck
/-- what a call of these values comes to, without fuel -/
def callO (f : AV) (as : List AV) : Out :=
  match f with
  | .fn m => if m = as.length then .on else .stuck
  | .num z => reckR (.num z) as
  | .op n => reckR (.op n) as
/-! ### on the heap -/
def ValIn (H : Hp) : AV → V → Prop
  | .num z, v => ∃ t, v = .ref t ∧ H t = some (.tup [.str "num", .int z])
  | .op n, v => n ∈ OPS ∧ ∃ t, v = .ref t ∧ H t = some (.tup [.str "op", .str n])
  | .fn m, v => ∃ t u b xs, v = .ref t ∧ H t = some (.tup [.str "fn", .ref u, b, .non]) ∧ H u = some (.tup xs) ∧ xs.length = m
/-- tuples stay -/
def Tup (H H' : Hp) : Prop := ∀ e xs, H e = some (.tup xs) → H' e = some (.tup xs)
theorem Tup.refl (H : Hp) : Tup H H := fun _ _ q => q
theorem Tup.trans {H H' H'' : Hp} (a : Tup H H') (b : Tup H' H'') : Tup H H'' := fun e xs q => b e xs (a e xs q)
theorem Tup.of {H H' : Hp} (s : Same H H') : Tup H H' := fun e xs q => s _ _ q
theorem ValIn.tup {H H' : Hp} (s : Tup H H') : ∀ {c : AV} {v : V}, ValIn H c v → ValIn H' c v
  | .num z, v, ⟨t, e, h⟩ => ⟨t, e, s _ _ h⟩
  | .op n, v, ⟨hn, t, e, h⟩ => ⟨hn, t, e, s _ _ h⟩
  | .fn m, v, ⟨t, u, b, xs, e, h, hu, hm⟩ => ⟨t, u, b, xs, e, s _ _ h, s _ _ hu, hm⟩
theorem ValIn.ref {H : Hp} : ∀ {c : AV} {v : V}, ValIn H c v → ∃ t, v = .ref t
  | .num z, v, ⟨t, e, h⟩ => ⟨t, e⟩
  | .op n, v, ⟨hn, t, e, h⟩ => ⟨t, e⟩
  | .fn m, v, ⟨t, u, b, xs, e, h, hu, hm⟩ => ⟨t, e⟩
/-- a value's first thing -/
theorem ValIn.first {K : PySem.W.Frag} {H : Hp} : ∀ {c : AV} {v : V}, ValIn H c v → ∃ t xs, v = .ref t ∧ SqT K H t xs ∧ atI xs 0 = some (.str c.kind)
  | .num z, v, ⟨t, e, h⟩ => ⟨t, _, e, SqT.of h, rfl⟩
  | .op n, v, ⟨hn, t, e, h⟩ => ⟨t, _, e, SqT.of h, rfl⟩
  | .fn m, v, ⟨t, u, b, xs, e, h, hu, hm⟩ => ⟨t, _, e, SqT.of h, rfl⟩
/-- one for one -/
def Al {α : Type} (R : α → V → Prop) (xs : List α) (vs : List V) : Prop := vs.length = xs.length ∧ ∀ (i : Nat) a, xs[i]? = some a → ∃ v, vs[i]? = some v ∧ R a v
section
variable {α : Type} {R R' : α → V → Prop} {xs : List α} {vs : List V}
theorem Al.nil : Al R [] [] := ⟨rfl, fun i a e => by simp at e⟩
theorem Al.mono (f : ∀ a v, R a v → R' a v) (h : Al R xs vs) : Al R' xs vs := ⟨h.1, fun i a e => by obtain ⟨v, e1, r⟩ := h.2 i a e; exact ⟨v, e1, f _ _ r⟩⟩
theorem Al.snoc (h : Al R xs vs) {a : α} {v : V} (r : R a v) : Al R (xs ++ [a]) (vs ++ [v]) := by
  refine ⟨by rw [List.length_append, List.length_append, h.1]; rfl, fun i b e => ?_⟩
  by_cases hi : i < xs.length
  · rw [List.getElem?_append_left hi] at e
    obtain ⟨u, e1, r1⟩ := h.2 i b e
    exact ⟨u, by rw [List.getElem?_append_left (by rw [h.1]; exact hi)]; exact e1, r1⟩
  · have hi2 : i = xs.length := by
      have := (List.getElem?_eq_some_iff.mp e).1
      rw [List.length_append, List.length_singleton] at this
      omega
    subst hi2
    rw [List.getElem?_append_right (Nat.le_refl _), Nat.sub_self] at e
    have e' : a = b := by injection e
    subst e'
    exact ⟨v, by rw [← h.1, List.getElem?_append_right (Nat.le_refl _), Nat.sub_self]; rfl, r⟩
theorem Al.at (h : Al R xs vs) {i : Nat} {v : V} (hv : vs[i]? = some v) : ∃ a, xs[i]? = some a ∧ R a v := by
  have hi := (List.getElem?_eq_some_iff.mp hv).1
  have hx : i < xs.length := by rw [← h.1]; exact hi
  obtain ⟨u, eu, r⟩ := h.2 i xs[i] (List.getElem?_eq_getElem hx)
  rw [hv] at eu
  have : v = u := by injection eu
  exact ⟨xs[i], List.getElem?_eq_getElem hx, by rw [this]; exact r⟩
theorem Al.cons {a : α} {v : V} (r : R a v) (h : Al R xs vs) : Al R (a :: xs) (v :: vs) := by
  refine ⟨by rw [List.length_cons, List.length_cons, h.1], fun i b e => ?_⟩
  cases i with
  | zero => simp at e; subst e; exact ⟨v, rfl, r⟩
  | succ i => simpa using h.2 i b (by simpa using e)
theorem Al.uncons {a : α} (h : Al R (a :: xs) vs) : ∃ v vs', vs = v :: vs' ∧ R a v ∧ Al R xs vs' := by
  cases vs with
  | nil => exact absurd h.1 (by simp)
  | cons v vs' =>
    refine ⟨v, vs', rfl, ?_, by simpa using h.1, fun i b e => ?_⟩
    · obtain ⟨u, e1, r⟩ := h.2 0 a rfl
      simp at e1; subst e1; exact r
    · simpa using h.2 (i + 1) b (by simpa using e)
theorem Al.nil_of (h : Al R [] vs) : vs = [] := List.length_eq_zero_iff.mp h.1
end
theorem last_at {α : Type} (xs : List α) (x : α) : (xs ++ [x])[(xs ++ [x]).length - 1]? = some x := by
  rw [List.length_append, List.length_singleton, Nat.add_sub_cancel, List.getElem?_append_right (Nat.le_refl _), Nat.sub_self]; rfl
theorem kind_ne {H : Hp} {a c : Addr} {o u : HO} (h1 : H a = some o) (h2 : H c = some u) (h : o ≠ u) : a ≠ c := fun e => by
  rw [e, h2] at h1
  exact h (Option.some.inj h1).symm
theorem putK_len (kvs : List (Key × V)) (k : Key) (v : V) : (putK kvs k v).length ≤ kvs.length + 1 := by
  unfold putK
  split
  · rw [List.length_map]; omega
  · rw [List.length_append, List.length_singleton]; exact Nat.le_refl _
/-! ### the machine's steps, frames None, fuel 0 -/
inductive Go (kvs : List (Key × V)) (EV : V → Hp → Prop) (ES : Str → Hp → Prop) : Nat → Hp → List V → List V → Prop where
  | done {H : Hp} {v : V} (h : ∀ H', Tup H H' → EV v H') : Go kvs EV ES 0 H [] [v]
  | num {k : Nat} {H : Hp} {ts rs : List V} {c : Addr} {z : Int} (hb : ts.length + rs.length ≤ 500) (hc : H c = some (.tup [.str "num", .int z])) (h : ∀ H', Tup H H' → Go kvs EV ES k H' ts (rs ++ [.ref c])) : Go kvs EV ES (k + 1) H (ts ++ [.ref c]) rs
  | fn {k : Nat} {H : Hp} {ts rs : List V} {c : Addr} {u b : V} (hb : ts.length + rs.length ≤ 500) (hc : H c = some (.tup [.str "fn", u, b])) (h : ∀ H' t, Tup H H' → H' t = some (.tup [.str "fn", u, b, .non]) → Go kvs EV ES k H' ts (rs ++ [.ref t])) : Go kvs EV ES (k + 1) H (ts ++ [.ref c]) rs
  | op {k : Nat} {H : Hp} {ts rs : List V} {c : Addr} {n : Str} (hb : ts.length + rs.length ≤ 500) (hc : H c = some (.tup [.str "free", .str n])) (hn : n ∈ OPS) (h : ∀ H' t, Tup H H' → H' t = some (.tup [.str "op", .str n]) → Go kvs EV ES k H' ts (rs ++ [.ref t])) : Go kvs EV ES (k + 1) H (ts ++ [.ref c]) rs
  | noop {k : Nat} {H : Hp} {ts rs : List V} {c : Addr} {n : Str} (hb : ts.length + rs.length ≤ 500) (hc : H c = some (.tup [.str "free", .str n])) (hn : ¬ n ∈ OPS) (h : ∀ H', Tup H H' → ES "stuck" H') : Go kvs EV ES (k + 1) H (ts ++ [.ref c]) rs
  | seen {k : Nat} {H : Hp} {ts rs : List V} {c t : Addr} {p : Int} (hb : ts.length + rs.length ≤ 500) (hc : H c = some (.tup [.str "seen", .int p])) (hv : valV kvs (.inl (some p)) = some (.ref t)) (h : ∀ H', Tup H H' → Go kvs EV ES k H' ts (rs ++ [.ref t])) : Go kvs EV ES (k + 1) H (ts ++ [.ref c]) rs
  | noseen {k : Nat} {H : Hp} {ts rs : List V} {c : Addr} {p : Int} (hb : ts.length + rs.length ≤ 500) (hc : H c = some (.tup [.str "seen", .int p])) (hv : valV kvs (.inl (some p)) = none) (h : ∀ H', Tup H H' → ES "stuck" H') : Go kvs EV ES (k + 1) H (ts ++ [.ref c]) rs
  | now {k : Nat} {H : Hp} {ts rs : List V} {c : Addr} {x : V} (hb : ts.length + rs.length ≤ 500) (hc : H c = some (.tup [.str "now", x])) (h : ∀ H', Tup H H' → Go kvs EV ES k H' (ts ++ [x]) rs) : Go kvs EV ES (k + 1) H (ts ++ [.ref c]) rs
  | pick {k : Nat} {H : Hp} {ts rs : List V} {c : Addr} {x y z : V} (hb : ts.length + rs.length ≤ 500) (hc : H c = some (.tup [.str "pick", x, y, z])) (h : ∀ H' t, Tup H H' → H' t = some (.tup [.str "choose", y, z]) → Go kvs EV ES k H' (ts ++ [.ref t] ++ [x]) rs) : Go kvs EV ES (k + 1) H (ts ++ [.ref c]) rs
  | cho {k : Nat} {H : Hp} {ts rs : List V} {c r : Addr} {y z : V} {i : Int} (hb : ts.length + rs.length ≤ 500) (hc : H c = some (.tup [.str "choose", y, z])) (hr : H r = some (.tup [.str "num", .int i])) (h : ∀ H', Tup H H' → Go kvs EV ES k H' (ts ++ [if i = 0 then z else y]) rs) : Go kvs EV ES (k + 1) H (ts ++ [.ref c]) (rs ++ [.ref r])
  | nocho {k : Nat} {H : Hp} {ts rs : List V} {c : Addr} {v y z : V} {a : AV} (hb : ts.length + rs.length ≤ 500) (hc : H c = some (.tup [.str "choose", y, z])) (hr : ValIn H a v) (ha : a.kind ≠ "num") (h : ∀ H', Tup H H' → ES "stuck" H') : Go kvs EV ES (k + 1) H (ts ++ [.ref c]) (rs ++ [v])
  | call {k : Nat} {H : Hp} {ts rs as : List V} {c u : Addr} {f : V} (hb : ts.length + rs.length + as.length ≤ 500) (hc : H c = some (.tup [.str "call", f, .ref u])) (hu : H u = some (.tup as)) (h : ∀ H' t, Tup H H' → H' t = some (.tup [.str "enter", .int (as.length : Int)]) → Go kvs EV ES k H' (ts ++ [.ref t] ++ as.reverse ++ [f]) rs) : Go kvs EV ES (k + 1) H (ts ++ [.ref c]) rs
  | ent {k : Nat} {H : Hp} {ts rs vs : List V} {c : Addr} {g : V} {f : AV} {as : List AV} (hb : ts.length + rs.length + vs.length ≤ 500) (hc : H c = some (.tup [.str "enter", .int (vs.length : Int)])) (hf : ValIn H f g) (hv : Al (ValIn H) as vs)
      (h1 : ∀ a, callO f as = .val a → ∀ H' v, Tup H H' → ValIn H' a v → Go kvs EV ES k H' ts (rs ++ [v])) (h2 : callO f as = .stuck → ∀ H', Tup H H' → ES "stuck" H') (h3 : callO f as = .on → ∀ H', Tup H H' → ES "on" H') : Go kvs EV ES (k + 1) H (ts ++ [.ref c]) (rs ++ [g] ++ vs)
theorem Go.mono {kvs : List (Key × V)} {EV : V → Hp → Prop} {ES : Str → Hp → Prop} {k : Nat} {H H' : Hp} {ts rs : List V} (g : Go kvs EV ES k H ts rs) (s : Tup H H') : Go kvs EV ES k H' ts rs := by
  cases g with
  | done h => exact .done fun H2 s2 => h H2 (s.trans s2)
  | num hb hc h => exact .num hb (s _ _ hc) fun H2 s2 => h H2 (s.trans s2)
  | fn hb hc h => exact .fn hb (s _ _ hc) fun H2 t s2 => h H2 t (s.trans s2)
  | op hb hc hn h => exact .op hb (s _ _ hc) hn fun H2 t s2 => h H2 t (s.trans s2)
  | noop hb hc hn h => exact .noop hb (s _ _ hc) hn fun H2 s2 => h H2 (s.trans s2)
  | seen hb hc hv h => exact .seen hb (s _ _ hc) hv fun H2 s2 => h H2 (s.trans s2)
  | noseen hb hc hv h => exact .noseen hb (s _ _ hc) hv fun H2 s2 => h H2 (s.trans s2)
  | now hb hc h => exact .now hb (s _ _ hc) fun H2 s2 => h H2 (s.trans s2)
  | pick hb hc h => exact .pick hb (s _ _ hc) fun H2 t s2 => h H2 t (s.trans s2)
  | cho hb hc hr h => exact .cho hb (s _ _ hc) (s _ _ hr) fun H2 s2 => h H2 (s.trans s2)
  | nocho hb hc hr ha h => exact .nocho hb (s _ _ hc) (hr.tup s) ha fun H2 s2 => h H2 (s.trans s2)
  | call hb hc hu h => exact .call hb (s _ _ hc) (s _ _ hu) fun H2 t s2 => h H2 t (s.trans s2)
  | ent hb hc hf hv h1 h2 h3 => exact .ent hb (s _ _ hc) (hf.tup s) (hv.mono fun _ _ r => r.tup s) (fun a e H2 v s2 => h1 a e H2 v (s.trans s2)) (fun e H2 s2 => h2 e H2 (s.trans s2)) (fun e H2 s2 => h3 e H2 (s.trans s2))
theorem Go.cut {kvs : List (Key × V)} {EV : V → Hp → Prop} {ES : Str → Hp → Prop} {k : Nat} {H : Hp} {ts rs : List V} (g : Go kvs EV ES k H ts rs) : (k = 0 ∧ ts = [] ∧ ∃ v, rs = [v] ∧ ∀ H', Tup H H' → EV v H') ∨ ∃ k0 ts0 x, k = k0 + 1 ∧ ts = ts0 ++ [x] := by
  cases g with
  | done h => exact .inl ⟨rfl, rfl, _, rfl, h⟩
  | num hb hc h => exact .inr ⟨_, _, _, rfl, rfl⟩
  | fn hb hc h => exact .inr ⟨_, _, _, rfl, rfl⟩
  | op hb hc hn h => exact .inr ⟨_, _, _, rfl, rfl⟩
  | noop hb hc hn h => exact .inr ⟨_, _, _, rfl, rfl⟩
  | seen hb hc hv h => exact .inr ⟨_, _, _, rfl, rfl⟩
  | noseen hb hc hv h => exact .inr ⟨_, _, _, rfl, rfl⟩
  | now hb hc h => exact .inr ⟨_, _, _, rfl, rfl⟩
  | pick hb hc h => exact .inr ⟨_, _, _, rfl, rfl⟩
  | cho hb hc hr h => exact .inr ⟨_, _, _, rfl, rfl⟩
  | nocho hb hc hr ha h => exact .inr ⟨_, _, _, rfl, rfl⟩
  | call hb hc hu h => exact .inr ⟨_, _, _, rfl, rfl⟩
  | ent hb hc hf hv h1 h2 h3 => exact .inr ⟨_, _, _, rfl, rfl⟩
/-! ### the machine -/
abbrev flds (fu : V) (dk tl rl : Addr) (en : V) : List (Str × V) := [("fuel", fu), ("known", .ref dk), ("tasks", .ref tl), ("results", .ref rl), ("ending", en)]
structure MSt (C : Addr) (H : Hp) (m dx : Addr) (fu : V) (dk tl rl : Addr) (en : V) (kvs : List (Key × V)) (tv rv : List V) : Prop where
  mo : H m = some (.ins C dx (flds fu dk tl rl en))
  hd : H dk = some (.dK kvs)
  ht : H tl = some (.lst tv)
  hr : H rl = some (.lst rv)
  ne : tl ≠ rl
/-- a task of this, with no frame -/
def Tk (H : Hp) (x v : V) : Prop := ∃ t, v = .ref t ∧ H t = some (.tup [x, .non])
theorem Tk.tup {H H' : Hp} (s : Tup H H') {x v : V} (h : Tk H x v) : Tk H' x v := by obtain ⟨t, e, q⟩ := h; exact ⟨t, e, s _ _ q⟩
/-- what is asked of the class and the names -/
structure MT (K : PySem.W.Frag) (mg : Str → Option Value) (C op : Addr) : Prop where
  cl : Cls K C
  nF : NoAttr K C "fuel"
  nK : NoAttr K C "known"
  nT : NoAttr K C "tasks"
  nR : NoAttr K C "results"
  nE : NoAttr K C "ending"
  mgC : mg "Machine" = some (.ref C)
  mgO : mg "OPERATIONS" = some (.ref op)
  opT : ∀ H, SqT K H op [.str "add", .str "sub", .str "less"]
  len : mg "len" = none
  list : mg "list" = none
  rev : mg "reversed" = none
  range : mg "range" = none
  isi : mg "isinstance" = none
  tuple : mg "tuple" = none
  int : mg "int" = none
  bool : mg "bool" = none
  max : mg "max" = none
theorem in_ops (n : Str) : inV (.str n) [.str "add", .str "sub", .str "less"] = decide (n ∈ OPS) := by
  rw [Bool.eq_iff_iff, decide_eq_true_eq]
  unfold inV
  rw [List.any_eq_true]
  constructor
  · rintro ⟨y, hy, e⟩
    have : y = .str n := by
      simp only [List.mem_cons, List.not_mem_nil, or_false] at hy
      rcases hy with rfl | rfl | rfl
      · have h : (("add" : Str) == n) = true := e
        rw [eq_of_beq h]
      · have h : (("sub" : Str) == n) = true := e
        rw [eq_of_beq h]
      · have h : (("less" : Str) == n) = true := e
        rw [eq_of_beq h]
    rw [this] at hy
    simp only [List.mem_cons, List.not_mem_nil, or_false] at hy ⊢
    rcases hy with h | h | h
    · injection h with h; exact .inl h
    · injection h with h; exact .inr (.inl h)
    · injection h with h; exact .inr (.inr h)
  · intro h
    simp only [List.mem_cons, List.not_mem_nil, or_false] at h
    rcases h with rfl | rfl | rfl
    · exact ⟨.str "add", by simp, rfl⟩
    · exact ⟨.str "sub", by simp, rfl⟩
    · exact ⟨.str "less", by simp, rfl⟩
theorem dec_S {x y : Str} : decide (V.str x = V.str y) = decide (x = y) := by
  rw [decide_eq_decide]; exact ⟨fun e => by injection e, fun e => by rw [e]⟩
end K63

set_option Elab.async false
set_option linter.all false
set_option maxRecDepth 100000
set_option maxHeartbeats 4000000
/-! k63: the machine's methods, one by one. Own work. -/
namespace K63
open PySem L2 Builtin.Str
section
variable {C : Addr} {H H' : Hp} {m dx : Addr} {fu : V} {dk tl rl : Addr} {en : V} {kvs : List (Key × V)} {tv rv : List V}
theorem MSt.push (h : MSt C H m dx fu dk tl rl en kvs tv rv) (rv' : List V) : MSt C (upd H rl (.lst rv')) m dx fu dk tl rl en kvs tv rv' :=
  ⟨by rw [upd_ne (kind_ne h.mo h.hr (fun z => nomatch z))]; exact h.mo, by rw [upd_ne (kind_ne h.hd h.hr (fun z => nomatch z))]; exact h.hd, by rw [upd_ne h.ne]; exact h.ht, upd_same, h.ne⟩
theorem MSt.task (h : MSt C H m dx fu dk tl rl en kvs tv rv) (tv' : List V) : MSt C (upd H tl (.lst tv')) m dx fu dk tl rl en kvs tv' rv :=
  ⟨by rw [upd_ne (kind_ne h.mo h.ht (fun z => nomatch z))]; exact h.mo, by rw [upd_ne (kind_ne h.hd h.ht (fun z => nomatch z))]; exact h.hd, upd_same, by rw [upd_ne (Ne.symm h.ne)]; exact h.hr, h.ne⟩
theorem MSt.stop (h : MSt C H m dx fu dk tl rl en kvs tv rv) (en' : V) : MSt C (upd H m (.ins C dx (flds fu dk tl rl en'))) m dx fu dk tl rl en' kvs tv rv :=
  ⟨upd_same, by rw [upd_ne (kind_ne h.hd h.mo (fun z => nomatch z))]; exact h.hd, by rw [upd_ne (kind_ne h.ht h.mo (fun z => nomatch z))]; exact h.ht, by rw [upd_ne (kind_ne h.hr h.mo (fun z => nomatch z))]; exact h.hr, h.ne⟩
theorem MSt.same (h : MSt C H m dx fu dk tl rl en kvs tv rv) (s : Same H H') : MSt C H' m dx fu dk tl rl en kvs tv rv :=
  ⟨s _ _ h.mo, s _ _ h.hd, s _ _ h.ht, s _ _ h.hr, h.ne⟩
/-- all stays but the machine and its lists -/
def Kp (H H' : Hp) (m tl rl : Addr) : Prop := ∀ b o, b ≠ m → b ≠ tl → b ≠ rl → H b = some o → H' b = some o
theorem Kp.refl (H : Hp) (m tl rl : Addr) : Kp H H m tl rl := fun _ _ _ _ _ e => e
theorem Kp.trans {H H' H'' : Hp} {m tl rl : Addr} (a : Kp H H' m tl rl) (b : Kp H' H'' m tl rl) : Kp H H'' m tl rl := fun c o n0 n1 n2 e => b c o n0 n1 n2 (a c o n0 n1 n2 e)
theorem Kp.of {H H' : Hp} {m tl rl : Addr} (s : Same H H') : Kp H H' m tl rl := fun c o _ _ _ e => s _ _ e
theorem MSt.tup (h : MSt C H m dx fu dk tl rl en kvs tv rv) (k : Kp H H' m tl rl) : Tup H H' := fun e xs q =>
  k e _ (kind_ne q h.mo (fun z => nomatch z)) (kind_ne q h.ht (fun z => nomatch z)) (kind_ne q h.hr (fun z => nomatch z)) q
theorem kp_push (rv' : List V) : Kp H (upd H rl (.lst rv')) m tl rl := fun b o _ _ n e => by rw [upd_ne n]; exact e
theorem kp_task (tv' : List V) : Kp H (upd H tl (.lst tv')) m tl rl := fun b o _ n _ e => by rw [upd_ne n]; exact e
theorem kp_stop (o' : HO) : Kp H (upd H m o') m tl rl := fun b o n _ _ e => by rw [upd_ne n]; exact e
end
/-- ended by s -/
def Ended (C : Addr) (m dx : Addr) (fu : V) (dk tl rl : Addr) (kvs : List (Key × V)) (s : Str) (H H' : Hp) : Prop := ∃ t tv rv, H' t = some (.tup [.str s]) ∧ MSt C H' m dx fu dk tl rl (.ref t) kvs tv rv ∧ Kp H H' m tl rl
def spFA (C : Addr) : Sp := fun vs H Q _ => ∃ (m dx : Addr) (fu : V) (dk tl rl : Addr) (kvs : List (Key × V)) (tv rv : List V) (u : V), vs = [.ref m, u] ∧ MSt C H m dx fu dk tl rl .non kvs tv rv ∧ rv.length ≤ 1000 ∧
  ((∃ t, u = .ref t ∧ Q .non (upd H rl (.lst (rv ++ [.ref t])))) ∨ (u = .non ∧ ∀ H', Ended C m dx fu dk tl rl kvs "stuck" H H' → Q .non H'))
def spVI : Sp := fun vs H Q _ => ∃ (p : Int) (dk : Addr) (kvs : List (Key × V)), vs = [.non, .int p, .ref dk] ∧ H dk = some (.dK kvs) ∧ Q ((valV kvs (.inl (some p))).getD .non) H
def spCallFn (C : Addr) : Sp := fun vs H Q _ => ∃ (m dx dk tl rl : Addr) (kvs : List (Key × V)) (tv rv : List V) (g l : V), vs = [.ref m, g, l] ∧ MSt C H m dx (.int 0) dk tl rl .non kvs tv rv ∧ ∀ H', Ended C m dx (.int 0) dk tl rl kvs "on" H H' → Q .non H'
def spReck : Sp := fun vs H Q _ => ∃ (g : V) (l : Addr) (f : AV) (as : List AV) (xs : List V), vs = [g, .ref l] ∧ ValIn H f g ∧ H l = some (.lst xs) ∧ Al (ValIn H) as xs ∧ xs.length ≤ 1000 ∧
  (∀ z, reckO f as = some z → ∀ (H' : Hp) (t : Addr), Same H H' → H' t = some (.tup [.str "num", .int z]) → Q (.ref t) H') ∧ (reckO f as = none → ∀ H', Same H H' → Q .non H')
def spChoose (C : Addr) : Sp := fun vs H Q _ => ∃ (m dx : Addr) (fu : V) (dk tl rl : Addr) (kvs : List (Key × V)) (tv rv : List V) (c : Addr) (y z v : V) (a : AV), vs = [.ref m, .ref c, .non] ∧ MSt C H m dx fu dk tl rl .non kvs tv (rv ++ [v]) ∧ tv.length ≤ 1000 ∧ H c = some (.tup [.str "choose", y, z]) ∧ ValIn H a v ∧
  (∀ i, a = .num i → ∀ (H' : Hp) (u : V), MSt C H' m dx fu dk tl rl .non kvs (tv ++ [u]) rv → Tk H' (if i = 0 then z else y) u → Kp H H' m tl rl → Q .non H') ∧ (a.kind ≠ "num" → ∀ H', Ended C m dx fu dk tl rl kvs "stuck" H H' → Q .non H')
def spBegin (C : Addr) : Sp := fun vs H Q _ => ∃ (m dx : Addr) (fu : V) (dk tl rl : Addr) (kvs : List (Key × V)) (tv rv : List V) (c u : Addr) (f : V) (as : List V), vs = [.ref m, .ref c, .non] ∧ MSt C H m dx fu dk tl rl .non kvs tv rv ∧ tv.length + as.length ≤ 1000 ∧ H c = some (.tup [.str "call", f, .ref u]) ∧ H u = some (.tup as) ∧
  ∀ (H' : Hp) (e : Addr) (new : List V), MSt C H' m dx fu dk tl rl .non kvs (tv ++ new) rv → H' e = some (.tup [.str "enter", .int (as.length : Int)]) → Al (Tk H') ([.ref e] ++ as.reverse ++ [f]) new → Kp H H' m tl rl → Q .non H'
section
variable {P : Program} {w : World} {K : PySem.W.Frag} {mg : Str → Option Value} {base : Heap} {C op : Addr}
theorem ended_of {m dx : Addr} {fu : V} {dk tl rl : Addr} {kvs : List (Key × V)} {tv rv : List V} {H : Hp} (h : MSt C H m dx fu dk tl rl .non kvs tv rv) {t : Addr} (ht : H t = none) (s : Str) : Ended C m dx fu dk tl rl kvs s H (upd (upd H t (.tup [.str s])) m (.ins C dx (flds fu dk tl rl (.ref t)))) := by
  have s2 := same_upd (o := .tup [.str s]) ht
  have nt2 : t ≠ m := fun e => by rw [e, h.mo] at ht; cases ht
  exact ⟨t, tv, rv, by rw [upd_ne nt2, upd_same], (h.same s2).stop _, (Kp.of s2).trans (kp_stop _)⟩
theorem scFound : FnScope ["self", "value"] ["self", "value"] (defScope sFound) := ⟨rfl, rfl, rfl, by decide +kernel, rfl, by decide +kernel, by decide +kernel⟩
theorem ok_fa {f : Addr} {fd : FuncData} (F : Fun K "found_as" "Machine.found_as" sFound f fd) (T : MT K mg C op) : FnOk P w K mg base CX0 1 f fd ["self", "value"] (spFA C) := by
  refine F.ok scFound (fun vs H Q E h => ?_) (fun cdv A outer s H vs Q E hr h => ?_)
  · obtain ⟨m, dx, fu, dk, tl, rl, kvs, tv, rv, u, rfl, _⟩ := h; rfl
  · obtain ⟨m, dx, fu, dk, tl, rl, kvs, tv, rv, u, rfl, h, hl, q⟩ := h
    have z1 : 1 ≤ sizeLine := by rw [sizeLine_eq]; decide
    refine ⟨_, pss_one (ps_if (pt_cmpR op_isN (pv 1) pe_non (nomark _)) (pss_one (ps_fld (pv 0) (pe_tup (pa_cons pe_str pa_nil)) rfl)) (pss_one (ps_expr (pe_bm PySem.F.plainAttrs_list PySem.F.slot_list_append PySem.F.type_list_append mt_append (pe_fld (pv 0) rfl : PE _ _ (tFld K (tVar 0) ("results" : Str))) (pa_cons (pv 1) pa_nil))))), ?_⟩
    rcases q with ⟨t, rfl, q⟩ | ⟨rfl, q⟩
    · exact ⟨_, rfl, rfl, false, rfl, iteF ⟨_, rfl, m, C, dx, _, .ref rl, rfl, h.mo, T.cl, T.nR, rfl, .inl ⟨rfl, _, SqL.of h.hr⟩, _, rfl, rl, _, _, rfl, rfl, h.hr, by rw [sizeLine_eq]; omega, q⟩⟩
    · refine ⟨_, rfl, rfl, true, rfl, iteT ⟨z1, fun t ht => ?_⟩⟩
      exact ⟨_, rfl, m, C, dx, _, rfl, same_upd ht _ _ h.mo, T.cl, T.nE, by show 5 < 1000; decide, q _ (ended_of h ht "stuck")⟩
theorem scVI : FnScope ["frame", "place", "known", "around"] ["frame", "place", "known"] (defScope sVIn) := ⟨rfl, rfl, rfl, by decide +kernel, rfl, by decide +kernel, by decide +kernel⟩
theorem ok_vi {f : Addr} {fd : FuncData} (F : Fun K "value_in" "value_in" sVIn f fd) : FnOk P w K mg base CX0 1 f fd ["frame", "place", "known"] spVI := by
  refine F.ok scVI (fun vs H Q E h => ?_) (fun cdv A outer s H vs Q E hr h => ?_)
  · obtain ⟨p, dk, kvs, rfl, _⟩ := h; rfl
  · obtain ⟨p, dk, kvs, rfl, hd, q⟩ := h
    have nd := scVI.nd
    have hu := hu_of hr
    refine ⟨_, pss_cons (ps_set (i := 3) nd rfl (Or.inl rfl) (pv 0))
      (pss_cons (ps_while PassesOwn.never (pt_cmpR op_notN (pv 3) pe_non (nomark _)) pss_never)
      (pss_one (ps_ret (pe_dget1 hu (pv 2) (pv 1) ⟨rfl, rfl, rfl, rfl⟩)))), ?_⟩
    refine ⟨_, rfl, fun k σ H' => σ = [some .non, some (.int p), some (.ref dk), some .non] ∧ H' = H, ⟨0, rfl, rfl⟩, ?_⟩
    rintro k σ H' ⟨rfl, rfl⟩
    refine ⟨_, rfl, rfl, false, rfl, iteF ?_⟩
    exact ⟨_, rfl, dk, rfl, .inl ⟨_, .inl hd⟩, _, rfl, _, DGet.k (k := .inl (some p)) hd, q⟩
theorem scCallFn : FnScope ["self", "value", "values", "handed"] ["self", "value", "values"] (defScope sCallFn) := ⟨rfl, rfl, rfl, by decide +kernel, rfl, by decide +kernel, by decide +kernel⟩
theorem ok_callfn {f : Addr} {fd : FuncData} (F : Fun K "call_fn" "Machine.call_fn" sCallFn f fd) (T : MT K mg C op) : FnOk P w K mg base CX0 1 f fd ["self", "value", "values"] (spCallFn C) := by
  refine F.ok scCallFn (fun vs H Q E h => ?_) (fun cdv A outer s H vs Q E hr h => ?_)
  · obtain ⟨m, dx, dk, tl, rl, kvs, tv, rv, g, l, rfl, _⟩ := h; rfl
  · obtain ⟨m, dx, dk, tl, rl, kvs, tv, rv, g, l, rfl, h, q⟩ := h
    have z1 : 1 ≤ sizeLine := by rw [sizeLine_eq]; decide
    refine ⟨_, pss_one (ps_if (pt_cmpR op_eq (pe_fld (pv 0) rfl : PE _ _ (tFld K (tVar 0) ("fuel" : Str))) pe_int (nomark _)) (pss_one (ps_fld (pv 0) (pe_tup (pa_cons pe_str pa_nil)) rfl)) pss_never), ?_⟩
    refine ⟨_, rfl, m, C, dx, _, .int 0, rfl, h.mo, T.cl, T.nF, rfl, rfl, true, rfl, iteT ⟨z1, fun t ht => ?_⟩⟩
    exact ⟨_, rfl, m, C, dx, _, rfl, same_upd ht _ _ h.mo, T.cl, T.nE, by show 5 < 1000; decide, q _ (ended_of h ht "on")⟩
theorem scReck : FnScope ["operation", "values", "one", "two"] ["operation", "values"] (defScope sReck) := ⟨rfl, rfl, rfl, by decide +kernel, rfl, by decide +kernel, by decide +kernel⟩
theorem lcReck1 : LcS (defScope sReck).names [(".0", .local), ("value", .local)] ["operation", "values", "one", "two"] [false, false, false, false] := ⟨by decide +kernel, by decide +kernel, by decide +kernel, by decide +kernel, by decide +kernel, rfl⟩
theorem ndReck1 : (["operation", "values", "one", "two", "value"] : List Str).Nodup := by decide +kernel
theorem yes_if {σ : St} {H : Hp} {A B : Hp → Prop} (h : A H) : tYes σ H (fun b H3 => if b = true then A H3 else B H3) := by
  show if true = true then A H else B H
  rw [if_pos rfl]; exact h
theorem kinds_eq : ∀ {as : List AV}, eqVs (as.map fun a => V.str a.kind) [.str "num", .str "num"] = true → ∃ x y, as = [.num x, .num y]
  | [.num x, .num y], _ => ⟨x, y, rfl⟩
  | [], h => nomatch h
  | [.num _], h => nomatch h
  | [.op _], h => nomatch h
  | [.fn _], h => nomatch h
  | .op _ :: _ :: _, h => nomatch h
  | .fn _ :: _ :: _, h => nomatch h
  | .num _ :: .op _ :: _, h => nomatch h
  | .num _ :: .fn _ :: _, h => nomatch h
  | .num _ :: .num _ :: _ :: _, h => nomatch h
theorem kinds_flat : ∀ as : List AV, (as.map fun a => V.str a.kind).all flatV = true
  | [] => rfl
  | a :: r => kinds_flat r
theorem ok_reck {f : Addr} {fd : FuncData} (F : Fun K "reckoned" "reckoned" sReck f fd) : FnOk P w K mg base CX0 1 f fd ["operation", "values"] spReck := by
  refine F.ok scReck (fun vs H Q E h => ?_) (fun cdv A outer s H vs Q E hr h => ?_)
  · obtain ⟨g, l, f', as, xs, rfl, _⟩ := h; rfl
  · obtain ⟨g, l, f', as, xs, rfl, hg, hl, hA, hlen, q1, q2⟩ := h
    have nd := scReck.nd
    have hu := hu_of hr
    have z2 : 2 ≤ sizeLine := by rw [sizeLine_eq]; decide
    refine ⟨_, pss_cons (ps_if (PW.pt (pw_or (pt_cmpR op_ne (pe_ix ix_tup (pv 0) pe_int (fun _ _ => rfl)) pe_str (nomark _)) (pw_or1 (pt_cmpR (op_neL hu) (pe_lc (ext := ["value"]) lcReck1 rfl (pi_list (pv 1))
          ⟨fun _ _ _ _ _ => (pg_name (i := 4) ndReck1 rfl (Or.inl rfl) (.inr rfl)), fun _ _ _ _ _ => pts_nil, fun _ _ _ _ _ => (pe_ix (ix_tup : IxR _ (rIxT K)) (pv 4) pe_int (fun _ _ => rfl))⟩) (pe_lst (pa_cons pe_str (pa_cons pe_str pa_nil))) (nomark _)))))
      (pss_one (ps_ret pe_non))
      pss_nil)
      (pss_cons (ps_set (i := 2) nd rfl (Or.inl rfl) (pe_ix ix_tup (pe_ix ix_list (pv 1) pe_int (fun _ _ => rfl)) pe_int (fun _ _ => rfl)))
      (pss_cons (ps_set (i := 3) nd rfl (Or.inl rfl) (pe_ix ix_tup (pe_ix ix_list (pv 1) pe_int (fun _ _ => rfl)) pe_int (fun _ _ => rfl)))
      (pss_cons (ps_if (pt_cmpR op_eq (pe_ix ix_tup (pv 0) pe_int (fun _ _ => rfl)) pe_str (nomark _))
      (pss_one (ps_ret (pe_tup (pa_cons pe_str (pa_cons (pe_op op_add (pv 2) (pv 3)) pa_nil)))))
      pss_nil)
      (pss_cons (ps_if (pt_cmpR op_eq (pe_ix ix_tup (pv 0) pe_int (fun _ _ => rfl)) pe_str (nomark _))
      (pss_one (ps_ret (pe_tup (pa_cons pe_str (pa_cons (pe_op op_sub (pv 2) (pv 3)) pa_nil)))))
      pss_nil)
      (pss_one (ps_ret (pe_tup (pa_cons pe_str (pa_cons (pe_ifExp (pt_cmpR op_lt (pv 2) (pv 3) (nomark _)) pe_int pe_int) pa_nil))))))))), ?_⟩
    cases f' with
    | num z =>
      obtain ⟨o, rfl, ho⟩ := hg
      exact ⟨_, rfl, o, _, _, _, rfl, rfl, SqT.of ho, rfl, rfl, true, rfl, iteT (iteT (q2 rfl H (Same.refl _)))⟩
    | fn k =>
      obtain ⟨o, u, b, ys, rfl, ho, _, _⟩ := hg
      exact ⟨_, rfl, o, _, _, _, rfl, rfl, SqT.of ho, rfl, rfl, true, rfl, iteT (iteT (q2 rfl H (Same.refl _)))⟩
    | op n =>
      obtain ⟨hn, o, rfl, ho⟩ := hg
      refine ⟨_, rfl, o, _, _, _, rfl, rfl, SqT.of ho, rfl, rfl, false, rfl, iteF ?_⟩
      refine ⟨_, rfl, l, rfl, ⟨_, SqL.of hl⟩, fun D hD => ?_⟩
      refine lc_lst (K := K) (a := l) (xs := xs) (fun k ys σ' H' => (∃ v, σ' = [none, none, none, none, v]) ∧ Same H H' ∧ H' D = some (.lst ys) ∧ ys = (as.take k).map fun a => V.str a.kind)
        ⟨⟨_, rfl⟩, same_upd hD, upd_same, rfl⟩ (fun k ys σ' H' _ hP => SqL.of (hP.2.1 _ _ hl)) ?_ ?_
      · rintro k x ys σ' H' hx ⟨⟨v, rfl⟩, sH, hDy, hys⟩
        unfold gName
        refine yes_if ?_
        have hk := (List.getElem?_eq_some_iff.mp hx).1
        obtain ⟨a, ea, hav⟩ := hA.at hx
        obtain ⟨t, zs, rfl, hsq, hat⟩ := (hav.tup (Tup.of sH)).first (K := K)
        refine ⟨_, rfl, t, zs, _, _, rfl, rfl, hsq, hat, hDy, by rw [hys, List.length_map, List.length_take, sizeLine_eq]; omega, Beh.of hk ⟨⟨_, rfl⟩, fun c o e => ?_, upd_same, ?_⟩⟩
        · rw [upd_ne (ne_of_none e hD)]; exact sH _ _ e
        · rw [List.take_succ, ea, List.map_append, hys]; rfl
      · rintro ys σ' H1 ⟨_, s1, hD1, hys⟩
        rw [hA.1, List.take_length] at hys
        subst hys
        refine ⟨z2, fun p hp => ?_⟩
        have s2 := same_upd (o := .lst [.str "num", .str "num"]) hp
        have s12 := s1.trans s2
        refine ⟨D, p, _, _, rfl, rfl, SqL.of (s2 _ _ hD1), SqL.of upd_same, kinds_flat as, rfl, ?_⟩
        rw [if_pos rfl]
        cases ek : eqVs (as.map fun a => V.str a.kind) [.str "num", .str "num"] with
        | false =>
          refine ⟨true, rfl, iteT (q2 ?_ _ s12)⟩
          unfold reckO
          split
          · rename_i n' x y e1
            exact absurd ek (by simp [eqVs, AV.kind, eqV])
          · rfl
        | true =>
          obtain ⟨x, y, rfl⟩ := kinds_eq ek
          obtain ⟨v1, r1, rfl, ⟨a, rfl, ha⟩, hr1⟩ := hA.uncons
          obtain ⟨v2, r2, rfl, ⟨b, rfl, hb⟩, hr2⟩ := hr1.uncons
          have er := hr2.nil_of
          subst er
          refine ⟨false, rfl, iteF ?_⟩
          refine ⟨_, rfl, l, _, _, _, rfl, rfl, SqL.of (s12 _ _ hl), atI_nat (j := 0) rfl, a, _, _, _, rfl, rfl, SqT.of (s12 _ _ ha), rfl, ?_⟩
          refine ⟨_, rfl, l, _, _, _, rfl, rfl, SqL.of (s12 _ _ hl), atI_nat (j := 1) rfl, b, _, _, _, rfl, rfl, SqT.of (s12 _ _ hb), rfl, ?_⟩
          have q := q1 (cal n x y) rfl
          unfold cal at q
          refine ⟨_, rfl, o, _, _, _, rfl, rfl, SqT.of (s12 _ _ ho), rfl, rfl, decide (n = "add"), by rw [dec_S], ite2 (fun c1 => ?_) (fun c1 => ?_)⟩
          · rw [if_pos (of_decide_eq_true c1)] at q
            exact ⟨_, rfl, _, rfl, _, _, rfl, rfl, z2, fun t ht => q _ t (s12.trans (same_upd ht)) upd_same⟩
          · rw [if_neg (fun z => c1 (decide_eq_true z))] at q
            refine ⟨_, rfl, o, _, _, _, rfl, rfl, SqT.of (s12 _ _ ho), rfl, rfl, decide (n = "sub"), by rw [dec_S], ite2 (fun c2 => ?_) (fun c2 => ?_)⟩
            · rw [if_pos (of_decide_eq_true c2)] at q
              exact ⟨_, rfl, _, rfl, _, _, rfl, rfl, z2, fun t ht => q _ t (s12.trans (same_upd ht)) upd_same⟩
            · rw [if_neg (fun z => c2 (decide_eq_true z))] at q
              refine ⟨_, rfl, _, rfl, _, _, rfl, rfl, _, rfl, ite2 (fun c3 => ?_) (fun c3 => ?_)⟩
              · rw [if_pos (of_decide_eq_true c3)] at q
                exact ⟨z2, fun t ht => q _ t (s12.trans (same_upd ht)) upd_same⟩
              · rw [if_neg (fun z => c3 (decide_eq_true z))] at q
                exact ⟨z2, fun t ht => q _ t (s12.trans (same_upd ht)) upd_same⟩
theorem scChoose : FnScope ["self", "core", "frame", "value"] ["self", "core", "frame"] (defScope sChoose) := ⟨rfl, rfl, rfl, by decide +kernel, rfl, by decide +kernel, by decide +kernel⟩
theorem ok_choose {f : Addr} {fd : FuncData} (F : Fun K "choose" "Machine.choose" sChoose f fd) (T : MT K mg C op) : FnOk P w K mg base CX0 1 f fd ["self", "core", "frame"] (spChoose C) := by
  refine F.ok scChoose (fun vs H Q E h => ?_) (fun cdv A outer s H vs Q E hr h => ?_)
  · obtain ⟨m, dx, fu, dk, tl, rl, kvs, tv, rv, c, y, z, v, a, rfl, _⟩ := h; rfl
  · obtain ⟨m, dx, fu, dk, tl, rl, kvs, tv, rv, c, y, z, v, a, rfl, hM, htl, hc, ha, q1, q2⟩ := h
    have nd := scChoose.nd
    have z1 : 1 ≤ sizeLine := by rw [sizeLine_eq]; decide
    have z2 : 2 ≤ sizeLine := by rw [sizeLine_eq]; decide
    refine ⟨_, pss_cons (ps_set (i := 3) nd rfl (Or.inl rfl) (pe_bm0 PySem.F.plainAttrs_list PySem.F.slot_list_pop PySem.F.type_list_pop mt_pop (pe_fld (pv 0) rfl : PE _ _ (tFld K (tVar 0) ("results" : Str)))))
      (pss_one (ps_if (pt_cmpR op_eq (pe_ix ix_tup (pv 3) pe_int (fun _ _ => rfl)) pe_str (nomark _))
        (pss_one (ps_expr (pe_bm PySem.F.plainAttrs_list PySem.F.slot_list_append PySem.F.type_list_append mt_append (pe_fld (pv 0) rfl : PE _ _ (tFld K (tVar 0) ("tasks" : Str))) (pa_cons (pe_tup (pa_cons (pe_ifExp (pt_cmpR op_eq (pe_ix ix_tup (pv 3) pe_int (fun _ _ => rfl)) pe_int (nomark _)) (pe_ix ix_tup (pv 1) pe_int (fun _ _ => rfl)) (pe_ix ix_tup (pv 1) pe_int (fun _ _ => rfl))) (pa_cons (pv 2) pa_nil))) pa_nil))))
        (pss_one (ps_fld (pv 0) (pe_tup (pa_cons pe_str pa_nil)) rfl)))), ?_⟩
    refine ⟨_, rfl, m, C, dx, _, .ref rl, rfl, hM.mo, T.cl, T.nR, rfl, .inl ⟨rfl, _, SqL.of hM.hr⟩, rl, _, v, rfl, rfl, hM.hr, last_at rv v, ?_⟩
    rw [List.dropLast_concat]
    have hk1 : Kp H (upd H rl (.lst rv)) m tl rl := kp_push rv
    have hM1 := hM.push rv
    have tk1 := hM.tup hk1
    have hc1 := tk1 _ _ hc
    have ha1 := ha.tup tk1
    generalize upd H rl (.lst rv) = H1 at hk1 hM1 tk1 hc1 ha1 ⊢
    have bad : a.kind ≠ "num" → ∀ t xs, v = .ref t → SqT K H1 t xs → atI xs 0 = some (.str a.kind) → ∀ t', H1 t' = none → Q .non (upd (upd H1 t' (.tup [.str "stuck"])) m (.ins C dx (flds fu dk tl rl (.ref t')))) := fun hk t xs _ _ _ t' ht' => by
      obtain ⟨t2, tv2, rv2, e1, e2, e3⟩ := ended_of hM1 ht' "stuck"
      exact q2 hk _ ⟨t2, tv2, rv2, e1, e2, hk1.trans e3⟩
    cases a with
    | num i =>
      obtain ⟨t, rfl, ht⟩ := ha1
      refine ⟨_, rfl, t, _, _, _, rfl, rfl, SqT.of ht, rfl, rfl, true, rfl, iteT ?_⟩
      have fin : ∀ x, (if i = 0 then z else y) = x → ∀ t2, H1 t2 = none → ∃ (l : Addr) (xs : List V) (y' : V), V.ref tl = .ref l ∧ [V.ref t2] = [y'] ∧ upd H1 t2 (.tup [x, .non]) l = some (.lst xs) ∧ xs.length < sizeLine ∧ Q .non (upd (upd H1 t2 (.tup [x, .non])) l (.lst (xs ++ [y']))) := fun x ex t2 ht2 => by
        have s2 := same_upd (o := .tup [x, .non]) ht2
        have n2 : t2 ≠ tl := fun e => by rw [e, hM1.ht] at ht2; cases ht2
        refine ⟨tl, tv, .ref t2, rfl, rfl, s2 _ _ hM1.ht, by rw [sizeLine_eq]; omega, ?_⟩
        exact q1 i rfl _ (.ref t2) ((hM1.same s2).task _) (by rw [ex]; exact ⟨t2, rfl, by rw [upd_ne n2, upd_same]⟩) ((hk1.trans (Kp.of s2)).trans (kp_task _))
      refine ⟨_, rfl, m, C, dx, _, .ref tl, rfl, hM1.mo, T.cl, T.nT, rfl, .inl ⟨rfl, _, SqL.of hM1.ht⟩, _, rfl, t, _, _, _, rfl, rfl, SqT.of ht, rfl, rfl, decide (i = 0), by rw [dec_int]; exact (decide_eq_decide.mpr Iff.rfl).symm ▸ rfl, ite2 (fun c1 => ?_) (fun c1 => ?_)⟩
      · exact ⟨_, rfl, c, _, _, _, rfl, rfl, SqT.of hc1, rfl, _, rfl, z2, fin z (if_pos (of_decide_eq_true c1))⟩
      · exact ⟨_, rfl, c, _, _, _, rfl, rfl, SqT.of hc1, rfl, _, rfl, z2, fin y (if_neg (fun e => c1 (decide_eq_true e)))⟩
    | op n =>
      obtain ⟨hn, t, rfl, ht⟩ := ha1
      refine ⟨_, rfl, t, _, _, _, rfl, rfl, SqT.of ht, rfl, rfl, false, rfl, iteF ⟨z1, fun t' ht' => ?_⟩⟩
      exact ⟨_, rfl, m, C, dx, _, rfl, same_upd ht' _ _ hM1.mo, T.cl, T.nE, by show 5 < 1000; decide, bad (by show ("op" : Str) ≠ "num"; decide) t _ rfl (SqT.of ht) rfl t' ht'⟩
    | fn k =>
      obtain ⟨t, u, b, xs, rfl, ht, _, _⟩ := ha1
      refine ⟨_, rfl, t, _, _, _, rfl, rfl, SqT.of ht, rfl, rfl, false, rfl, iteF ⟨z1, fun t' ht' => ?_⟩⟩
      exact ⟨_, rfl, m, C, dx, _, rfl, same_upd ht' _ _ hM1.mo, T.cl, T.nE, by show 5 < 1000; decide, bad (by show ("fn" : Str) ≠ "num"; decide) t _ rfl (SqT.of ht) rfl t' ht'⟩
abbrev NBegin : List Str := ["self", "core", "frame", "part"]
theorem scBegin : FnScope NBegin ["self", "core", "frame"] (defScope sBegin) := ⟨rfl, rfl, rfl, by decide +kernel, rfl, by decide +kernel, by decide +kernel⟩
theorem ok_begin {f : Addr} {fd : FuncData} (F : Fun K "begin_call" "Machine.begin_call" sBegin f fd) (T : MT K mg C op) : FnOk P w K mg base CX0 1 f fd ["self", "core", "frame"] (spBegin C) := by
  refine F.ok scBegin (fun vs H Q E h => ?_) (fun cdv A outer s H vs Q E hr h => ?_)
  · obtain ⟨m, dx, fu, dk, tl, rl, kvs, tv, rv, c, u, f', as, rfl, _⟩ := h; rfl
  · obtain ⟨m, dx, fu, dk, tl, rl, kvs, tv, rv, c, u, f', as, rfl, h, hl, hc, hu, q⟩ := h
    have nd := scBegin.nd
    have z2 : 2 ≤ sizeLine := by rw [sizeLine_eq]; decide
    refine ⟨_, pss_cons (ps_expr (pe_bm PySem.F.plainAttrs_list PySem.F.slot_list_append PySem.F.type_list_append mt_append (pe_fld (pv 0) rfl : PE _ _ (tFld K (tVar 0) ("tasks" : Str))) (pa_cons (pe_tup (pa_cons (pe_tup (pa_cons pe_str (pa_cons (pe_callB call_len_seq (by rfl) T.len bt_len (pa_cons (pe_ix ix_tup (pv 1) pe_int (fun _ _ => rfl)) pa_nil)) pa_nil))) (pa_cons (pv 2) pa_nil))) pa_nil)))
      (pss_cons (ps_for PassesOwn.never rfl (pi_rvs (by rfl) T.rev (pe_ix ix_tup (pv 1) pe_int (fun _ _ => rfl))) (pg_name (i := 3) nd rfl (Or.inl rfl))
        (pss_one (ps_expr (pe_bm PySem.F.plainAttrs_list PySem.F.slot_list_append PySem.F.type_list_append mt_append (pe_fld (pv 0) rfl : PE _ _ (tFld K (tVar 0) ("tasks" : Str))) (pa_cons (pe_tup (pa_cons (pv 3) (pa_cons (pv 2) pa_nil))) pa_nil)))))
      (pss_one (ps_expr (pe_bm PySem.F.plainAttrs_list PySem.F.slot_list_append PySem.F.type_list_append mt_append (pe_fld (pv 0) rfl : PE _ _ (tFld K (tVar 0) ("tasks" : Str))) (pa_cons (pe_tup (pa_cons (pe_ix ix_tup (pv 1) pe_int (fun _ _ => rfl)) (pa_cons (pv 2) pa_nil))) pa_nil))))), ?_⟩
    -- a task more
    have more : ∀ (H5 : Hp) (new xs : List V) (t : Addr) (x : V), H5 t = none → MSt C H5 m dx fu dk tl rl .non kvs (tv ++ new) rv → Al (Tk H5) xs new → Kp H H5 m tl rl →
        MSt C (upd (upd H5 t (.tup [x, .non])) tl (.lst (tv ++ new ++ [.ref t]))) m dx fu dk tl rl .non kvs (tv ++ (new ++ [.ref t])) rv ∧ Al (Tk (upd (upd H5 t (.tup [x, .non])) tl (.lst (tv ++ new ++ [.ref t])))) (xs ++ [x]) (new ++ [.ref t]) ∧ Tup H5 (upd (upd H5 t (.tup [x, .non])) tl (.lst (tv ++ new ++ [.ref t]))) ∧ Kp H (upd (upd H5 t (.tup [x, .non])) tl (.lst (tv ++ new ++ [.ref t]))) m tl rl := fun H5 new xs t x ht hM hal hk => by
      have st := same_upd (o := .tup [x, .non]) ht
      have hk5 : Kp H5 (upd (upd H5 t (.tup [x, .non])) tl (.lst (tv ++ new ++ [.ref t]))) m tl rl := (Kp.of st).trans (kp_task _)
      have tk := hM.tup hk5
      have ntl : t ≠ tl := fun z => by rw [z, hM.ht] at ht; cases ht
      refine ⟨?_, (hal.mono fun a v r => r.tup tk).snoc ⟨t, rfl, by rw [upd_ne ntl, upd_same]⟩, tk, hk.trans hk5⟩
      rw [← List.append_assoc]
      exact (hM.same st).task _
    refine ⟨_, rfl, m, C, dx, _, .ref tl, rfl, h.mo, T.cl, T.nT, rfl, .inl ⟨rfl, _, SqL.of h.ht⟩, _, rfl, c, _, _, _, rfl, rfl, SqT.of hc, rfl, u, _, rfl, .inr (SqT.of hu), z2, fun e he => ?_⟩
    have s1 := same_upd (o := .tup [.str "enter", .int (as.length : Int)]) he
    have fe1 : upd H e (.tup [.str "enter", .int (as.length : Int)]) e = some (.tup [.str "enter", .int (as.length : Int)]) := upd_same
    have hM1 := h.same s1
    generalize upd H e (.tup [.str "enter", .int (as.length : Int)]) = H1 at s1 fe1 hM1 ⊢
    refine ⟨_, rfl, z2, fun t0 ht0 => ?_⟩
    refine ⟨tl, _, _, rfl, rfl, same_upd ht0 _ _ hM1.ht, by rw [sizeLine_eq]; omega, ?_⟩
    obtain ⟨m1, m2, m3, m4⟩ := more H1 [] [] t0 (.ref e) ht0 (by rw [List.append_nil]; exact hM1) Al.nil (Kp.of s1)
    rw [List.append_nil] at m1 m2 m3 m4
    have fe3 := m3 _ _ fe1
    generalize upd (upd H1 t0 (.tup [.ref e, .non])) tl (.lst (tv ++ [.ref t0])) = H3 at m1 m2 m3 m4 fe3 ⊢
    have tk3 := h.tup m4
    refine ⟨_, rfl, c, _, _, _, rfl, rfl, SqT.of (tk3 _ _ hc), rfl, u, _, rfl, SqT.of (tk3 _ _ hu), for_rvs (K := K) (a := u) (xs := as) (fun i σ H5 => (∃ v, σ = [some (.ref m), some (.ref c), some .non, v]) ∧ ∃ new, new.length = i + 1 ∧ MSt C H5 m dx fu dk tl rl .non kvs (tv ++ new) rv ∧ Al (Tk H5) ([.ref e] ++ as.reverse.take i) new ∧ H5 e = some (.tup [.str "enter", .int (as.length : Int)]) ∧ Kp H H5 m tl rl)
      ⟨⟨_, rfl⟩, [.ref t0], rfl, m1, m2, fe3, m4⟩ (fun i σ H5 _ hP => by obtain ⟨_, new, _, _, _, _, hk⟩ := hP; exact SqT.of (h.tup hk _ _ hu)) ?_ ?_⟩
    · rintro i x σ H5 hx hi ⟨⟨v, rfl⟩, new, hnl, hM5, hal, hee, hk⟩
      refine ⟨_, rfl, m, C, dx, _, .ref tl, rfl, hM5.mo, T.cl, T.nT, rfl, .inl ⟨rfl, _, SqL.of hM5.ht⟩, _, rfl, _, rfl, z2, fun t ht => ?_⟩
      refine ⟨tl, _, _, rfl, rfl, same_upd ht _ _ hM5.ht, by rw [List.length_append, sizeLine_eq]; omega, ⟨_, rfl⟩, new ++ [.ref t], by rw [List.length_append, List.length_singleton]; omega, ?_⟩
      obtain ⟨m1, m2, m3, m4⟩ := more H5 new _ t x ht hM5 hal hk
      refine ⟨m1, ?_, m3 _ _ hee, m4⟩
      have ex : as.reverse[i]? = some x := by rw [List.getElem?_reverse hi]; exact hx
      rw [List.take_succ, ex, ← List.append_assoc]
      exact m2
    · rintro σ H5 ⟨⟨v, rfl⟩, new, hnl, hM5, hal, hee, hk⟩
      have tk5 := h.tup hk
      refine ⟨_, rfl, m, C, dx, _, .ref tl, rfl, hM5.mo, T.cl, T.nT, rfl, .inl ⟨rfl, _, SqL.of hM5.ht⟩, _, rfl, c, _, _, _, rfl, rfl, SqT.of (tk5 _ _ hc), rfl, _, rfl, z2, fun t ht => ?_⟩
      refine ⟨tl, _, _, rfl, rfl, same_upd ht _ _ hM5.ht, by rw [List.length_append, hnl, sizeLine_eq]; omega, ?_⟩
      obtain ⟨m1, m2, m3, m4⟩ := more H5 new _ t f' ht hM5 hal hk
      rw [← List.length_reverse (as := as), List.take_length] at m2
      exact q _ e _ m1 (m3 _ _ hee) m2 m4
end
end K63

set_option Elab.async false
set_option linter.all false
set_option maxRecDepth 100000
set_option maxHeartbeats 4000000
/-! k63: end_call, work, value_of. Own work. -/
namespace K63
open PySem L2 Builtin.Str
def spEnd (C : Addr) : Sp := fun vs H Q _ => ∃ (m dx dk tl rl : Addr) (kvs : List (Key × V)) (tv rs us : List V) (g : V) (f : AV) (as : List AV), vs = [.ref m, .int (us.length : Int)] ∧ MSt C H m dx (.int 0) dk tl rl .non kvs tv (rs ++ [g] ++ us) ∧ rs.length + us.length ≤ 900 ∧ ValIn H f g ∧ Al (ValIn H) as us ∧
  (∀ a, callO f as = .val a → ∀ (H' : Hp) (v : V), ValIn H' a v → MSt C H' m dx (.int 0) dk tl rl .non kvs tv (rs ++ [v]) → Kp H H' m tl rl → Q .non H') ∧
  (callO f as = .stuck → ∀ H', Ended C m dx (.int 0) dk tl rl kvs "stuck" H H' → Q .non H') ∧ (callO f as = .on → ∀ H', Ended C m dx (.int 0) dk tl rl kvs "on" H H' → Q .non H')
def spWork (C : Addr) : Sp := fun vs H Q _ => ∃ (m dx dk tl rl : Addr) (kvs : List (Key × V)) (tv rs xs : List V) (x : V) (k : Nat) (EV : V → Hp → Prop) (ES : Str → Hp → Prop), vs = [.ref m, x, .non] ∧ MSt C H m dx (.int 0) dk tl rl .non kvs tv rs ∧ Al (Tk H) xs tv ∧ Go kvs EV ES (k + 1) H (xs ++ [x]) rs ∧
  (∀ (H' : Hp) (tv' rs' xs' : List V), MSt C H' m dx (.int 0) dk tl rl .non kvs tv' rs' → Al (Tk H') xs' tv' → Go kvs EV ES k H' xs' rs' → Kp H H' m tl rl → Q .non H') ∧
  (∀ (H' : Hp) (z : Str), ES z H' → Ended C m dx (.int 0) dk tl rl kvs z H H' → Q .non H')
def spValue (C : Addr) : Sp := fun vs H Q _ => ∃ (m dx dk tl rl : Addr) (kvs : List (Key × V)) (x : V) (k : Nat) (EV : V → Hp → Prop) (ES : Str → Hp → Prop), vs = [.ref m, x] ∧ MSt C H m dx (.int 0) dk tl rl .non kvs [] [] ∧ Go kvs EV ES k H [x] [] ∧
  (∀ (H' : Hp) (v : V), MSt C H' m dx (.int 0) dk tl rl .non kvs [] [] → EV v H' → Kp H H' m tl rl → Q v H') ∧
  (∀ (H' : Hp) (z : Str), ES z H' → Ended C m dx (.int 0) dk tl rl kvs z H H' → Q .non H')
theorem snoc_inj {α : Type} {xs ys : List α} {x y : α} (h : xs ++ [x] = ys ++ [y]) : xs = ys ∧ x = y := by
  have h1 := List.append_inj' h rfl
  exact ⟨h1.1, by have := h1.2; injection this⟩
section
variable {P : Program} {w : World} {K : PySem.W.Frag} {mg : Str → Option Value} {base : Heap} {C op : Addr}
abbrev NEnd : List Str := ["self", "count", "values", "first"]
theorem scEnd : FnScope NEnd ["self", "count"] (defScope sEnd) := ⟨rfl, rfl, rfl, by decide +kernel, rfl, by decide +kernel, by decide +kernel⟩
theorem lcEnd1 : LcS (defScope sEnd).names [(".0", .local), ("thing", .local), ("self", .free)] NEnd [true, false, false, false] := ⟨by decide +kernel, by decide +kernel, by decide +kernel, by decide +kernel, by decide +kernel, rfl⟩
theorem ndEnd1 : (["self", "count", "values", "first", "thing"] : List Str).Nodup := by decide +kernel
theorem Ended.from {m dx : Addr} {fu : V} {dk tl rl : Addr} {kvs : List (Key × V)} {s : Str} {H H1 H' : Hp} (h : Ended C m dx fu dk tl rl kvs s H1 H') (k : Kp H H1 m tl rl) : Ended C m dx fu dk tl rl kvs s H H' := by
  obtain ⟨t, tv, rv, e1, e2, e3⟩ := h
  exact ⟨t, tv, rv, e1, e2, k.trans e3⟩
theorem take_rev {us : List V} {k : Nat} (hk : k < us.length) : ∃ z, us.take (us.length - k) = us.take (us.length - (k + 1)) ++ [z] ∧ us.reverse.take (k + 1) = us.reverse.take k ++ [z] := by
  have hj : us.length - (k + 1) < us.length := by omega
  refine ⟨us[us.length - (k + 1)], ?_, ?_⟩
  · rw [show us.length - k = us.length - (k + 1) + 1 by omega, List.take_succ, List.getElem?_eq_getElem hj]; rfl
  · rw [List.take_succ, List.getElem?_reverse hk, show us.length - 1 - k = us.length - (k + 1) by omega, List.getElem?_eq_getElem hj]; rfl
theorem ok_end {f fK fA fL : Addr} {fd fdK fdA fdL : FuncData} (F : Fun K "end_call" "Machine.end_call" sEnd f fd) (T : MT K mg C op)
    (FK : Fun K "reckoned" "reckoned" sReck fK fdK) (bK : Binds K fdK ["operation", "values"] []) (mK : mg "reckoned" = some (.ref fK))
    (FA : Fun K "found_as" "Machine.found_as" sFound fA fdA) (bA : Binds K fdA ["self", "value"] []) (mA : Meth K C "found_as" fA)
    (FL : Fun K "call_fn" "Machine.call_fn" sCallFn fL fdL) (bL : Binds K fdL ["self", "value", "values"] []) (mL : Meth K C "call_fn" fL) : FnOk P w K mg base CX0 2 f fd ["self", "count"] (spEnd C) := by
  have GK : FnOk P w K mg base CX0 1 fK fdK ["operation", "values"] spReck := ok_reck FK
  have GA : FnOk P w K mg base CX0 1 fA fdA ["self", "value"] (spFA C) := ok_fa FA T
  have GL : FnOk P w K mg base CX0 1 fL fdL ["self", "value", "values"] (spCallFn C) := ok_callfn FL T
  refine F.ok scEnd (fun vs H Q E h => ?_) (fun cdv A outer s H vs Q E hr h => ?_)
  · obtain ⟨m, dx, dk, tl, rl, kvs, tv, rs, us, g, f', as, rfl, _⟩ := h; rfl
  · obtain ⟨m, dx, dk, tl, rl, kvs, tv, rs, us, g, f', as, rfl, h, hl, hg, hA, q1, q2, q3⟩ := h
    have nd := scEnd.nd
    refine ⟨_, pss_cons (ps_set (i := 2) nd rfl (Or.inl rfl) (pe_lrev rfl (by rfl) T.list (by rfl) T.rev (pe_lc (ext := ["thing"]) lcEnd1 rfl (pi_range1 rfl T.range (pa_cons (pv 1) pa_nil))
        ⟨fun _ _ _ _ _ => (pg_name (i := 4) ndEnd1 rfl (Or.inl rfl) (.inr rfl)), fun _ _ _ _ _ => pts_nil, fun _ _ _ _ _ => (pe_bm0 PySem.F.plainAttrs_list PySem.F.slot_list_pop PySem.F.type_list_pop mt_pop (pe_fld (pv 0) rfl : PE _ _ (tFld K (tVar 0) ("results" : Str))) : PE _ _ (tBM0 K "list" rPop (tFld K (tVar 0) ("results" : Str))))⟩)))
      (pss_cons (ps_set (i := 3) nd rfl (Or.inl rfl) (pe_bm0 PySem.F.plainAttrs_list PySem.F.slot_list_pop PySem.F.type_list_pop mt_pop (pe_fld (pv 0) rfl : PE _ _ (tFld K (tVar 0) ("results" : Str)))))
      (pss_one (ps_if (PW.pt (pw_and (pt_cmpR op_eq (pe_ix ix_tup (pv 3) pe_int (fun _ _ => rfl)) pe_str (nomark _)) (pw_and1 (pt_cmpR op_eq (pe_callB call_len_seq (by rfl) T.len bt_len (pa_cons (pe_ix ix_tup (pv 3) pe_int (fun _ _ => rfl)) pa_nil)) (pv 1) (nomark _)))))
        (pss_one (ps_expr (pe_meth (pv 0) T.cl mL GL hr bL .nil pass0 (pa_cons (pv 3) (pa_cons (pv 2) pa_nil)))))
        (pss_one (ps_expr (pe_meth (pv 0) T.cl mA GA hr bA .nil pass0 (pa_cons (pe_call GK hr (by rfl) mK FK.kp bK .nil pass0 (pa_cons (pv 3) (pa_cons (pv 2) pa_nil))) pa_nil))))))), ?_⟩
    refine ⟨_, rfl, _, rfl, by omega, by omega, fun D hD => ?_⟩
    have nDr : D ≠ rl := fun e => by rw [e, h.hr] at hD; cases hD
    refine lc_rng (lo := 0) (n := ((us.length : Nat) : Int).toNat) (fun k ys σ' H' => (∃ v, σ' = [some (.ref m), none, none, none, v]) ∧ H' D = some (.lst ys) ∧ ys = us.reverse.take k ∧ H' rl = some (.lst (rs ++ [g] ++ us.take (us.length - k))) ∧ ∀ c u, c ≠ rl → H c = some u → H' c = some u)
      ⟨⟨_, rfl⟩, upd_same, rfl, by rw [upd_ne (Ne.symm nDr), h.hr, Nat.sub_zero, List.take_length], fun c u _ e => same_upd hD _ _ e⟩ ?_ ?_
    · rintro k ys σ' H' hk ⟨⟨v, rfl⟩, hD1, hys, hr1, hk1⟩
      unfold gName
      refine yes_if ?_
      have hk' : k < us.length := by omega
      obtain ⟨z, e1, e2⟩ := take_rev hk'
      rw [e1, ← List.append_assoc] at hr1
      refine ⟨_, rfl, m, C, dx, _, .ref rl, rfl, hk1 _ _ (kind_ne h.mo h.hr (fun z => nomatch z)) h.mo, T.cl, T.nR, rfl, .inl ⟨rfl, _, SqL.of hr1⟩, rl, _, z, rfl, rfl, hr1, last_at _ z, ?_⟩
      rw [List.dropLast_concat]
      refine ⟨by rw [upd_ne nDr]; exact hD1, by rw [hys, List.length_take, sizeLine_eq]; omega, Beh.of hk ⟨⟨_, rfl⟩, upd_same, by rw [e2, hys], ?_, fun c u nc e => ?_⟩⟩
      · rw [upd_ne (Ne.symm nDr), upd_same]
      · have ncD : c ≠ D := ne_of_none e hD
        rw [upd_ne ncD, upd_ne nc]; exact hk1 c u nc e
    · rintro ys σ' H1 ⟨_, hD1, hys, hr1, hk1⟩
      have en : ((us.length : Nat) : Int).toNat = us.length := by omega
      rw [en] at hys hr1
      have ey : ys.reverse = us := by rw [hys, ← List.length_reverse (as := us), List.take_length, List.reverse_reverse]
      rw [Nat.sub_self, List.take_zero, List.append_nil] at hr1
      refine ⟨D, _, rfl, SqL.of hD1, fun p hp => ?_⟩
      rw [ey]
      have s2 := same_upd (o := .lst us) hp
      have hp2 : upd H1 p (.lst us) p = some (.lst us) := upd_same
      generalize upd H1 p (.lst us) = H2 at hp2 s2 ⊢
      have hk2 : ∀ c u, c ≠ rl → H c = some u → H2 c = some u := fun c u n e => s2 _ _ (hk1 c u n e)
      have hr2 := s2 _ _ hr1
      refine ⟨_, rfl, m, C, dx, _, .ref rl, rfl, hk2 _ _ (kind_ne h.mo h.hr (fun z => nomatch z)) h.mo, T.cl, T.nR, rfl, .inl ⟨rfl, _, SqL.of hr2⟩, rl, _, g, rfl, rfl, hr2, last_at rs g, ?_⟩
      rw [List.dropLast_concat]
      have npr : p ≠ rl := fun e => by rw [e, hr1] at hp; cases hp
      have hk3 : ∀ c u, c ≠ rl → H c = some u → upd H2 rl (.lst rs) c = some u := fun c u n e => by rw [upd_ne n]; exact hk2 c u n e
      have hp3 : upd H2 rl (.lst rs) p = some (.lst us) := by rw [upd_ne npr]; exact hp2
      have hM3 : MSt C (upd H2 rl (.lst rs)) m dx (.int 0) dk tl rl .non kvs tv rs := ⟨hk3 _ _ (kind_ne h.mo h.hr (fun z => nomatch z)) h.mo, hk3 _ _ (kind_ne h.hd h.hr (fun z => nomatch z)) h.hd, hk3 _ _ h.ne h.ht, upd_same, h.ne⟩
      generalize upd H2 rl (.lst rs) = H3 at hk3 hp3 hM3 ⊢
      have hK3 : Kp H H3 m tl rl := fun c u _ _ n e => hk3 c u n e
      have tk3 := h.tup hK3
      have hg3 := hg.tup tk3
      have hA3 := hA.mono fun _ _ r => ValIn.tup tk3 r
      -- reckoned
      have reck : ∀ (o : Out), callO f' as = reckR f' as → ∃ (g' : V) (l : Addr) (f2 : AV) (as2 : List AV) (xs : List V), [g, V.ref p] = [g', .ref l] ∧ ValIn H3 f2 g' ∧ H3 l = some (.lst xs) ∧ Al (ValIn H3) as2 xs ∧ xs.length ≤ 1000 ∧
          (∀ z, reckO f2 as2 = some z → ∀ (H' : Hp) (t : Addr), Same H3 H' → H' t = some (.tup [.str "num", .int z]) → spFA C [.ref m, .ref t] H' Q E) ∧ (reckO f2 as2 = none → ∀ H', Same H3 H' → spFA C [.ref m, .non] H' Q E) := fun o ec => by
        refine ⟨g, p, f', as, us, rfl, hg3, hp3, hA3, by omega, fun z ez H4 t s4 ht => ?_, fun ez H4 s4 => ?_⟩
        · refine ⟨m, dx, .int 0, dk, tl, rl, kvs, tv, rs, .ref t, rfl, hM3.same s4, by omega, .inl ⟨t, rfl, ?_⟩⟩
          have hM4 := hM3.same s4
          have hk5 : Kp H4 (upd H4 rl (.lst (rs ++ [.ref t]))) m tl rl := kp_push _
          exact q1 (.num z) (by rw [ec]; unfold reckR; rw [ez]) _ (.ref t) ⟨t, rfl, hM4.tup hk5 _ _ ht⟩ (hM4.push _) ((hK3.trans (Kp.of s4)).trans hk5)
        · refine ⟨m, dx, .int 0, dk, tl, rl, kvs, tv, rs, .non, rfl, hM3.same s4, by omega, .inr ⟨rfl, fun H' he => ?_⟩⟩
          exact q2 (by rw [ec]; unfold reckR; rw [ez]) H' (he.from (hK3.trans (Kp.of s4)))
      cases f' with
      | num z =>
        obtain ⟨t, rfl, ht⟩ := id hg3
        refine ⟨_, rfl, t, _, _, _, rfl, rfl, SqT.of ht, rfl, rfl, false, rfl, iteF (iteF ?_)⟩
        exact ⟨_, rfl, m, dx, _, rfl, hM3.mo, rfl, _, rfl, _, rfl, reck .stuck rfl⟩
      | op n =>
        obtain ⟨hn, t, rfl, ht⟩ := id hg3
        refine ⟨_, rfl, t, _, _, _, rfl, rfl, SqT.of ht, rfl, rfl, false, rfl, iteF (iteF ?_)⟩
        exact ⟨_, rfl, m, dx, _, rfl, hM3.mo, rfl, _, rfl, _, rfl, reck .stuck rfl⟩
      | fn k =>
        obtain ⟨t, u, b, xs, rfl, ht, hu, hxs⟩ := id hg3
        refine ⟨_, rfl, t, _, _, _, rfl, rfl, SqT.of ht, rfl, rfl, true, rfl, iteT ?_⟩
        refine ⟨_, rfl, t, _, _, _, rfl, rfl, SqT.of ht, rfl, u, _, rfl, .inr (SqT.of hu), _, rfl, rfl, decide (k = as.length), ?_, ite2 (fun c1 => ?_) (fun c1 => ?_)⟩
        · rw [hxs, hA.1, dec_int, decide_eq_decide.mpr (show k = as.length ↔ ((k : Int) = (as.length : Int)) from by omega)]
          rfl
        · have ek := of_decide_eq_true c1
          refine ⟨_, rfl, m, dx, _, rfl, hM3.mo, rfl, _, rfl, _, rfl, m, dx, dk, tl, rl, kvs, tv, rs, .ref t, .ref p, rfl, hM3, fun H' he => ?_⟩
          exact q3 (by show (if k = as.length then _ else _) = _; rw [if_pos ek]) H' (he.from hK3)
        · have ek : ¬ k = as.length := fun z => c1 (decide_eq_true z)
          refine ⟨_, rfl, m, dx, _, rfl, hM3.mo, rfl, _, rfl, _, rfl, reck .stuck ?_⟩
          show (if k = as.length then _ else _) = _
          rw [if_neg ek]
          rfl
abbrev NWork : List Str := ["self", "core", "frame", "kind"]
theorem scWork : FnScope NWork ["self", "core", "frame"] (defScope sWork) := ⟨rfl, rfl, rfl, by decide +kernel, rfl, by decide +kernel, by decide +kernel⟩
theorem ok_work {f fA fV fC fB fE : Addr} {fd fdA fdV fdC fdB fdE : FuncData} (F : Fun K "work" "Machine.work" sWork f fd) (T : MT K mg C op)
    (FA : Fun K "found_as" "Machine.found_as" sFound fA fdA) (bA : Binds K fdA ["self", "value"] []) (mA : Meth K C "found_as" fA)
    (FV : Fun K "value_in" "value_in" sVIn fV fdV) (bV : Binds K fdV ["frame", "place", "known"] []) (mV : mg "value_in" = some (.ref fV))
    (FC : Fun K "choose" "Machine.choose" sChoose fC fdC) (bC : Binds K fdC ["self", "core", "frame"] []) (mC : Meth K C "choose" fC)
    (FB : Fun K "begin_call" "Machine.begin_call" sBegin fB fdB) (bB : Binds K fdB ["self", "core", "frame"] []) (mB : Meth K C "begin_call" fB)
    (bE : Binds K fdE ["self", "count"] []) (mE : Meth K C "end_call" fE) (GE : FnOk P w K mg base CX0 2 fE fdE ["self", "count"] (spEnd C)) : FnOk P w K mg base CX0 3 f fd ["self", "core", "frame"] (spWork C) := by
  have GA : FnOk P w K mg base CX0 2 fA fdA ["self", "value"] (spFA C) := (ok_fa FA T).mono (by decide)
  have GV : FnOk P w K mg base CX0 2 fV fdV ["frame", "place", "known"] spVI := (ok_vi FV).mono (by decide)
  have GC : FnOk P w K mg base CX0 2 fC fdC ["self", "core", "frame"] (spChoose C) := (ok_choose FC T).mono (by decide)
  have GB : FnOk P w K mg base CX0 2 fB fdB ["self", "core", "frame"] (spBegin C) := (ok_begin FB T).mono (by decide)
  refine F.ok scWork (fun vs H Q E h => ?_) (fun cdv A outer s H vs Q E hr h => ?_)
  · obtain ⟨m, dx, dk, tl, rl, kvs, tv, rs, xs, x, k, EV, ES, rfl, _⟩ := h; rfl
  · obtain ⟨m, dx, dk, tl, rl, kvs, tv, rs, xs, x, k, EV, ES, rfl, hM, hT, hGo, q1, q2⟩ := h
    have nd := scWork.nd
    have z2 : 2 ≤ sizeLine := by rw [sizeLine_eq]; decide
    have z3 : 3 ≤ sizeLine := by rw [sizeLine_eq]; decide
    have z4 : 4 ≤ sizeLine := by rw [sizeLine_eq]; decide
    refine ⟨_, pss_cons (ps_set (i := 3) nd rfl (Or.inl rfl) (pe_ix ix_tup (pv 1) pe_int (fun _ _ => rfl)))
      (pss_one (ps_if (pt_cmpR op_eq (pv 3) pe_str (nomark _)) (pss_one (ps_expr (pe_bm PySem.F.plainAttrs_list PySem.F.slot_list_append PySem.F.type_list_append mt_append (pe_fld (pv 0) rfl : PE _ _ (tFld K (tVar 0) ("results" : Str))) (pa_cons (pv 1) pa_nil))))
      (pss_one (ps_if (pt_cmpR op_eq (pv 3) pe_str (nomark _)) (pss_one (ps_expr (pe_meth (pv 0) T.cl mA GA hr bA .nil pass0 (pa_cons (pe_ifExp (pt_cmpR op_in_seq (pe_ix ix_tup (pv 1) pe_int (fun _ _ => rfl)) (pe_glob (v := .ref op) (by rfl) T.mgO rfl) rfl) (pe_tup (pa_cons pe_str (pa_cons (pe_ix ix_tup (pv 1) pe_int (fun _ _ => rfl)) pa_nil))) pe_non) pa_nil))))
      (pss_one (ps_if (pt_cmpR op_eq (pv 3) pe_str (nomark _)) (pss_one (ps_expr (pe_meth (pv 0) T.cl mA GA hr bA .nil pass0 (pa_cons (pe_call GV hr (by rfl) mV FV.kp bV .nil pass0 (pa_cons (pv 2) (pa_cons (pe_ix ix_tup (pv 1) pe_int (fun _ _ => rfl)) (pa_cons (pe_fld (pv 0) rfl : PE _ _ (tFld K (tVar 0) ("known" : Str))) pa_nil)))) pa_nil))))
      (pss_one (ps_if (pt_cmpR op_eq (pv 3) pe_str (nomark _)) (pss_one (ps_expr (pe_bm PySem.F.plainAttrs_list PySem.F.slot_list_append PySem.F.type_list_append mt_append (pe_fld (pv 0) rfl : PE _ _ (tFld K (tVar 0) ("results" : Str))) (pa_cons (pe_tup (pa_cons pe_str (pa_cons (pe_ix ix_tup (pv 1) pe_int (fun _ _ => rfl)) (pa_cons (pe_ix ix_tup (pv 1) pe_int (fun _ _ => rfl)) (pa_cons (pv 2) pa_nil))))) pa_nil))))
      (pss_one (ps_if (pt_cmpR op_eq (pv 3) pe_str (nomark _)) (pss_one (ps_expr (pe_bm PySem.F.plainAttrs_list PySem.F.slot_list_append PySem.F.type_list_append mt_append (pe_fld (pv 0) rfl : PE _ _ (tFld K (tVar 0) ("tasks" : Str))) (pa_cons (pe_tup (pa_cons (pe_ix ix_tup (pv 1) pe_int (fun _ _ => rfl)) (pa_cons (pv 2) pa_nil))) pa_nil))))
      (pss_one (ps_if (pt_cmpR op_eq (pv 3) pe_str (nomark _)) (pss_cons (ps_expr (pe_bm PySem.F.plainAttrs_list PySem.F.slot_list_append PySem.F.type_list_append mt_append (pe_fld (pv 0) rfl : PE _ _ (tFld K (tVar 0) ("tasks" : Str))) (pa_cons (pe_tup (pa_cons (pe_tup (pa_cons pe_str (pa_cons (pe_ix ix_tup (pv 1) pe_int (fun _ _ => rfl)) (pa_cons (pe_ix ix_tup (pv 1) pe_int (fun _ _ => rfl)) pa_nil)))) (pa_cons (pv 2) pa_nil))) pa_nil)))
        (pss_one (ps_expr (pe_bm PySem.F.plainAttrs_list PySem.F.slot_list_append PySem.F.type_list_append mt_append (pe_fld (pv 0) rfl : PE _ _ (tFld K (tVar 0) ("tasks" : Str))) (pa_cons (pe_tup (pa_cons (pe_ix ix_tup (pv 1) pe_int (fun _ _ => rfl)) (pa_cons (pv 2) pa_nil))) pa_nil)))))
      (pss_one (ps_if (pt_cmpR op_eq (pv 3) pe_str (nomark _)) (pss_one (ps_expr (pe_meth (pv 0) T.cl mC GC hr bC .nil pass0 (pa_cons (pv 1) (pa_cons (pv 2) pa_nil)))))
      (pss_one (ps_if (pt_cmpR op_eq (pv 3) pe_str (nomark _)) (pss_one (ps_expr (pe_meth (pv 0) T.cl mB GB hr bB .nil pass0 (pa_cons (pv 1) (pa_cons (pv 2) pa_nil)))))
      (pss_one (ps_expr (pe_meth (pv 0) T.cl mE GE hr bE .nil pass0 (pa_cons (pe_ix ix_tup (pv 1) pe_int (fun _ _ => rfl)) pa_nil)))))))))))))))))))), ?_⟩
    have tlen : tv.length = xs.length := hT.1
    have keepT : ∀ {H' : Hp}, Tup H H' → Al (Tk H') xs tv := fun tk => hT.mono fun _ _ r => Tk.tup tk r
    -- a task put on
    have more : ∀ (H5 : Hp) (tv5 xs5 : List V) (t : Addr) (y : V), H5 t = none → MSt C H5 m dx (.int 0) dk tl rl .non kvs tv5 rs → Al (Tk H5) xs5 tv5 → Kp H H5 m tl rl →
        MSt C (upd (upd H5 t (.tup [y, .non])) tl (.lst (tv5 ++ [.ref t]))) m dx (.int 0) dk tl rl .non kvs (tv5 ++ [.ref t]) rs ∧ Al (Tk (upd (upd H5 t (.tup [y, .non])) tl (.lst (tv5 ++ [.ref t])))) (xs5 ++ [y]) (tv5 ++ [.ref t]) ∧ Tup H5 (upd (upd H5 t (.tup [y, .non])) tl (.lst (tv5 ++ [.ref t]))) ∧ Kp H (upd (upd H5 t (.tup [y, .non])) tl (.lst (tv5 ++ [.ref t]))) m tl rl := fun H5 tv5 xs5 t y ht hM5 hal hk => by
      have st := same_upd (o := .tup [y, .non]) ht
      have hk5 : Kp H5 (upd (upd H5 t (.tup [y, .non])) tl (.lst (tv5 ++ [.ref t]))) m tl rl := (Kp.of st).trans (kp_task _)
      have tk := hM5.tup hk5
      have ntl : t ≠ tl := fun z => by rw [z, hM5.ht] at ht; cases ht
      exact ⟨(hM5.same st).task _, (hal.mono fun a v r => r.tup tk).snoc ⟨t, rfl, by rw [upd_ne ntl, upd_same]⟩, tk, hk.trans hk5⟩
    generalize hxs : xs ++ [x] = xsx at hGo
    generalize hrs : rs = rsx at hGo
    generalize hkk : k + 1 = kx at hGo
    cases hGo with
    | done h => simp at hxs
    | @num k1 _ ts1 rs1 c z hb hc hgo =>
      obtain ⟨rfl, rfl⟩ := snoc_inj hxs
      subst hrs
      cases hkk
      refine ⟨_, rfl, c, _, _, _, rfl, rfl, SqT.of hc, rfl, ?_⟩
      refine ⟨_, rfl, rfl, true, rfl, iteT ⟨_, rfl, m, C, dx, _, .ref rl, rfl, hM.mo, T.cl, T.nR, rfl, .inl ⟨rfl, _, SqL.of hM.hr⟩, _, rfl, rl, _, _, rfl, rfl, hM.hr, by rw [sizeLine_eq]; omega, ?_⟩⟩
      have hk : Kp H (upd H rl (.lst (rs ++ [.ref c]))) m tl rl := kp_push _
      exact q1 _ _ _ _ (hM.push _) (keepT (hM.tup hk)) (hgo _ (hM.tup hk)) hk
    | @op k1 _ ts1 rs1 c n hb hc hn hgo =>
      obtain ⟨rfl, rfl⟩ := snoc_inj hxs
      subst hrs
      cases hkk
      refine ⟨_, rfl, c, _, _, _, rfl, rfl, SqT.of hc, rfl, ?_⟩
      refine ⟨_, rfl, rfl, false, rfl, iteF ⟨_, rfl, rfl, true, rfl, iteT ?_⟩⟩
      refine ⟨_, rfl, m, dx, _, rfl, hM.mo, rfl, _, rfl, c, _, _, _, rfl, rfl, SqT.of hc, rfl, op, _, rfl, .inr (T.opT H), rfl, rfl, true, by rw [if_neg (by decide), in_ops, decide_eq_true hn], iteT ?_⟩
      refine ⟨_, rfl, c, _, _, _, rfl, rfl, SqT.of hc, rfl, z2, fun t2 ht2 => ?_⟩
      have s2 := same_upd (o := .tup [.str "op", .str n]) ht2
      refine ⟨m, dx, .int 0, dk, tl, rl, kvs, tv, rs, .ref t2, rfl, hM.same s2, by omega, .inl ⟨t2, rfl, ?_⟩⟩
      have nt2 : t2 ≠ rl := fun e => by rw [e, hM.hr] at ht2; cases ht2
      have hk : Kp H (upd (upd H t2 (.tup [.str "op", .str n])) rl (.lst (rs ++ [.ref t2]))) m tl rl := (Kp.of s2).trans (kp_push _)
      exact q1 _ _ _ _ ((hM.same s2).push _) (keepT (hM.tup hk)) (hgo _ t2 (hM.tup hk) (by rw [upd_ne nt2, upd_same])) hk
    | @noop k1 _ ts1 rs1 c n hb hc hn hgo =>
      obtain ⟨rfl, rfl⟩ := snoc_inj hxs
      subst hrs
      cases hkk
      refine ⟨_, rfl, c, _, _, _, rfl, rfl, SqT.of hc, rfl, ?_⟩
      refine ⟨_, rfl, rfl, false, rfl, iteF ⟨_, rfl, rfl, true, rfl, iteT ?_⟩⟩
      refine ⟨_, rfl, m, dx, _, rfl, hM.mo, rfl, _, rfl, c, _, _, _, rfl, rfl, SqT.of hc, rfl, op, _, rfl, .inr (T.opT H), rfl, rfl, false, by rw [if_neg (by decide), in_ops, decide_eq_false hn], iteF ?_⟩
      refine ⟨m, dx, .int 0, dk, tl, rl, kvs, tv, rs, .non, rfl, hM, by omega, .inr ⟨rfl, fun H' he => ?_⟩⟩
      obtain ⟨t, tv', rv', e1, e2, e3⟩ := id he
      exact q2 H' _ (hgo H' (hM.tup e3)) he
    | @seen k1 _ ts1 rs1 c t p hb hc hv hgo =>
      obtain ⟨rfl, rfl⟩ := snoc_inj hxs
      subst hrs
      cases hkk
      refine ⟨_, rfl, c, _, _, _, rfl, rfl, SqT.of hc, rfl, ?_⟩
      refine ⟨_, rfl, rfl, false, rfl, iteF ⟨_, rfl, rfl, false, rfl, iteF ⟨_, rfl, rfl, true, rfl, iteT ?_⟩⟩⟩
      refine ⟨_, rfl, m, dx, _, rfl, hM.mo, rfl, _, rfl, _, rfl, c, _, _, _, rfl, rfl, SqT.of hc, rfl, _, rfl, m, C, dx, _, .ref dk, rfl, hM.mo, T.cl, T.nK, rfl, p, dk, kvs, rfl, hM.hd, ?_⟩
      rw [hv]
      refine ⟨m, dx, .int 0, dk, tl, rl, kvs, tv, rs, .ref t, rfl, hM, by omega, .inl ⟨t, rfl, ?_⟩⟩
      have hk : Kp H (upd H rl (.lst (rs ++ [.ref t]))) m tl rl := kp_push _
      exact q1 _ _ _ _ (hM.push _) (keepT (hM.tup hk)) (hgo _ (hM.tup hk)) hk
    | @noseen k1 _ ts1 rs1 c p hb hc hv hgo =>
      obtain ⟨rfl, rfl⟩ := snoc_inj hxs
      subst hrs
      cases hkk
      refine ⟨_, rfl, c, _, _, _, rfl, rfl, SqT.of hc, rfl, ?_⟩
      refine ⟨_, rfl, rfl, false, rfl, iteF ⟨_, rfl, rfl, false, rfl, iteF ⟨_, rfl, rfl, true, rfl, iteT ?_⟩⟩⟩
      refine ⟨_, rfl, m, dx, _, rfl, hM.mo, rfl, _, rfl, _, rfl, c, _, _, _, rfl, rfl, SqT.of hc, rfl, _, rfl, m, C, dx, _, .ref dk, rfl, hM.mo, T.cl, T.nK, rfl, p, dk, kvs, rfl, hM.hd, ?_⟩
      rw [hv]
      refine ⟨m, dx, .int 0, dk, tl, rl, kvs, tv, rs, .non, rfl, hM, by omega, .inr ⟨rfl, fun H' he => ?_⟩⟩
      obtain ⟨t, tv', rv', e1, e2, e3⟩ := id he
      exact q2 H' _ (hgo H' (hM.tup e3)) he
    | @fn k1 _ ts1 rs1 c u b hb hc hgo =>
      obtain ⟨rfl, rfl⟩ := snoc_inj hxs
      subst hrs
      cases hkk
      refine ⟨_, rfl, c, _, _, _, rfl, rfl, SqT.of hc, rfl, ?_⟩
      refine ⟨_, rfl, rfl, false, rfl, iteF ⟨_, rfl, rfl, false, rfl, iteF ⟨_, rfl, rfl, false, rfl, iteF ⟨_, rfl, rfl, true, rfl, iteT ?_⟩⟩⟩⟩
      refine ⟨_, rfl, m, C, dx, _, .ref rl, rfl, hM.mo, T.cl, T.nR, rfl, .inl ⟨rfl, _, SqL.of hM.hr⟩, _, rfl, c, _, _, _, rfl, rfl, SqT.of hc, rfl, _, rfl, c, _, _, _, rfl, rfl, SqT.of hc, rfl, _, rfl, z4, fun t2 ht2 => ?_⟩
      have s2 := same_upd (o := .tup [.str "fn", u, b, .non]) ht2
      refine ⟨rl, _, _, rfl, rfl, s2 _ _ hM.hr, by rw [sizeLine_eq]; omega, ?_⟩
      have nt2 : t2 ≠ rl := fun e => by rw [e, hM.hr] at ht2; cases ht2
      have hk : Kp H (upd (upd H t2 (.tup [.str "fn", u, b, .non])) rl (.lst (rs ++ [.ref t2]))) m tl rl := (Kp.of s2).trans (kp_push _)
      exact q1 _ _ _ _ ((hM.same s2).push _) (keepT (hM.tup hk)) (hgo _ t2 (hM.tup hk) (by rw [upd_ne nt2, upd_same])) hk
    | @now k1 _ ts1 rs1 c y hb hc hgo =>
      obtain ⟨rfl, rfl⟩ := snoc_inj hxs
      subst hrs
      cases hkk
      refine ⟨_, rfl, c, _, _, _, rfl, rfl, SqT.of hc, rfl, ?_⟩
      refine ⟨_, rfl, rfl, false, rfl, iteF ⟨_, rfl, rfl, false, rfl, iteF ⟨_, rfl, rfl, false, rfl, iteF ⟨_, rfl, rfl, false, rfl, iteF ⟨_, rfl, rfl, true, rfl, iteT ?_⟩⟩⟩⟩⟩
      refine ⟨_, rfl, m, C, dx, _, .ref tl, rfl, hM.mo, T.cl, T.nT, rfl, .inl ⟨rfl, _, SqL.of hM.ht⟩, _, rfl, c, _, _, _, rfl, rfl, SqT.of hc, rfl, _, rfl, z2, fun t ht => ?_⟩
      refine ⟨tl, _, _, rfl, rfl, same_upd ht _ _ hM.ht, by rw [sizeLine_eq]; omega, ?_⟩
      obtain ⟨m1, m2, m3, m4⟩ := more H tv xs t y ht hM hT (Kp.refl _ _ _ _)
      exact q1 _ _ _ _ m1 m2 (hgo _ m3) m4
    | @pick k1 _ ts1 rs1 c x1 y1 z1 hb hc hgo =>
      obtain ⟨rfl, rfl⟩ := snoc_inj hxs
      subst hrs
      cases hkk
      refine ⟨_, rfl, c, _, _, _, rfl, rfl, SqT.of hc, rfl, ?_⟩
      refine ⟨_, rfl, rfl, false, rfl, iteF ⟨_, rfl, rfl, false, rfl, iteF ⟨_, rfl, rfl, false, rfl, iteF ⟨_, rfl, rfl, false, rfl, iteF ⟨_, rfl, rfl, false, rfl, iteF ⟨_, rfl, rfl, true, rfl, iteT ?_⟩⟩⟩⟩⟩⟩
      refine ⟨_, rfl, m, C, dx, _, .ref tl, rfl, hM.mo, T.cl, T.nT, rfl, .inl ⟨rfl, _, SqL.of hM.ht⟩, _, rfl, c, _, _, _, rfl, rfl, SqT.of hc, rfl, _, rfl, c, _, _, _, rfl, rfl, SqT.of hc, rfl, z3, fun t1 ht1 => ?_⟩
      have s1 := same_upd (o := .tup [.str "choose", y1, z1]) ht1
      have f1 : upd H t1 (.tup [.str "choose", y1, z1]) t1 = some (.tup [.str "choose", y1, z1]) := upd_same
      have hM1 := hM.same s1
      have hT1 := keepT (Tup.of s1)
      generalize upd H t1 (.tup [.str "choose", y1, z1]) = H1 at s1 f1 hM1 hT1 ⊢
      refine ⟨_, rfl, z2, fun t2 ht2 => ?_⟩
      refine ⟨tl, _, _, rfl, rfl, same_upd ht2 _ _ hM1.ht, by rw [sizeLine_eq]; omega, ?_⟩
      obtain ⟨m1, m2, m3, m4⟩ := more H1 tv xs t2 (.ref t1) ht2 hM1 hT1 (Kp.of s1)
      generalize upd (upd H1 t2 (.tup [.ref t1, .non])) tl (.lst (tv ++ [.ref t2])) = H2 at m1 m2 m3 m4 ⊢
      have tk2 := hM.tup m4
      refine ⟨_, rfl, m, C, dx, _, .ref tl, rfl, m1.mo, T.cl, T.nT, rfl, .inl ⟨rfl, _, SqL.of m1.ht⟩, _, rfl, c, _, _, _, rfl, rfl, SqT.of (tk2 _ _ hc), rfl, _, rfl, z2, fun t3 ht3 => ?_⟩
      refine ⟨tl, _, _, rfl, rfl, same_upd ht3 _ _ m1.ht, by rw [List.length_append, List.length_singleton, sizeLine_eq]; omega, ?_⟩
      obtain ⟨n1, n2, n3, n4⟩ := more H2 (tv ++ [.ref t2]) (xs ++ [.ref t1]) t3 x1 ht3 m1 m2 m4
      exact q1 _ _ _ _ n1 n2 (hgo _ t1 (tk2.trans n3) (n3 _ _ (m3 _ _ f1))) n4
    | @cho k1 _ ts1 rs1 c r y1 z1 i hb hc hr' hgo =>
      obtain ⟨rfl, rfl⟩ := snoc_inj hxs
      subst hrs
      cases hkk
      refine ⟨_, rfl, c, _, _, _, rfl, rfl, SqT.of hc, rfl, ?_⟩
      refine ⟨_, rfl, rfl, false, rfl, iteF ⟨_, rfl, rfl, false, rfl, iteF ⟨_, rfl, rfl, false, rfl, iteF ⟨_, rfl, rfl, false, rfl, iteF ⟨_, rfl, rfl, false, rfl, iteF ⟨_, rfl, rfl, false, rfl, iteF ⟨_, rfl, rfl, true, rfl, iteT ?_⟩⟩⟩⟩⟩⟩⟩
      refine ⟨_, rfl, m, dx, _, rfl, hM.mo, rfl, _, rfl, _, rfl, m, dx, .int 0, dk, tl, rl, kvs, tv, rs1, c, y1, z1, .ref r, .num i, rfl, hM, by omega, hc, ⟨r, rfl, hr'⟩, fun i' ei H' u hM' hu hk => ?_, fun hz => absurd rfl hz⟩
      cases ei
      have tk := hM.tup hk
      exact q1 _ _ _ _ hM' ((keepT tk).snoc hu) (hgo _ tk) hk
    | @nocho k1 _ ts1 rs1 c v y1 z1 a hb hc hr' ha hgo =>
      obtain ⟨rfl, rfl⟩ := snoc_inj hxs
      subst hrs
      cases hkk
      refine ⟨_, rfl, c, _, _, _, rfl, rfl, SqT.of hc, rfl, ?_⟩
      refine ⟨_, rfl, rfl, false, rfl, iteF ⟨_, rfl, rfl, false, rfl, iteF ⟨_, rfl, rfl, false, rfl, iteF ⟨_, rfl, rfl, false, rfl, iteF ⟨_, rfl, rfl, false, rfl, iteF ⟨_, rfl, rfl, false, rfl, iteF ⟨_, rfl, rfl, true, rfl, iteT ?_⟩⟩⟩⟩⟩⟩⟩
      refine ⟨_, rfl, m, dx, _, rfl, hM.mo, rfl, _, rfl, _, rfl, m, dx, .int 0, dk, tl, rl, kvs, tv, rs1, c, y1, z1, v, a, rfl, hM, by omega, hc, hr', fun i' ei => absurd (by rw [ei]; rfl) ha, fun _ H' he => ?_⟩
      obtain ⟨t, tv', rv', e1, e2, e3⟩ := id he
      exact q2 H' _ (hgo H' (hM.tup e3)) he
    | @call k1 _ ts1 rs1 as c u f1 hb hc hu hgo =>
      obtain ⟨rfl, rfl⟩ := snoc_inj hxs
      subst hrs
      cases hkk
      refine ⟨_, rfl, c, _, _, _, rfl, rfl, SqT.of hc, rfl, ?_⟩
      refine ⟨_, rfl, rfl, false, rfl, iteF ⟨_, rfl, rfl, false, rfl, iteF ⟨_, rfl, rfl, false, rfl, iteF ⟨_, rfl, rfl, false, rfl, iteF ⟨_, rfl, rfl, false, rfl, iteF ⟨_, rfl, rfl, false, rfl, iteF ⟨_, rfl, rfl, false, rfl, iteF ⟨_, rfl, rfl, true, rfl, iteT ?_⟩⟩⟩⟩⟩⟩⟩⟩
      refine ⟨_, rfl, m, dx, _, rfl, hM.mo, rfl, _, rfl, _, rfl, m, dx, .int 0, dk, tl, rl, kvs, tv, rs, c, u, f1, as, rfl, hM, by omega, hc, hu, fun H' e new hM' he hal hk => ?_⟩
      have tk := hM.tup hk
      have hap : Al (Tk H') (xs ++ ([.ref e] ++ as.reverse ++ [f1])) (tv ++ new) := by
        refine ⟨by rw [List.length_append, List.length_append, tlen, hal.1], fun i y ey => ?_⟩
        by_cases hi : i < xs.length
        · rw [List.getElem?_append_left hi] at ey
          obtain ⟨v, ev, rv⟩ := (keepT tk).2 i y ey
          exact ⟨v, by rw [List.getElem?_append_left (by omega)]; exact ev, rv⟩
        · rw [List.getElem?_append_right (by omega)] at ey
          obtain ⟨v, ev, rv⟩ := hal.2 _ y ey
          exact ⟨v, by rw [List.getElem?_append_right (by omega), tlen]; exact ev, rv⟩
      refine q1 _ _ _ _ hM' hap ?_ hk
      have := hgo H' e tk he
      simpa [List.append_assoc] using this
    | @ent k1 _ ts1 rs1 us c g f1 as hb hc hf hv h1 h2 h3 =>
      obtain ⟨rfl, rfl⟩ := snoc_inj hxs
      subst hrs
      cases hkk
      refine ⟨_, rfl, c, _, _, _, rfl, rfl, SqT.of hc, rfl, ?_⟩
      refine ⟨_, rfl, rfl, false, rfl, iteF ⟨_, rfl, rfl, false, rfl, iteF ⟨_, rfl, rfl, false, rfl, iteF ⟨_, rfl, rfl, false, rfl, iteF ⟨_, rfl, rfl, false, rfl, iteF ⟨_, rfl, rfl, false, rfl, iteF ⟨_, rfl, rfl, false, rfl, iteF ⟨_, rfl, rfl, false, rfl, iteF ?_⟩⟩⟩⟩⟩⟩⟩⟩
      refine ⟨_, rfl, m, dx, _, rfl, hM.mo, rfl, _, rfl, c, _, _, _, rfl, rfl, SqT.of hc, rfl, m, dx, dk, tl, rl, kvs, tv, rs1, us, g, f1, as, rfl, hM, by omega, hf, hv, fun a ea H' v hv' hM' hk => ?_, fun es H' he => ?_, fun es H' he => ?_⟩
      · have tk := hM.tup hk
        exact q1 _ _ _ _ hM' (keepT tk) (h1 a ea H' v tk hv') hk
      · obtain ⟨t, tv', rv', e1, e2, e3⟩ := id he
        exact q2 H' _ (h2 es H' (hM.tup e3)) he
      · obtain ⟨t, tv', rv', e1, e2, e3⟩ := id he
        exact q2 H' _ (h3 es H' (hM.tup e3)) he
abbrev NValue : List Str := ["self", "core", "task"]
theorem scValue : FnScope NValue ["self", "core"] (defScope sValue) := ⟨rfl, rfl, rfl, by decide +kernel, rfl, by decide +kernel, by decide +kernel⟩
theorem ok_value {f fW : Addr} {fd fdW : FuncData} (F : Fun K "value_of" "Machine.value_of" sValue f fd) (T : MT K mg C op) (bW : Binds K fdW ["self", "core", "frame"] []) (mW : Meth K C "work" fW)
    (GW : FnOk P w K mg base CX0 3 fW fdW ["self", "core", "frame"] (spWork C)) : FnOk P w K mg base CX0 4 f fd ["self", "core"] (spValue C) := by
  refine F.ok scValue (fun vs H Q E h => ?_) (fun cdv A outer s H vs Q E hr h => ?_)
  · obtain ⟨m, dx, dk, tl, rl, kvs, x, k, EV, ES, rfl, _⟩ := h; rfl
  · obtain ⟨m, dx, dk, tl, rl, kvs, x, k, EV, ES, rfl, hM, hGo, q1, q2⟩ := h
    have nd := scValue.nd
    have z2 : 2 ≤ sizeLine := by rw [sizeLine_eq]; decide
    refine ⟨_, pss_cons (ps_expr (pe_bm PySem.F.plainAttrs_list PySem.F.slot_list_append PySem.F.type_list_append mt_append (pe_fld (pv 0) rfl : PE _ _ (tFld K (tVar 0) ("tasks" : Str))) (pa_cons (pe_tup (pa_cons (pv 1) (pa_cons pe_non pa_nil))) pa_nil)))
      (pss_cons (ps_while PassesOwn.never (PW.pt (pw_and (pt_cmpR op_gt (pe_callB call_len_seq (by rfl) T.len bt_len (pa_cons (pe_fld (pv 0) rfl : PE _ _ (tFld K (tVar 0) ("tasks" : Str))) pa_nil)) pe_int (nomark _)) (pw_and1 (pt_cmpR op_isN (pe_fld (pv 0) rfl : PE _ _ (tFld K (tVar 0) ("ending" : Str))) pe_non (nomark _)))))
        (pss_cons (ps_set (i := 2) nd rfl (Or.inl rfl) (pe_bm0 PySem.F.plainAttrs_list PySem.F.slot_list_pop PySem.F.type_list_pop mt_pop (pe_fld (pv 0) rfl : PE _ _ (tFld K (tVar 0) ("tasks" : Str)))))
        (pss_one (ps_expr (pe_meth (pv 0) T.cl mW GW hr bW .nil pass0 (pa_cons (pe_ix ix_tup (pv 2) pe_int (fun _ _ => rfl)) (pa_cons (pe_ix ix_tup (pv 2) pe_int (fun _ _ => rfl)) pa_nil)))))))
      (pss_one (ps_ret (pe_ifExp (pt_cmpR op_isN (pe_fld (pv 0) rfl : PE _ _ (tFld K (tVar 0) ("ending" : Str))) pe_non (nomark _)) (pe_bm0 PySem.F.plainAttrs_list PySem.F.slot_list_pop PySem.F.type_list_pop mt_pop (pe_fld (pv 0) rfl : PE _ _ (tFld K (tVar 0) ("results" : Str)))) pe_non)))), ?_⟩
    refine ⟨_, rfl, m, C, dx, _, .ref tl, rfl, hM.mo, T.cl, T.nT, rfl, .inl ⟨rfl, _, SqL.of hM.ht⟩, _, rfl, z2, fun t ht => ?_⟩
    have s1 := same_upd (o := .tup [x, .non]) ht
    refine ⟨tl, _, _, rfl, rfl, s1 _ _ hM.ht, by decide, ?_⟩
    have ntl : t ≠ tl := fun e => by rw [e, hM.ht] at ht; cases ht
    have hM1 := (hM.same s1).task ([] ++ [.ref t])
    have hk1 : Kp H (upd (upd H t (.tup [x, .non])) tl (.lst ([] ++ [.ref t]))) m tl rl := (Kp.of s1).trans (kp_task _)
    have ht1 : upd (upd H t (.tup [x, .non])) tl (.lst ([] ++ [.ref t])) t = some (.tup [x, .non]) := by rw [upd_ne ntl, upd_same]
    generalize upd (upd H t (.tup [x, .non])) tl (.lst ([] ++ [.ref t])) = H1 at hM1 hk1 ht1 ⊢
    have tk1 := hM.tup hk1
    refine ⟨fun k σ H' => (∃ v2, σ = [some (.ref m), some x, v2]) ∧ ((∃ xs tv rs, MSt C H' m dx (.int 0) dk tl rl .non kvs tv rs ∧ Al (Tk H') xs tv ∧ Go kvs EV ES k H' xs rs ∧ Kp H H' m tl rl) ∨ (k = 0 ∧ ∃ z, ES z H' ∧ Ended C m dx (.int 0) dk tl rl kvs z H H')),
      ⟨k, ⟨_, rfl⟩, .inl ⟨[x], _, _, hM1, Al.nil.snoc (a := x) ⟨t, rfl, ht1⟩, hGo.mono tk1, hk1⟩⟩, ?_⟩
    rintro k' σ H' ⟨⟨v2, rfl⟩, ⟨xs, tv, rs, hM', hT', hG', hK'⟩ | ⟨rfl, z, hz, he⟩⟩
    · refine ⟨_, rfl, m, C, dx, _, .ref tl, rfl, hM'.mo, T.cl, T.nT, rfl, tl, _, rfl, .inl (SqL.of hM'.ht), _, _, rfl, rfl, _, rfl, ?_⟩
      rcases hG'.cut with ⟨rfl, rfl, v, rfl, hv⟩ | ⟨k0, xs0, y, rfl, rfl⟩
      · have etv := hT'.nil_of
        subst etv
        refine ite2 (fun z => absurd (of_decide_eq_true z) (by decide)) (fun _ => iteF ?_)
        refine ⟨_, rfl, m, C, dx, _, .non, rfl, hM'.mo, T.cl, T.nE, rfl, rfl, true, rfl, iteT ?_⟩
        refine ⟨_, rfl, m, C, dx, _, .ref rl, rfl, hM'.mo, T.cl, T.nR, rfl, .inl ⟨rfl, _, SqL.of hM'.hr⟩, rl, _, v, rfl, rfl, hM'.hr, rfl, ?_⟩
        have hk4 : Kp H' (upd H' rl (.lst [v].dropLast)) m tl rl := kp_push _
        exact q1 _ v (hM'.push _) (hv _ (hM'.tup hk4)) (hK'.trans hk4)
      · have hl := hT'.1
        rw [List.length_append, List.length_singleton] at hl
        have hne : tv ≠ [] := fun e => by rw [e] at hl; simp at hl
        obtain ⟨tv0, u, rfl⟩ : ∃ tv0 u, tv = tv0 ++ [u] := ⟨_, _, (List.dropLast_concat_getLast hne).symm⟩
        have hl0 : tv0.length = xs0.length := by rw [List.length_append, List.length_singleton] at hl; omega
        obtain ⟨u', eu, hu⟩ := hT'.2 xs0.length y (by rw [List.getElem?_append_right (Nat.le_refl _), Nat.sub_self]; rfl)
        rw [← hl0, List.getElem?_append_right (Nat.le_refl _), Nat.sub_self] at eu
        have eu' : u = u' := by injection eu
        subst eu'
        have hT0 : Al (Tk H') xs0 tv0 := by
          refine ⟨hl0, fun i a e => ?_⟩
          have hi := (List.getElem?_eq_some_iff.mp e).1
          obtain ⟨v, e1, r⟩ := hT'.2 i a (by rw [List.getElem?_append_left hi]; exact e)
          rw [List.getElem?_append_left (by omega)] at e1
          exact ⟨v, e1, r⟩
        obtain ⟨t', rfl, ht'⟩ := hu
        refine ite2 (fun _ => ?_) (fun z => absurd (decide_eq_true (by rw [List.length_append, List.length_singleton]; omega)) z)
        refine ⟨_, rfl, m, C, dx, _, .non, rfl, hM'.mo, T.cl, T.nE, rfl, rfl, true, rfl, iteT ⟨fun σ' H'' => (∃ v2, σ' = [some (.ref m), some x, v2]) ∧ ((∃ xs tv rs, MSt C H'' m dx (.int 0) dk tl rl .non kvs tv rs ∧ Al (Tk H'') xs tv ∧ Go kvs EV ES k0 H'' xs rs ∧ Kp H H'' m tl rl) ∨ (∃ z, ES z H'' ∧ Ended C m dx (.int 0) dk tl rl kvs z H H'')), (fun σ' H'' h => by
            rcases h.2 with h2 | h2
            · exact ⟨k0, Nat.lt_succ_self _, h.1, .inl h2⟩
            · exact ⟨0, Nat.succ_pos _, h.1, .inr ⟨rfl, h2⟩⟩), ?_⟩⟩
        refine ⟨_, rfl, m, C, dx, _, .ref tl, rfl, hM'.mo, T.cl, T.nT, rfl, .inl ⟨rfl, _, SqL.of hM'.ht⟩, tl, _, .ref t', rfl, rfl, hM'.ht, last_at tv0 (.ref t'), ?_⟩
        rw [List.dropLast_concat]
        have hk2 : Kp H' (upd H' tl (.lst tv0)) m tl rl := kp_task _
        have tk2 := hM'.tup hk2
        have hM2 := hM'.task tv0
        have ht2 := tk2 _ _ ht'
        have hT2 := hT0.mono fun _ _ r => Tk.tup tk2 r
        have hG2 := hG'.mono tk2
        generalize upd H' tl (.lst tv0) = H2 at hk2 hM2 ht2 hT2 hG2 ⊢
        refine ⟨_, rfl, m, dx, _, rfl, hM2.mo, rfl, _, rfl, t', _, _, _, rfl, rfl, SqT.of ht2, rfl, _, rfl, t', _, _, _, rfl, rfl, SqT.of ht2, rfl, m, dx, dk, tl, rl, kvs, tv0, rs, xs0, y, k0, EV, ES, rfl, hM2, hT2, hG2, fun H3 tv3 rs3 xs3 hM3 hT3 hG3 hk3 => ?_, fun H3 z hz he => ?_⟩
        · exact ⟨⟨_, rfl⟩, .inl ⟨xs3, tv3, rs3, hM3, hT3, hG3, (hK'.trans hk2).trans hk3⟩⟩
        · exact ⟨⟨_, rfl⟩, .inr ⟨z, hz, he.from (hK'.trans hk2)⟩⟩
    · obtain ⟨t', tv, rv, e1, hM', e3⟩ := id he
      refine ⟨_, rfl, m, C, dx, _, .ref tl, rfl, hM'.mo, T.cl, T.nT, rfl, tl, _, rfl, .inl (SqL.of hM'.ht), _, _, rfl, rfl, _, rfl, ?_⟩
      refine ite2 (fun _ => ?_) (fun _ => iteF ?_)
      · refine ⟨_, rfl, m, C, dx, _, .ref t', rfl, hM'.mo, T.cl, T.nE, rfl, rfl, false, rfl, iteF ?_⟩
        exact ⟨_, rfl, m, C, dx, _, .ref t', rfl, hM'.mo, T.cl, T.nE, rfl, rfl, false, rfl, iteF (q2 _ z hz he)⟩
      · exact ⟨_, rfl, m, C, dx, _, .ref t', rfl, hM'.mo, T.cl, T.nE, rfl, rfl, false, rfl, iteF (q2 _ z hz he)⟩
end
end K63

set_option Elab.async false
set_option linter.all false
set_option maxRecDepth 100000
set_option maxHeartbeats 4000000
/-! k63: what a core comes to; Machine(fuel), answer_of, run. Own work. -/
namespace K63
open PySem L2 Builtin.Str
abbrev Kn : Type := Int → Option AV
def put (kn : Kn) (p : Int) (v : AV) : Kn := fun q => if q = p then some v else kn q
def KnR (H : Hp) (kn : Kn) (kvs : List (Key × V)) : Prop := ∀ p : Int, (kn p = none ∧ valV kvs (.inl (some p)) = none) ∨ ∃ a v, kn p = some a ∧ valV kvs (.inl (some p)) = some v ∧ ValIn H a v
theorem KnR.tup {H H' : Hp} {kn : Kn} {kvs : List (Key × V)} (h : KnR H kn kvs) (s : Tup H H') : KnR H' kn kvs := fun p => by
  rcases h p with h | ⟨a, v, e1, e2, r⟩
  · exact .inl h
  · exact .inr ⟨a, v, e1, e2, r.tup s⟩
theorem KnR.nil {H : Hp} : KnR H (fun _ => none) [] := fun p => .inl ⟨rfl, rfl⟩
theorem KnR.put {H : Hp} {kn : Kn} {kvs : List (Key × V)} (h : KnR H kn kvs) (p : Int) {a : AV} {v : V} (r : ValIn H a v) : KnR H (K63.put kn p a) (putK kvs (.inl (some p)) v) := fun q => by
  rw [valV_put]
  unfold K63.put
  by_cases e : q = p
  · subst e
    rw [if_pos rfl, if_pos rfl]
    exact .inr ⟨a, v, rfl, rfl, r⟩
  · rw [if_neg e, if_neg (fun z => e (by injection z with z; injection z))]
    exact h q
/-- a core comes to this, in so many steps, whatever stands below it -/
def Ev (kn : Kn) (H : Hp) (x : V) (n d : Nat) (o : Out) : Prop := ∀ (kvs : List (Key × V)) (H1 : Hp), Tup H H1 → KnR H1 kn kvs → ∀ (EV : V → Hp → Prop) (ES : Str → Hp → Prop) (ts rs : List V) (k : Nat), ts.length + rs.length + d ≤ 500 →
  (∀ a, o = .val a → ∀ H' v, Tup H1 H' → ValIn H' a v → Go kvs EV ES k H' ts (rs ++ [v])) → (o = .stuck → ∀ H', Tup H1 H' → ES "stuck" H') → (o = .on → ∀ H', Tup H1 H' → ES "on" H') → Go kvs EV ES (k + n) H1 (ts ++ [x]) rs
theorem Ev.tup {kn : Kn} {H H' : Hp} {x : V} {n d : Nat} {o : Out} (h : Ev kn H x n d o) (s : Tup H H') : Ev kn H' x n d o := fun kvs H1 s1 => h kvs H1 (s.trans s1)
/-- shown alone -/
def EvT (kn : Kn) (H : Hp) (x : V) (o : Out) : Prop := ∃ n d, d ≤ 500 ∧ Ev kn H x n d o
theorem EvT.tup {kn : Kn} {H H' : Hp} {x : V} {o : Out} (h : EvT kn H x o) (s : Tup H H') : EvT kn H' x o := by
  obtain ⟨n, d, hd, e⟩ := h
  exact ⟨n, d, hd, e.tup s⟩
/-- the items of a row -/
def rowVs : Out → List V
  | .stuck => [.str "stuck"]
  | .on => [.str "on"]
  | .val (.num z) => [.str "num", .int z]
  | .val (.op n) => [.str "op", .str n]
  | .val (.fn m) => [.str "fn", .int (m : Int)]
def RowIn (H : Hp) (o : Out) (v : V) : Prop := ∃ t, v = .ref t ∧ H t = some (.tup (rowVs o))
theorem RowIn.tup {H H' : Hp} {o : Out} {v : V} (h : RowIn H o v) (s : Tup H H') : RowIn H' o v := by
  obtain ⟨t, e, q⟩ := h
  exact ⟨t, e, s _ _ q⟩
abbrev It : Type := Option Int × Out
/-- an item, where kn is known -/
def ItIn (H : Hp) (kn : Kn) (it : It) (v : V) : Prop := match it.1 with
  | none => ∃ t x, v = .ref t ∧ H t = some (.tup [.str "show", x]) ∧ EvT kn H x it.2
  | some p => ∃ t nm x, v = .ref t ∧ H t = some (.tup [.str "def", .int p, .str nm, x]) ∧ EvT kn H x it.2
theorem ItIn.tup {H H' : Hp} {kn : Kn} (s : Tup H H') : ∀ {it : It} {v : V}, ItIn H kn it v → ItIn H' kn it v
  | (none, e), v, ⟨t, x, e1, h, hx⟩ => ⟨t, x, e1, s _ _ h, hx.tup s⟩
  | (some p, e), v, ⟨t, nm, x, e1, h, hx⟩ => ⟨t, nm, x, e1, s _ _ h, hx.tup s⟩
theorem ItIn.last {K : PySem.W.Frag} {H : Hp} {kn : Kn} : ∀ {it : It} {v : V}, ItIn H kn it v → ∃ t xs x, v = .ref t ∧ SqT K H t xs ∧ atI xs (-1) = some x ∧ EvT kn H x it.2
  | (none, e), v, ⟨t, x, e1, h, hx⟩ => ⟨t, _, x, e1, SqT.of h, rfl, hx⟩
  | (some p, e), v, ⟨t, nm, x, e1, h, hx⟩ => ⟨t, _, x, e1, SqT.of h, rfl, hx⟩
def step (kn : Kn) (it : It) : Kn := match it with
  | (some p, .val a) => put kn p a
  | _ => kn
def knOf (its : List It) : Kn := its.foldl step fun _ => none
def Its (H : Hp) (its : List It) (iv : List V) : Prop := iv.length = its.length ∧ ∀ (i : Nat) it, its[i]? = some it → ∃ v, iv[i]? = some v ∧ ItIn H (knOf (its.take i)) it v
theorem Its.at {H : Hp} {its : List It} {iv : List V} (h : Its H its iv) {i : Nat} {v : V} (hv : iv[i]? = some v) : ∃ it, its[i]? = some it ∧ ItIn H (knOf (its.take i)) it v := by
  have hi := (List.getElem?_eq_some_iff.mp hv).1
  have hx : i < its.length := by rw [← h.1]; exact hi
  obtain ⟨u, eu, r⟩ := h.2 i its[i] (List.getElem?_eq_getElem hx)
  rw [hv] at eu
  have : v = u := by injection eu
  exact ⟨its[i], List.getElem?_eq_getElem hx, by rw [this]; exact r⟩
def runP : List It → List Out
  | [] => []
  | (none, .val a) :: r => .val a :: runP r
  | (some _, .val _) :: r => runP r
  | (_, .stuck) :: _ => [.stuck]
  | (_, .on) :: _ => [.on]
theorem runP_stuck {d : Option Int} {r : List It} : runP ((d, .stuck) :: r) = [.stuck] := by cases d <;> rfl
theorem runP_on {d : Option Int} {r : List It} : runP ((d, .on) :: r) = [.on] := by cases d <;> rfl
def spMI (C : Addr) : Sp := fun vs H Q _ => ∃ (x dx : Addr) (fu : V), vs = [.ref x, fu] ∧ H x = some (.ins C dx []) ∧
  ∀ (H' : Hp) (dk tl rl : Addr), MSt C H' x dx fu dk tl rl .non [] [] [] → H dk = none → H tl = none → H rl = none → (∀ b o, b ≠ x → H b = some o → H' b = some o) → Q .non H'
def spAns : Sp := fun vs H Q _ => ∃ (u : V) (a : AV), vs = [u] ∧ ValIn H a u ∧ ∀ (H' : Hp) (r : V), Same H H' → RowIn H' (.val a) r → Q r H'
def spRun : Sp := fun vs H Q _ => ∃ (l : Addr) (its : List It) (iv : List V), vs = [.ref l, .int 0] ∧ H l = some (.lst iv) ∧ Its H its iv ∧ its.length ≤ 1000 ∧
  ∀ (H' : Hp) (D : Addr) (rs : List V), Same H H' → H D = none → H' D = some (.lst rs) → Al (RowIn H') (runP its) rs → Q (.ref D) H'
section
variable {P : Program} {w : World} {K : PySem.W.Frag} {mg : Str → Option Value} {base : Heap} {C op : Addr}
theorem scMI : FnScope ["self", "fuel"] ["self", "fuel"] (defScope sMInit) := ⟨rfl, rfl, rfl, by decide +kernel, rfl, by decide +kernel, by decide +kernel⟩
theorem ok_mi {f : Addr} {fd : FuncData} (F : Fun K "__init__" "Machine.__init__" sMInit f fd) (T : MT K mg C op) : FnOk P w K mg base CX0 1 f fd ["self", "fuel"] (spMI C) := by
  refine F.ok scMI (fun vs H Q E h => ?_) (fun cdv A outer s H vs Q E hr h => ?_)
  · obtain ⟨x, dx, fu, rfl, _⟩ := h; rfl
  · obtain ⟨x, dx, fu, rfl, hx, q⟩ := h
    refine ⟨_, pss_cons (ps_fld (pv 0) (pv 1) rfl) (pss_cons (ps_fld (pv 0) pe_dnewK rfl) (pss_cons (ps_fld (pv 0) (pe_lst pa_nil) rfl) (pss_cons (ps_fld (pv 0) (pe_lst pa_nil) rfl) (pss_one (ps_fld (pv 0) pe_non rfl))))), ?_⟩
    refine ⟨_, rfl, _, rfl, x, C, dx, [], rfl, hx, T.cl, T.nF, by decide, ?_⟩
    refine fun d hd => ?_
    have hdx : d ≠ x := fun e => by rw [e, upd_same] at hd; cases hd
    refine ⟨_, rfl, x, C, dx, _, rfl, by rw [upd_ne (Ne.symm hdx), upd_same], T.cl, T.nK, by show 1 < 1000; decide, ?_⟩
    refine ⟨Nat.zero_le _, fun tl htl => ?_⟩
    have htx : tl ≠ x := fun e => by rw [e, upd_same] at htl; cases htl
    rw [upd_ne htx] at htl
    have htd : tl ≠ d := fun e => by rw [e, upd_same] at htl; cases htl
    rw [upd_ne htd, upd_ne htx] at htl
    refine ⟨_, rfl, x, C, dx, _, rfl, by rw [upd_ne (Ne.symm htx), upd_same], T.cl, T.nT, by show 2 < 1000; decide, ?_⟩
    refine ⟨Nat.zero_le _, fun rl hrl => ?_⟩
    have hrx : rl ≠ x := fun e => by rw [e, upd_same] at hrl; cases hrl
    rw [upd_ne hrx] at hrl
    have hrt : rl ≠ tl := fun e => by rw [e, upd_same] at hrl; cases hrl
    rw [upd_ne hrt, upd_ne hrx] at hrl
    have hrd : rl ≠ d := fun e => by rw [e, upd_same] at hrl; cases hrl
    rw [upd_ne hrd, upd_ne hrx] at hrl
    rw [upd_ne hdx] at hd
    refine ⟨_, rfl, x, C, dx, _, rfl, by rw [upd_ne (Ne.symm hrx), upd_same], T.cl, T.nR, by show 3 < 1000; decide, ?_⟩
    refine ⟨_, rfl, x, C, dx, _, rfl, upd_same, T.cl, T.nE, by show 4 < 1000; decide, ?_⟩
    refine q _ d tl rl ⟨upd_same, ?_, ?_, ?_, Ne.symm hrt⟩ hd htl hrl fun b o nb e => ?_
    · rw [upd_ne hdx, upd_ne hdx, upd_ne (Ne.symm hrd), upd_ne hdx, upd_ne (Ne.symm htd), upd_ne hdx, upd_same]
    · rw [upd_ne htx, upd_ne htx, upd_ne (Ne.symm hrt), upd_ne htx, upd_same]
    · rw [upd_ne hrx, upd_ne hrx, upd_same]
    · rw [upd_ne nb, upd_ne nb, upd_ne (ne_of_none e hrl), upd_ne nb, upd_ne (ne_of_none e htl), upd_ne nb, upd_ne (ne_of_none e hd), upd_ne nb]; exact e
theorem scAns : FnScope ["value"] ["value"] (defScope sAns) := ⟨rfl, rfl, rfl, by decide +kernel, rfl, by decide +kernel, by decide +kernel⟩
theorem ok_ans {f : Addr} {fd : FuncData} (F : Fun K "answer_of" "answer_of" sAns f fd) (T : MT K mg C op) : FnOk P w K mg base CX0 1 f fd ["value"] spAns := by
  refine F.ok scAns (fun vs H Q E h => ?_) (fun cdv A outer s H vs Q E hr h => ?_)
  · obtain ⟨u, a, rfl, _⟩ := h; rfl
  · obtain ⟨u, a, rfl, hu, q⟩ := h
    have z2 : 2 ≤ sizeLine := by rw [sizeLine_eq]; decide
    refine ⟨_, pss_cons (ps_if (pt_cmpR op_eq (pe_ix ix_tup (pv 0) pe_int (fun _ _ => rfl)) pe_str (nomark _)) (pss_one (ps_ret (pe_tup (pa_cons pe_str (pa_cons (pe_callB call_len_seq (by rfl) T.len bt_len (pa_cons (pe_ix ix_tup (pv 0) pe_int (fun _ _ => rfl)) pa_nil)) pa_nil))))) pss_nil) (pss_one (ps_ret (pv 0))), ?_⟩
    cases a with
    | num z =>
      obtain ⟨t, rfl, ht⟩ := hu
      exact ⟨_, rfl, t, _, _, _, rfl, rfl, SqT.of ht, rfl, rfl, false, rfl, iteF ⟨_, rfl, q H _ (Same.refl _) ⟨t, rfl, ht⟩⟩⟩
    | op n =>
      obtain ⟨hn, t, rfl, ht⟩ := hu
      exact ⟨_, rfl, t, _, _, _, rfl, rfl, SqT.of ht, rfl, rfl, false, rfl, iteF ⟨_, rfl, q H _ (Same.refl _) ⟨t, rfl, ht⟩⟩⟩
    | fn k =>
      obtain ⟨t, u, b, xs, rfl, ht, hu, hxs⟩ := hu
      refine ⟨_, rfl, t, _, _, _, rfl, rfl, SqT.of ht, rfl, rfl, true, rfl, iteT ⟨_, rfl, t, _, _, _, rfl, rfl, SqT.of ht, rfl, u, _, rfl, .inr (SqT.of hu), z2, fun t2 ht2 => ?_⟩⟩
      rw [hxs]
      exact q _ _ (same_upd ht2) ⟨t2, rfl, upd_same⟩
theorem MSt.keep {H H' : Hp} {m dx : Addr} {fu : V} {dk tl rl : Addr} {en : V} {kvs : List (Key × V)} {tv rv : List V} {D : Addr} {ys : List V} (h : MSt C H m dx fu dk tl rl en kvs tv rv) (hD : H D = some (.lst ys)) (n1 : D ≠ tl) (n2 : D ≠ rl) (s : ∀ c o, c ≠ D → H c = some o → H' c = some o) : MSt C H' m dx fu dk tl rl en kvs tv rv :=
  ⟨s _ _ (kind_ne h.mo hD (fun z => nomatch z)) h.mo, s _ _ (kind_ne h.hd hD (fun z => nomatch z)) h.hd, s _ _ (Ne.symm n1) h.ht, s _ _ (Ne.symm n2) h.hr, h.ne⟩
theorem MSt.known {H : Hp} {m dx : Addr} {fu : V} {dk tl rl : Addr} {en : V} {kvs : List (Key × V)} {tv rv : List V} (h : MSt C H m dx fu dk tl rl en kvs tv rv) (kvs' : List (Key × V)) : MSt C (upd H dk (.dK kvs')) m dx fu dk tl rl en kvs' tv rv :=
  ⟨by rw [upd_ne (kind_ne h.mo h.hd (fun z => nomatch z))]; exact h.mo, upd_same, by rw [upd_ne (kind_ne h.ht h.hd (fun z => nomatch z))]; exact h.ht, by rw [upd_ne (kind_ne h.hr h.hd (fun z => nomatch z))]; exact h.hr, h.ne⟩
abbrev NRun : List Str := ["items", "fuel", "machine", "answers", "item", "value"]
theorem scRun : FnScope NRun ["items", "fuel"] (defScope sRun) := ⟨rfl, rfl, rfl, by decide +kernel, rfl, by decide +kernel, by decide +kernel⟩
theorem ok_run {f fI fV fA T0 : Addr} {fd fdI fdV fdA : FuncData} (F : FunD K "run" "run" sRun f fd T0) (T : MT K mg C op)
    (FI : Fun K "__init__" "Machine.__init__" sMInit fI fdI) (bI : Binds K fdI ["self", "fuel"] []) (mI : Mk K C fI)
    (bV : Binds K fdV ["self", "core"] []) (mV : Meth K C "value_of" fV) (GV : FnOk P w K mg base CX0 4 fV fdV ["self", "core"] (spValue C))
    (FA : Fun K "answer_of" "answer_of" sAns fA fdA) (bA : Binds K fdA ["value"] []) (mA : mg "answer_of" = some (.ref fA)) : FnOk P w K mg base CX0 5 f fd ["items", "fuel"] spRun := by
  have GI : FnOk P w K mg base CX0 1 fI fdI ["self", "fuel"] (spMI C) := ok_mi FI T
  have GA : FnOk P w K mg base CX0 4 fA fdA ["value"] spAns := (ok_ans FA T).mono (by decide)
  refine F.ok scRun (fun vs H Q E h => ?_) (fun cdv A outer s H vs Q E hr h => ?_)
  · obtain ⟨l, its, iv, rfl, _⟩ := h; rfl
  · obtain ⟨l, its, iv, rfl, hl, hA, hlen, q⟩ := h
    have nd := scRun.nd
    have hu := hu_of hr
    have hr2 := hr.mono (show 2 ≤ 4 by decide)
    refine ⟨_, pss_cons (ps_set (i := 2) nd rfl (Or.inl rfl) (pe_make mI GI hr2 (by rfl) T.mgC bI .nil pass0 (pa_cons (pv 1) pa_nil)))
      (pss_cons (ps_set (i := 3) nd rfl (Or.inl rfl) (pe_lst pa_nil))
      (pss_cons (ps_for PassesOwn.never rfl (pi_list (pv 0)) (pg_name (i := 4) nd rfl (Or.inl rfl))
      (pss_cons (ps_set (i := 5) nd rfl (Or.inl rfl) (pe_meth (pv 2) T.cl mV GV hr bV .nil pass0 (pa_cons (pe_ix ix_tup (pv 4) (pe_un un_neg pe_int) (fun _ _ => rfl)) pa_nil)))
        (pss_cons (ps_if (pt_cmpR op_isN (pv 5) pe_non (nomark _))
          (pss_cons (ps_expr (pe_bm PySem.F.plainAttrs_list PySem.F.slot_list_append PySem.F.type_list_append mt_append (pv 3) (pa_cons (pe_fld (pv 2) rfl : PE _ _ (tFld K (tVar 2) ("ending" : Str))) pa_nil)))
          (pss_one (ps_ret (pv 3)))) pss_nil)
        (pss_one (ps_if (pt_cmpR op_eq (pe_ix ix_tup (pv 4) pe_int (fun _ _ => rfl)) pe_str (nomark _))
          (pss_one (ps_dput hu (pe_fld (pv 2) rfl : PE _ _ (tFld K (tVar 2) ("known" : Str))) (pe_ix ix_tup (pv 4) pe_int (fun _ _ => rfl)) (pv 5) rfl))
        (pss_one (ps_expr (pe_bm PySem.F.plainAttrs_list PySem.F.slot_list_append PySem.F.type_list_append mt_append (pv 3) (pa_cons (pe_call GA hr (by rfl) mA FA.kp bA .nil pass0 (pa_cons (pv 5) pa_nil)) pa_nil)))))))))
      (pss_one (ps_ret (pv 3))))), ?_⟩
    refine ⟨_, rfl, fun x dx hx hdx hxd => ?_⟩
    have sx : Same H (upd (upd H dx (.own x)) x (.ins C dx [])) := fun b o e => by rw [upd_ne (ne_of_none e hx), upd_ne (ne_of_none e hdx)]; exact e
    refine ⟨x, dx, .int 0, rfl, upd_same, fun H1 dk tl rl hM hdk htl hrl hkeep => ⟨rfl, ?_⟩⟩
    have s1 : Same H H1 := fun b o e => hkeep b o (ne_of_none e hx) (sx b o e)
    have old : ∀ c o, H c = some o → c ≠ x ∧ c ≠ tl ∧ c ≠ rl ∧ c ≠ dk := fun c o e => ⟨ne_of_none e hx, (fun z => by rw [← z, sx _ _ e] at htl; cases htl), (fun z => by rw [← z, sx _ _ e] at hrl; cases hrl), (fun z => by rw [← z, sx _ _ e] at hdk; cases hdk)⟩
    refine ⟨Nat.zero_le _, fun D hD => ?_⟩
    have hDn : H D = none := by
      cases e : H D with
      | none => rfl
      | some o => rw [s1 _ _ e] at hD; cases hD
    have s2 := same_upd (o := .lst []) hD
    have nDt : D ≠ tl := fun e => by rw [e, hM.ht] at hD; cases hD
    have nDr : D ≠ rl := fun e => by rw [e, hM.hr] at hD; cases hD
    have hl2 := s2 _ _ (s1 _ _ hl)
    refine ⟨_, rfl, l, rfl, ⟨_, SqL.of hl2⟩, for_list (xs := iv) (fun i σ H' => ∃ (v4 v5 : Option V) (rs : List V) (kvs : List (Key × V)) (pre : List Out), σ = [some (.ref l), some (.int 0), some (.ref x), some (.ref D), v4, v5] ∧ Same H H' ∧ MSt C H' x dx (.int 0) dk tl rl .non kvs [] [] ∧ KnR H' (knOf (its.take i)) kvs ∧ kvs.length ≤ i ∧ H' D = some (.lst rs) ∧ Al (RowIn H') pre rs ∧ pre.length ≤ i ∧ runP its = pre ++ runP (its.drop i))
      ⟨_, _, [], [], [], rfl, s1.trans s2, hM.same s2, KnR.nil, Nat.le_refl _, upd_same, Al.nil, Nat.le_refl _, rfl⟩ (fun i σ H' _ ⟨_, _, _, _, _, _, sH, _⟩ => SqL.of (sH _ _ hl)) ?_ ?_⟩
    · rintro i v σ H' hi ⟨v4, v5, rs, kvs, pre, rfl, sH, hM', hkn, hkl, hDD, hAl, hpl, hrun⟩
      obtain ⟨it, eit, hit⟩ := hA.at hi
      have hil : i < its.length := (List.getElem?_eq_some_iff.mp eit).1
      have edrop : its.drop i = it :: its.drop (i + 1) := by
        rw [List.drop_eq_getElem_cons hil]
        rw [List.getElem?_eq_getElem hil] at eit
        rw [Option.some.inj eit]
      rw [edrop] at hrun
      have hit' := hit.tup (Tup.of sH)
      obtain ⟨t, xs, cv, rfl, hsq, hat, hc⟩ := hit'.last (K := K)
      obtain ⟨n, d, hd500, hev⟩ := hc
      have eknx : knOf (its.take (i + 1)) = step (knOf (its.take i)) it := by
        rw [List.take_succ, eit]; unfold knOf; rw [List.foldl_append]; rfl
      have hgo := hev kvs H' (Tup.refl _) hkn (fun v H2 => ∃ a, it.2 = .val a ∧ ValIn H2 a v) (fun z H2 => (it.2 = .stuck ∧ z = "stuck") ∨ (it.2 = .on ∧ z = "on")) [] [] 0 (by simpa using hd500) (fun a ea H2 v s2 hv => .done fun H3 s3 => ⟨a, ea, hv.tup s3⟩) (fun e H2 _ => .inl ⟨e, rfl⟩) (fun e H2 _ => .inr ⟨e, rfl⟩)
      refine ⟨_, rfl, x, dx, _, rfl, hM'.mo, rfl, _, rfl, _, rfl, t, xs, _, cv, rfl, rfl, hsq, hat, x, dx, dk, tl, rl, kvs, cv, _, _, _, rfl, hM', hgo, fun H2 u hM2 hu2' hk2 => ?_, fun H2 z hz he => ?_⟩
      · obtain ⟨a, ea, hu2⟩ := hu2'
        obtain ⟨tu, rfl⟩ := hu2.ref
        have sH2 : Same H H2 := fun c o e => hk2 c o (old c o e).1 (old c o e).2.1 (old c o e).2.2.1 (sH c o e)
        have tk2 : Tup H' H2 := hM'.tup hk2
        have hD2 := hk2 _ _ (kind_ne hDD hM'.mo (fun z => nomatch z)) nDt nDr hDD
        refine ⟨_, rfl, rfl, false, rfl, iteF ?_⟩
        obtain ⟨dp, ef⟩ := it
        cases (show ef = .val a from ea)
        cases dp with
        | some p =>
          obtain ⟨t2, nm, cv2, e2, ht2, _⟩ := hit'
          cases e2
          have ht3 := tk2 _ _ ht2
          refine ⟨_, rfl, t, _, _, _, rfl, rfl, SqT.of ht3, rfl, rfl, true, rfl, iteT ?_⟩
          refine ⟨_, rfl, _, rfl, x, C, dx, _, .ref dk, rfl, hM2.mo, T.cl, T.nK, rfl, _, rfl, t, _, _, _, rfl, rfl, SqT.of ht3, rfl, dk, _, rfl, DPut.k (k := .inl (some p)) hM2.hd (by rw [sizeLine_eq]; omega), ?_⟩
          have s3 : ∀ c o, c ≠ dk → H2 c = some o → upd H2 dk (.dK (putK kvs (.inl (some p)) (.ref tu))) c = some o := fun c o n e => by rw [upd_ne n]; exact e
          have tk3 : Tup H2 (upd H2 dk (.dK (putK kvs (.inl (some p)) (.ref tu)))) := fun e xs qe => s3 _ _ (kind_ne qe hM2.hd (fun z => nomatch z)) qe
          refine ⟨_, _, rs, putK kvs (.inl (some p)) (.ref tu), pre, rfl, fun c o e => s3 _ _ (old c o e).2.2.2 (sH2 _ _ e), hM2.known _, ?_, ?_, s3 _ _ (kind_ne hD2 hM2.hd (fun z => nomatch z)) hD2, hAl.mono fun _ _ r => (r.tup tk2).tup tk3, by omega, ?_⟩
          · rw [eknx]; exact ((hkn.tup tk2).tup tk3).put p (hu2.tup tk3)
          · have := putK_len kvs (.inl (some p)) (.ref tu); omega
          · exact hrun
        | none =>
          obtain ⟨t2, cv2, e2, ht2, _⟩ := hit'
          cases e2
          have ht3 := tk2 _ _ ht2
          refine ⟨_, rfl, t, _, _, _, rfl, rfl, SqT.of ht3, rfl, rfl, false, rfl, iteF ?_⟩
          refine ⟨_, rfl, .inl ⟨rfl, _, SqL.of hD2⟩, _, rfl, .ref tu, a, rfl, hu2, fun H3 r s3 hr3 => ?_⟩
          have hD3 := s3 _ _ hD2
          refine ⟨D, _, _, rfl, rfl, hD3, by rw [hAl.1, sizeLine_eq]; omega, ?_⟩
          have s4 : ∀ c o, c ≠ D → H3 c = some o → upd H3 D (.lst (rs ++ [r])) c = some o := fun c o n e => by rw [upd_ne n]; exact e
          have tk4 : Tup H3 (upd H3 D (.lst (rs ++ [r]))) := fun e xs qe => s4 _ _ (kind_ne qe hD3 (fun z => nomatch z)) qe
          have tk24 : Tup H' (upd H3 D (.lst (rs ++ [r]))) := (tk2.trans (Tup.of s3)).trans tk4
          refine ⟨_, _, rs ++ [r], kvs, pre ++ [.val a], rfl, fun c o e => s4 _ _ (ne_of_none e hDn) (s3 _ _ (sH2 _ _ e)), (hM2.same s3).keep hD3 nDt nDr s4, by rw [eknx]; exact hkn.tup tk24, by omega, upd_same, (hAl.mono fun _ _ r => r.tup tk24).snoc (hr3.tup tk4), by rw [List.length_append, List.length_singleton]; omega, ?_⟩
          rw [hrun, List.append_assoc]; rfl
      · obtain ⟨t', tv', rv', ht', hM2, hk2⟩ := he
        have sH2 : Same H H2 := fun c o e => hk2 c o (old c o e).1 (old c o e).2.1 (old c o e).2.2.1 (sH c o e)
        have tk2 : Tup H' H2 := hM'.tup hk2
        have hD2 := hk2 _ _ (kind_ne hDD hM'.mo (fun z => nomatch z)) nDt nDr hDD
        refine ⟨_, rfl, rfl, true, rfl, iteT ?_⟩
        refine ⟨_, rfl, .inl ⟨rfl, _, SqL.of hD2⟩, _, rfl, x, C, dx, _, .ref t', rfl, hM2.mo, T.cl, T.nE, rfl, D, _, _, rfl, rfl, hD2, by rw [hAl.1, sizeLine_eq]; omega, ?_⟩
        have s4 : ∀ c o, c ≠ D → H2 c = some o → upd H2 D (.lst (rs ++ [.ref t'])) c = some o := fun c o n e => by rw [upd_ne n]; exact e
        have tk4 : Tup H2 (upd H2 D (.lst (rs ++ [.ref t']))) := fun e xs qe => s4 _ _ (kind_ne qe hD2 (fun z => nomatch z)) qe
        refine ⟨_, rfl, q _ D _ (fun c o e => s4 _ _ (ne_of_none e hDn) (sH2 _ _ e)) hDn upd_same ?_⟩
        have hal2 := hAl.mono fun _ _ r => (RowIn.tup r tk2).tup tk4
        have ht4 := tk4 _ _ ht'
        obtain ⟨dp, ef⟩ := it
        rcases hz with ⟨en, rfl⟩ | ⟨en, rfl⟩
        · cases (show ef = .stuck from en)
          rw [hrun, runP_stuck]
          exact hal2.snoc (a := Out.stuck) ⟨t', rfl, ht4⟩
        · cases (show ef = .on from en)
          rw [hrun, runP_on]
          exact hal2.snoc (a := Out.on) ⟨t', rfl, ht4⟩
    · rintro σ H' ⟨v4, v5, rs, kvs, pre, rfl, sH, hM', hkn, hkl, hDD, hAl, hpl, hrun⟩
      rw [hA.1, List.drop_length] at hrun
      have e : runP its = pre := by rw [hrun]; exact List.append_nil _
      exact ⟨_, rfl, q H' D rs sH hDn hDD (by rw [e]; exact hAl)⟩
end
end K63

set_option Elab.async false
set_option linter.all false
set_option maxRecDepth 100000
set_option maxHeartbeats 4000000
/-! k63: what cores come to, by their parts. Own work. -/
namespace K63
open PySem L2 Builtin.Str
section
variable {kn : Kn} {H : Hp}
theorem ev_num {c : Addr} {z : Int} (hc : H c = some (.tup [.str "num", .int z])) : Ev kn H (.ref c) 1 0 (.val (.num z)) := fun kvs H1 s hk EV ES ts rs k hb hv _ _ =>
  .num (by omega) (s _ _ hc) fun H' s' => hv _ rfl H' (.ref c) s' ⟨c, rfl, s' _ _ (s _ _ hc)⟩
theorem ev_op {c : Addr} {n : Str} (hc : H c = some (.tup [.str "free", .str n])) (hn : n ∈ OPS) : Ev kn H (.ref c) 1 0 (.val (.op n)) := fun kvs H1 s hk EV ES ts rs k hb hv _ _ =>
  .op (by omega) (s _ _ hc) hn fun H' t s' ht => hv _ rfl H' (.ref t) s' ⟨hn, t, rfl, ht⟩
theorem ev_noop {c : Addr} {n : Str} (hc : H c = some (.tup [.str "free", .str n])) (hn : ¬ n ∈ OPS) : Ev kn H (.ref c) 1 0 .stuck := fun kvs H1 s hk EV ES ts rs k hb _ hs _ =>
  .noop (by omega) (s _ _ hc) hn (hs rfl)
theorem ev_fn {c u : Addr} {b : V} {xs : List V} (hc : H c = some (.tup [.str "fn", .ref u, b])) (hu : H u = some (.tup xs)) : Ev kn H (.ref c) 1 0 (.val (.fn xs.length)) := fun kvs H1 s hk EV ES ts rs k hb hv _ _ =>
  .fn (by omega) (s _ _ hc) fun H' t s' ht => hv _ rfl H' (.ref t) s' ⟨t, u, b, xs, rfl, ht, s' _ _ (s _ _ hu), rfl⟩
def seenO (kn : Kn) (p : Int) : Out := match kn p with
  | some a => .val a
  | none => .stuck
theorem ev_seen {c : Addr} {p : Int} (hc : H c = some (.tup [.str "seen", .int p])) : Ev kn H (.ref c) 1 0 (seenO kn p) := fun kvs H1 s hk EV ES ts rs k hb hv hs _ => by
  rcases hk p with ⟨e1, e2⟩ | ⟨a, v, e1, e2, r⟩
  · exact .noseen (by omega) (s _ _ hc) e2 (hs (by unfold seenO; rw [e1]))
  · obtain ⟨t, rfl⟩ := r.ref
    exact .seen (by omega) (s _ _ hc) e2 fun H' s' => hv a (by unfold seenO; rw [e1]) H' _ s' (r.tup s')
theorem ev_now {c : Addr} {x : V} {n d : Nat} {o : Out} (hc : H c = some (.tup [.str "now", x])) (h : Ev kn H x n d o) : Ev kn H (.ref c) (n + 1) d o := fun kvs H1 s hk EV ES ts rs k hb hv hs ho => by
  rw [← Nat.add_assoc]
  exact .now (by omega) (s _ _ hc) fun H' s' => h kvs H' (s.trans s') (hk.tup s') EV ES ts rs k hb (fun a e H2 v s2 => hv a e H2 v (s'.trans s2)) (fun e H2 s2 => hs e H2 (s'.trans s2)) (fun e H2 s2 => ho e H2 (s'.trans s2))
def pickO (o1 o2 o3 : Out) : Out := match o1 with
  | .val (.num i) => if i = 0 then o3 else o2
  | .val _ => .stuck
  | .stuck => .stuck
  | .on => .on
theorem ev_pick {c : Addr} {x y z : V} {n1 n2 n3 d1 d2 d3 : Nat} {o1 o2 o3 : Out} (hc : H c = some (.tup [.str "pick", x, y, z])) (h1 : Ev kn H x n1 d1 o1) (h2 : Ev kn H y n2 d2 o2) (h3 : Ev kn H z n3 d3 o3) :
    ∃ n, Ev kn H (.ref c) n (d1 + d2 + d3 + 1) (pickO o1 o2 o3) := by
  cases o1 with
  | stuck =>
    refine ⟨n1 + 1, fun kvs H1 s hk EV ES ts rs k hb hv hs ho => ?_⟩
    rw [← Nat.add_assoc]
    refine .pick (by omega) (s _ _ hc) fun H' t s' ht => ?_
    exact h1 kvs H' (s.trans s') (hk.tup s') EV ES _ rs k (by rw [List.length_append, List.length_singleton]; omega) (fun a e => nomatch e) (fun _ H2 s2 => hs rfl H2 (s'.trans s2)) (fun e => nomatch e)
  | on =>
    refine ⟨n1 + 1, fun kvs H1 s hk EV ES ts rs k hb hv hs ho => ?_⟩
    rw [← Nat.add_assoc]
    refine .pick (by omega) (s _ _ hc) fun H' t s' ht => ?_
    exact h1 kvs H' (s.trans s') (hk.tup s') EV ES _ rs k (by rw [List.length_append, List.length_singleton]; omega) (fun a e => nomatch e) (fun e => nomatch e) (fun _ H2 s2 => ho rfl H2 (s'.trans s2))
  | val a =>
    by_cases ha : a.kind = "num"
    · cases a with
      | num i =>
        by_cases hi : i = 0
        · refine ⟨n3 + 1 + n1 + 1, fun kvs H1 s hk EV ES ts rs k hb hv hs ho => ?_⟩
          have ep : pickO (.val (.num i)) o2 o3 = o3 := by show (if i = 0 then _ else _) = _; rw [if_pos hi]
          rw [ep] at hv hs ho
          rw [← Nat.add_assoc]
          refine .pick (by omega) (s _ _ hc) fun H' t s' ht => ?_
          rw [← Nat.add_assoc]
          refine h1 kvs H' (s.trans s') (hk.tup s') EV ES _ rs (k + (n3 + 1)) (by rw [List.length_append, List.length_singleton]; omega) (fun a e H2 v s2 hv2 => ?_) (fun e => nomatch e) (fun e => nomatch e)
          cases e
          obtain ⟨r, rfl, hr⟩ := hv2
          rw [← Nat.add_assoc]
          refine .cho (by omega) (s2 _ _ ht) hr fun H3 s3 => ?_
          rw [if_pos hi]
          have s13 := (s'.trans s2).trans s3
          exact h3 kvs H3 (s.trans s13) (hk.tup s13) EV ES ts rs k (by omega) (fun a e H4 v s4 => hv a e H4 v (s13.trans s4)) (fun e H4 s4 => hs e H4 (s13.trans s4)) (fun e H4 s4 => ho e H4 (s13.trans s4))
        · refine ⟨n2 + 1 + n1 + 1, fun kvs H1 s hk EV ES ts rs k hb hv hs ho => ?_⟩
          have ep : pickO (.val (.num i)) o2 o3 = o2 := by show (if i = 0 then _ else _) = _; rw [if_neg hi]
          rw [ep] at hv hs ho
          rw [← Nat.add_assoc]
          refine .pick (by omega) (s _ _ hc) fun H' t s' ht => ?_
          rw [← Nat.add_assoc]
          refine h1 kvs H' (s.trans s') (hk.tup s') EV ES _ rs (k + (n2 + 1)) (by rw [List.length_append, List.length_singleton]; omega) (fun a e H2 v s2 hv2 => ?_) (fun e => nomatch e) (fun e => nomatch e)
          cases e
          obtain ⟨r, rfl, hr⟩ := hv2
          rw [← Nat.add_assoc]
          refine .cho (by omega) (s2 _ _ ht) hr fun H3 s3 => ?_
          rw [if_neg hi]
          have s13 := (s'.trans s2).trans s3
          exact h2 kvs H3 (s.trans s13) (hk.tup s13) EV ES ts rs k (by omega) (fun a e H4 v s4 => hv a e H4 v (s13.trans s4)) (fun e H4 s4 => hs e H4 (s13.trans s4)) (fun e H4 s4 => ho e H4 (s13.trans s4))
      | op n => exact absurd ha (by show ¬ ("op" : Str) = "num"; decide)
      | fn m => exact absurd ha (by show ¬ ("fn" : Str) = "num"; decide)
    · have ep : pickO (.val a) o2 o3 = .stuck := by
        cases a with
        | num i => exact absurd rfl ha
        | op n => rfl
        | fn m => rfl
      refine ⟨1 + n1 + 1, fun kvs H1 s hk EV ES ts rs k hb hv hs ho => ?_⟩
      rw [ep] at hv hs ho
      rw [← Nat.add_assoc]
      refine .pick (by omega) (s _ _ hc) fun H' t s' ht => ?_
      rw [← Nat.add_assoc]
      refine h1 kvs H' (s.trans s') (hk.tup s') EV ES _ rs (k + 1) (by rw [List.length_append, List.length_singleton]; omega) (fun b e H2 v s2 hv2 => ?_) (fun e => nomatch e) (fun e => nomatch e)
      cases e
      exact .nocho (by omega) (s2 _ _ ht) hv2 ha fun H3 s3 => hs rfl H3 ((s'.trans s2).trans s3)
/-- values one by one, or the first end -/
def seqO : List Out → Except Out (List AV)
  | [] => .ok []
  | .val a :: r => (match seqO r with
    | .ok l => .ok (a :: l)
    | .error e => .error e)
  | .stuck :: _ => .error .stuck
  | .on :: _ => .error .on
theorem seq_val {a : AV} {r : List Out} : seqO (.val a :: r) = (match seqO r with
    | .ok l => .ok (a :: l)
    | .error e => .error e) := rfl
def ArgsEv (kn : Kn) (H : Hp) (d : Nat) (os : List Out) (as : List V) : Prop := Al (fun o x => ∃ n, Ev kn H x n d o) os as
theorem go_args {d : Nat} : ∀ {os : List Out} {as : List V}, ArgsEv kn H d os as → ∃ n, ∀ (kvs : List (Key × V)) (EV : V → Hp → Prop) (ES : Str → Hp → Prop) (H1 : Hp) (ts rs : List V) (k : Nat), Tup H H1 → KnR H1 kn kvs → ts.length + rs.length + d + as.length ≤ 500 →
      (∀ l, seqO os = .ok l → ∀ H' vs, Tup H1 H' → Al (ValIn H') l vs → Go kvs EV ES k H' ts (rs ++ vs)) → (seqO os = .error .stuck → ∀ H', Tup H1 H' → ES "stuck" H') → (seqO os = .error .on → ∀ H', Tup H1 H' → ES "on" H') → Go kvs EV ES (k + n) H1 (ts ++ as.reverse) rs
  | [], as, h => by
    have e := h.nil_of
    subst e
    refine ⟨0, fun kvs EV ES H1 ts rs k s hk hb hv hs ho => ?_⟩
    rw [List.reverse_nil, List.append_nil]
    have := hv [] rfl H1 [] (Tup.refl _) Al.nil
    rwa [List.append_nil] at this
  | o :: os, as, h => by
    obtain ⟨x, as', rfl, ⟨nx, hx⟩, hr⟩ := h.uncons
    obtain ⟨n, ih⟩ := go_args hr
    refine ⟨n + nx, fun kvs EV ES H1 ts rs k s hk hb hv hs ho => ?_⟩
    rw [List.reverse_cons, ← List.append_assoc, ← Nat.add_assoc]
    rw [List.length_cons] at hb
    refine hx kvs H1 s hk EV ES _ rs (k + n) (by rw [List.length_append, List.length_reverse]; omega) (fun a e H2 v s2 hv2 => ?_) (fun e H2 s2 => hs (by rw [e]; rfl) H2 s2) (fun e H2 s2 => ho (by rw [e]; rfl) H2 s2)
    subst e
    refine ih kvs EV ES H2 ts (rs ++ [v]) k (s.trans s2) (hk.tup s2) (by rw [List.length_append, List.length_singleton]; omega) (fun l el H3 vs s3 hvs => ?_) (fun e H3 s3 => hs (by rw [seq_val, e]) H3 (s2.trans s3)) (fun e H3 s3 => ho (by rw [seq_val, e]) H3 (s2.trans s3))
    have := hv (a :: l) (by rw [seq_val, el]) H3 (v :: vs) (s2.trans s3) (Al.cons (hv2.tup s3) hvs)
    rw [List.append_assoc]
    exact this
def callOut (f : Out) (os : List Out) : Out := match f with
  | .val a => (match seqO os with
    | .ok l => callO a l
    | .error e => e)
  | .stuck => .stuck
  | .on => .on
theorem ev_call {c u : Addr} {f : V} {as : List V} {n1 d1 d : Nat} {o1 : Out} {os : List Out} (hc : H c = some (.tup [.str "call", f, .ref u])) (hu : H u = some (.tup as)) (h1 : Ev kn H f n1 d1 o1) (h2 : ArgsEv kn H d os as) : ∃ n, Ev kn H (.ref c) n (d1 + d + 2 * as.length + 2) (callOut o1 os) := by
  obtain ⟨n, ih⟩ := go_args h2
  refine ⟨1 + n + n1 + 1, fun kvs H1 s hk EV ES ts rs k hb hv hs ho => ?_⟩
  rw [← Nat.add_assoc]
  refine .call (by omega) (s _ _ hc) (s _ _ hu) fun H' t s' ht => ?_
  rw [← Nat.add_assoc]
  refine h1 kvs H' (s.trans s') (hk.tup s') EV ES _ rs (k + (1 + n)) (by rw [List.length_append, List.length_append, List.length_reverse, List.length_singleton]; omega) (fun a e H2 g s2 hg => ?_) (fun e H2 s2 => hs (by rw [e]; rfl) H2 (s'.trans s2)) (fun e H2 s2 => ho (by rw [e]; rfl) H2 (s'.trans s2))
  subst e
  rw [← Nat.add_assoc]
  have s12 := s'.trans s2
  refine ih kvs EV ES H2 _ _ (k + 1) (s.trans s12) (hk.tup s12) (by rw [List.length_append, List.length_append, List.length_singleton, List.length_singleton]; omega) (fun l el H3 vs s3 hvs => ?_) (fun e H3 s3 => hs (by show (match seqO os with | .ok l => callO a l | .error e => e) = _; rw [e]) H3 (s12.trans s3)) (fun e H3 s3 => ho (by show (match seqO os with | .ok l => callO a l | .error e => e) = _; rw [e]) H3 (s12.trans s3))
  have eo : callOut (.val a) os = callO a l := by show (match seqO os with | .ok l => callO a l | .error e => e) = _; rw [el]
  rw [eo] at hv hs ho
  have hvl : vs.length = as.length := by
    rw [hvs.1, h2.1]
    have key : ∀ (os : List Out) (l : List AV), seqO os = .ok l → l.length = os.length := by
      intro os
      induction os with
      | nil => intro l e; cases e; rfl
      | cons o r ihr =>
        intro l e
        cases o with
        | stuck => exact nomatch e
        | on => exact nomatch e
        | val b =>
          rw [seq_val] at e
          cases er : seqO r with
          | error x => rw [er] at e; exact nomatch e
          | ok l' => rw [er] at e; cases e; rw [List.length_cons, List.length_cons, ihr l' er]
    exact key os l el
  refine .ent (by rw [hvl]; omega) (by rw [hvl]; exact (s2.trans s3) _ _ ht) (hg.tup s3) hvs (fun b e H4 v s4 hb4 => hv b e H4 v (s12.trans (s3.trans s4)) hb4) (fun e H4 s4 => hs e H4 (s12.trans (s3.trans s4))) (fun e H4 s4 => ho e H4 (s12.trans (s3.trans s4)))
end
end K63

set_option Elab.async false
set_option linter.all false
set_option maxRecDepth 100000
set_option maxHeartbeats 4000000
set_option exponentiation.threshold 3000
/-! k63: the law's numbers, fns and cores. Own work. -/
namespace K63
open PySem L2 Builtin.Str
theorem bt_tuple' : bootBuiltins "tuple" = some (.type "tuple") := by decide +kernel
abbrev kn0 : Kn := fun _ => none
/-- a core comes to this, where nothing is known -/
def CoIn (H : Hp) (x : V) (o : Out) : Prop := ∃ n d, d ≤ 20 ∧ Ev kn0 H x n d o
theorem CoIn.tup {H H' : Hp} {x : V} {o : Out} (h : CoIn H x o) (s : Tup H H') : CoIn H' x o := by
  obtain ⟨n, d, hd, e⟩ := h
  exact ⟨n, d, hd, e.tup s⟩
def FnAt (H : Hp) (t : Addr) (m : Nat) : Prop := ∃ u b xs, H t = some (.tup [.str "fn", .ref u, b]) ∧ H u = some (.tup xs) ∧ xs.length = m
theorem FnAt.tup {H H' : Hp} {t : Addr} {m : Nat} (h : FnAt H t m) (s : Tup H H') : FnAt H' t m := by
  obtain ⟨u, b, xs, h1, h2, h3⟩ := h
  exact ⟨u, b, xs, s _ _ h1, s _ _ h2, h3⟩
theorem FnAt.ev {kn : Kn} {H : Hp} {t : Addr} {m : Nat} (h : FnAt H t m) : Ev kn H (.ref t) 1 0 (.val (.fn m)) := by
  obtain ⟨u, b, xs, h1, h2, rfl⟩ := h
  exact ev_fn h1 h2
def spCell (K : PySem.W.Frag) : Sp := fun vs H Q _ => ∃ (a : Addr) (k : Nat) (ns : List Int), vs = [.ref a, .int (k : Int)] ∧ SqL K H a (ns.map V.int) ∧ ns.length ≤ 63 ∧ ∀ z : Int, Q (.int z) H
def spNum : Sp := fun vs H Q _ => ∃ n : Int, vs = [.int n] ∧ ∀ (H' : Hp) (z : Int), Same H H' → Q (.int z) H'
def spFn : Sp := fun vs H Q _ => ∃ (m p : Int), vs = [.int m, .int p] ∧ 0 ≤ m ∧ m ≤ 10 ∧ ∀ (H' : Hp) (t : Addr), Same H H' → FnAt H' t m.toNat → Q (.ref t) H'
def spStuck : Sp := fun vs H Q _ => ∃ (c p l : Int), vs = [.int c, .int p, .int l] ∧ ∀ (H' : Hp) (t : Addr), Same H H' → CoIn H' (.ref t) .stuck → Q (.ref t) H'
/-- what a plain core shows of itself -/
def Plain (H : Hp) (t : Addr) (o : Out) : Prop := (∃ z, H t = some (.tup [.str "num", .int z]) ∧ o = .val (.num z)) ∨ (∃ n, H t = some (.tup [.str "free", .str n]) ∧ o = .val (.op n)) ∨ (∃ m, FnAt H t m ∧ o = .val (.fn m))
def CV (c : Int) (H : Hp) (t : Addr) (o : Out) : Prop := (c % 8 = 6 ∧ o = .stuck) ∨ (c % 8 = 7 ∧ o = .on) ∨ (c % 8 ≠ 6 ∧ c % 8 ≠ 7 ∧ Plain H t o)
theorem CV.tup {c : Int} {H H' : Hp} {t : Addr} {o : Out} (h : CV c H t o) (s : Tup H H') : CV c H' t o := by
  rcases h with h | h | ⟨h1, h2, h | h | h⟩
  · exact .inl h
  · exact .inr (.inl h)
  · obtain ⟨z, e1, e2⟩ := h; exact .inr (.inr ⟨h1, h2, .inl ⟨z, s _ _ e1, e2⟩⟩)
  · obtain ⟨z, e1, e2⟩ := h; exact .inr (.inr ⟨h1, h2, .inr (.inl ⟨z, s _ _ e1, e2⟩)⟩)
  · obtain ⟨z, e1, e2⟩ := h; exact .inr (.inr ⟨h1, h2, .inr (.inr ⟨z, e1.tup s, e2⟩)⟩)
def spCore : Sp := fun vs H Q _ => ∃ (c p l : Int), vs = [.int c, .int p, .int l] ∧ ∀ (H' : Hp) (t : Addr) (o : Out), Same H H' → CoIn H' (.ref t) o → CV c H' t o → Q (.ref t) H'
def spVal : Sp := fun vs H Q _ => ∃ (c : Int) (t : Addr) (o : Out), vs = [.int c, .ref t] ∧ CV c H t o ∧ ∀ (H' : Hp) (r : V), Same H H' → RowIn H' o r → Q r H'
theorem atI_mem {α : Type} {xs : List α} {i : Int} (h0 : 0 ≤ i) (h : i < xs.length) : ∃ c, atI xs i = some c ∧ c ∈ xs := by
  have hk : i.toNat < xs.length := by omega
  refine ⟨xs[i.toNat], ?_, List.getElem_mem hk⟩
  unfold atI ixN
  rw [if_pos h0, if_pos h]
  exact List.getElem?_eq_getElem hk
theorem at_int {cs : List Int} {i : Nat} (h : i < cs.length) : atI (cs.map V.int) (i : Int) = some (.int cs[i]) := atI_nat (by rw [List.getElem?_map, List.getElem?_eq_getElem h]; rfl)
theorem at_mod {α : Type} {xs : List α} (z : Int) {n : Nat} (hn : xs.length = n) (h : 0 < n) : ∃ c, atI xs (z % (n : Int)) = some c ∧ c ∈ xs := by
  have g0 := Int.emod_nonneg z (show (n : Int) ≠ 0 by omega)
  have g1 := Int.emod_lt_of_pos z (show (0 : Int) < n by omega)
  exact atI_mem g0 (by rw [hn]; exact g1)
theorem ops_at (z : Int) : ∃ n : Str, atI [V.str "add", V.str "sub", V.str "less"] (z % 3) = some (.str n) ∧ n ∈ OPS := by
  obtain ⟨c, ec, hc⟩ := at_mod (xs := OPS.map V.str) z (n := 3) rfl (by decide)
  obtain ⟨n, hn, rfl⟩ := List.mem_map.mp hc
  exact ⟨n, ec, hn⟩
theorem mem_cutV {xs : List V} {lo hi : Option Int} {v : V} (h : v ∈ cutV xs lo hi) : v ∈ xs := by
  unfold cutV at h
  exact List.mem_of_mem_drop (List.mem_of_mem_take h)
/-- numbers handed in -/
theorem args_all {kn : Kn} {H : Hp} {t : Addr} {z : Int} (ht : H t = some (.tup [.str "num", .int z])) {as : List V} (h : ∀ x ∈ as, x = .ref t) : ArgsEv kn H 0 (as.map fun _ => Out.val (.num z)) as := by
  refine ⟨by rw [List.length_map], fun i o e => ?_⟩
  rw [List.getElem?_map] at e
  cases ea : as[i]? with
  | none => rw [ea] at e; exact nomatch e
  | some x =>
    rw [ea] at e
    cases e
    have := h x (List.mem_of_getElem? ea)
    subst this
    exact ⟨_, rfl, 1, ev_num ht⟩
theorem seq_all (a : AV) : ∀ as : List V, seqO (as.map fun _ => Out.val a) = .ok (as.map fun _ => a)
  | [] => rfl
  | x :: r => by
    show (match seqO (r.map fun _ => Out.val a) with | .ok l => Except.ok (a :: l) | .error e => .error e) = _
    rw [seq_all a r]; rfl
theorem call_end {a : AV} {os : List Out} {l : List AV} (h : seqO os = .ok l) : callOut (.val a) os = callO a l := by
  show (match seqO os with | .ok l => callO a l | .error e => e) = _
  rw [h]
theorem reck_len {n : Str} {l : List AV} (h : l.length ≠ 2) : callO (.op n) l = .stuck := by
  show reckR (.op n) l = _
  match l, h with
  | [], _ => rfl
  | [.num _], _ => rfl
  | [.op _], _ => rfl
  | [.fn _], _ => rfl
  | a :: b :: _ :: _, _ => cases a <;> cases b <;> rfl
  | [_, _], h => exact absurd rfl h
theorem ev_args2 {kn : Kn} {H : Hp} {x y : V} {n1 n2 : Nat} {o1 o2 : Out} (h1 : Ev kn H x n1 0 o1) (h2 : Ev kn H y n2 0 o2) : ArgsEv kn H 0 [o1, o2] [x, y] := Al.cons ⟨n1, h1⟩ (Al.cons ⟨n2, h2⟩ Al.nil)
section
variable {P : Program} {w : World} {K : PySem.W.Frag} {mg : Str → Option Value} {base : Heap} {C op : Addr}
theorem scCell : FnScope ["_law_script", "_law_k"] ["_law_script", "_law_k"] (defScope sCell) := ⟨rfl, rfl, rfl, by decide +kernel, rfl, by decide +kernel, by decide +kernel⟩
theorem ok_cell {f : Addr} {fd : FuncData} (F : Fun K "_law_cell_at" "_law_cell_at" sCell f fd) (T : MT K mg C op) : FnOk P w K mg base CX0 1 f fd ["_law_script", "_law_k"] (spCell K) := by
  refine F.ok scCell (fun vs H Q E h => ?_) (fun cdv A outer s H vs Q E hr h => ?_)
  · obtain ⟨a, k, ns, rfl, _⟩ := h; rfl
  · obtain ⟨a, k, ns, rfl, hS, hl, q⟩ := h
    refine ⟨_, pss_cons (ps_if (pt_cmpR op_lt (pv 1) (pe_callB call_len_seq (by rfl) T.len bt_len (pa_cons (pv 0) pa_nil)) (nomark _))
      (pss_one (ps_ret (pe_ix ix_list (pv 0) (pv 1) (fun _ _ => rfl))))
      pss_nil)
      (pss_one (ps_ret pe_int)), ?_⟩
    refine ⟨_, rfl, _, rfl, a, _, rfl, .inl hS, _, _, rfl, rfl, _, rfl, ite2 (fun hlt => ?_) (fun _ => q _)⟩
    have hlt' : k < ns.length := by rw [decide_eq_true_eq, List.length_map] at hlt; omega
    exact ⟨_, rfl, _, rfl, a, _, _, _, rfl, rfl, hS, at_int hlt', q _⟩
theorem scNum : FnScope ["_law_cell", "_law_number_here"] ["_law_cell"] (defScope sNumber) := ⟨rfl, rfl, rfl, by decide +kernel, rfl, by decide +kernel, by decide +kernel⟩
theorem ok_num {f : Addr} {fd : FuncData} (F : Fun K "_law_number" "_law_number" sNumber f fd) : FnOk P w K mg base CX0 1 f fd ["_law_cell"] spNum := by
  refine F.ok scNum (fun vs H Q E h => ?_) (fun cdv A outer s H vs Q E hr h => ?_)
  · obtain ⟨c, rfl, _⟩ := h; rfl
  · obtain ⟨c, rfl, q⟩ := h
    have nd := scNum.nd
    refine ⟨_, pss_cons (ps_set (i := 1) nd rfl (Or.inl rfl) (pe_op op_mod (pe_op op_fdiv (pv 0) pe_int) (pe_op op_pow pe_int pe_int)))
      (pss_one (ps_ret (pe_ix ix_list (pe_lst (pa_cons pe_int (pa_cons (pv 1) (pa_cons (pe_op op_sub pe_int (pv 1)) pa_nil)))) (pe_op op_mod (pv 0) pe_int) (fun _ _ => rfl)))), ?_⟩
    refine ⟨_, rfl, _, _, rfl, rfl, ⟨by decide, by decide⟩, _, _, rfl, rfl, ⟨by decide, by decide, by decide⟩, _, _, rfl, rfl, (by show (0 : Int) < _; decide), ?_⟩
    refine ⟨_, rfl, _, rfl, _, _, rfl, rfl, by rw [sizeLine_eq]; show 3 ≤ _; decide, fun l hl => ?_⟩
    obtain ⟨v, ev, hv⟩ := at_mod (xs := [V.int 0, V.int (c / 3 % 10 ^ (60 : Int).toNat), V.int (0 - c / 3 % 10 ^ (60 : Int).toNat)]) c (n := 3) rfl (by decide)
    have : ∃ z, v = .int z := by
      simp only [List.mem_cons, List.not_mem_nil, or_false] at hv
      rcases hv with rfl | rfl | rfl
      · exact ⟨_, rfl⟩
      · exact ⟨_, rfl⟩
      · exact ⟨_, rfl⟩
    obtain ⟨z, rfl⟩ := this
    exact ⟨_, rfl, _, _, rfl, rfl, (by show (0 : Int) < _; decide), l, _, _, _, rfl, rfl, SqL.of upd_same, ev, q _ z (same_upd hl)⟩
theorem scFn : FnScope ["_law_many", "_law_place"] ["_law_many", "_law_place"] (defScope sFn) := ⟨rfl, rfl, rfl, by decide +kernel, rfl, by decide +kernel, by decide +kernel⟩
theorem lcFn1 : LcS (defScope sFn).names [(".0", .local), ("_law_j", .local), ("_law_place", .free)] ["_law_many", "_law_place"] [false, true] := ⟨by decide +kernel, by decide +kernel, by decide +kernel, by decide +kernel, by decide +kernel, rfl⟩
theorem ndFn1 : (["_law_many", "_law_place", "_law_j"] : List Str).Nodup := by decide +kernel
theorem ok_fn {f : Addr} {fd : FuncData} (F : Fun K "_law_fn" "_law_fn" sFn f fd) (T : MT K mg C op) : FnOk P w K mg base CX0 1 f fd ["_law_many", "_law_place"] spFn := by
  refine F.ok scFn (fun vs H Q E h => ?_) (fun cdv A outer s H vs Q E hr h => ?_)
  · obtain ⟨m, p, rfl, _⟩ := h; rfl
  · obtain ⟨m, p, rfl, m0, m1, q⟩ := h
    have nd := scFn.nd
    have z2 : 2 ≤ sizeLine := by rw [sizeLine_eq]; decide
    have z3 : 3 ≤ sizeLine := by rw [sizeLine_eq]; decide
    refine ⟨_, pss_one (ps_ret (pe_tup (pa_cons pe_str (pa_cons (pe_callTy call_tuple_of (by rfl) T.tuple bt_tuple' (pa_cons (pe_lc (ext := ["_law_j"]) lcFn1 rfl (pi_range1 rfl T.range (pa_cons (pv 0) pa_nil))
        ⟨fun _ _ _ _ _ => (pg_name (i := 2) ndFn1 rfl (Or.inl rfl) (.inr rfl)), fun _ _ _ _ _ => pts_nil, fun _ _ _ _ _ => (pe_tup (pa_cons (pe_op op_add (pv 1) (pv 2)) (pa_cons (pe_ix ix_str pe_str (pe_op op_mod (pv 2) pe_int) (fun _ _ => rfl)) pa_nil)))⟩) pa_nil)) (pa_cons (pe_tup (pa_cons pe_str (pa_cons pe_int pa_nil))) pa_nil))))), ?_⟩
    refine ⟨_, rfl, m, rfl, by omega, by omega, fun D hD => ?_⟩
    refine lc_rng (lo := 0) (n := m.toNat) (fun k ys σ' H' => (∃ v, σ' = [none, some (.int p), v]) ∧ Same H H' ∧ H' D = some (.lst ys) ∧ ys.length = k)
      ⟨⟨_, rfl⟩, same_upd hD, upd_same, rfl⟩ ?_ ?_
    · rintro k ys σ' H' hk ⟨⟨v, rfl⟩, sH, hDD, hyl⟩
      unfold gName
      refine yes_if ?_
      obtain ⟨c, ec, _⟩ := at_mod (xs := cpl ("abcdefgh" : Str)) (0 + (k : Int)) (n := 8) (by decide) (by decide)
      refine ⟨_, rfl, _, rfl, _, _, rfl, rfl, _, rfl, _, _, rfl, rfl, (by show (0 : Int) < _; decide), ("abcdefgh" : Str), _, c, rfl, rfl, by decide, ec, z2, fun t ht => ?_⟩
      have nDt : D ≠ t := fun e => by rw [← e, hDD] at ht; cases ht
      refine ⟨by rw [upd_ne nDt]; exact hDD, by rw [hyl, sizeLine_eq]; omega, Beh.of hk ⟨⟨_, rfl⟩, fun c' o e => ?_, upd_same, by rw [List.length_append, hyl]; rfl⟩⟩
      rw [upd_ne (ne_of_none e hD)]
      exact same_upd ht _ _ (sH _ _ e)
    · rintro ys σ' H1 ⟨_, sH, hDD, hyl⟩
      refine ⟨D, ys, rfl, .inl ⟨SqL.of hDD, fun l hl => ?_⟩⟩
      have s2 := same_upd (o := .tup ys) hl
      refine ⟨z2, fun t1 ht1 => ⟨z3, fun t2 ht2 => ?_⟩⟩
      have s3 := same_upd (o := .tup [.str "num", .int 7]) ht1
      have s4 := same_upd (o := .tup [.str "fn", .ref l, .ref t1]) ht2
      exact q _ t2 (((sH.trans s2).trans s3).trans s4) ⟨l, .ref t1, ys, upd_same, s4 _ _ (s3 _ _ upd_same), hyl⟩
end
end K63

set_option Elab.async false
set_option linter.all false
set_option maxRecDepth 100000
set_option maxHeartbeats 4000000
set_option exponentiation.threshold 3000
/-! k63: what is stuck; the law's cores and their values. Own work. -/
namespace K63
open PySem L2 Builtin.Str
abbrev BAD : List Str := ["adds", "plus", "les", "x", "show", "free"]
theorem bad_at (z : Int) : ∃ n : Str, atI (BAD.map V.str) (z % 6) = some (.str n) ∧ ¬ n ∈ OPS := by
  obtain ⟨c, ec, hc⟩ := at_mod (xs := BAD.map V.str) z (n := 6) rfl (by decide)
  obtain ⟨n, hn, rfl⟩ := List.mem_map.mp hc
  exact ⟨n, ec, (show ∀ n ∈ BAD, ¬ n ∈ OPS by decide) n hn⟩
theorem m013 (z : Int) : ∃ k : Int, atI [V.int 0, V.int 1, V.int 3] (z % 3) = some (.int k) ∧ (k = 0 ∨ k = 1 ∨ k = 3) := by
  obtain ⟨c, ec, hc⟩ := at_mod (xs := [V.int 0, V.int 1, V.int 3]) z (n := 3) rfl (by decide)
  simp only [List.mem_cons, List.not_mem_nil, or_false] at hc
  rcases hc with rfl | rfl | rfl
  · exact ⟨_, ec, .inl rfl⟩
  · exact ⟨_, ec, .inr (.inl rfl)⟩
  · exact ⟨_, ec, .inr (.inr rfl)⟩
theorem cut013 {v : V} {k : Int} (h : k = 0 ∨ k = 1 ∨ k = 3) : (cutV [v, v, v] none (some k)).length ≠ 2 := by
  rcases h with rfl | rfl | rfl
  · show ([] : List V).length ≠ 2; decide
  · show ([v] : List V).length ≠ 2; simp
  · show ([v, v, v] : List V).length ≠ 2; simp
theorem co_of {H : Hp} {x : V} {o : Out} {d : Nat} (hd : d ≤ 20) (h : ∃ n, Ev kn0 H x n d o) : CoIn H x o := by
  obtain ⟨n, e⟩ := h
  exact ⟨n, d, hd, e⟩
/-- a call of a number, whatever is handed in -/
theorem stuck_num {H : Hp} {c u t : Addr} {z : Int} {as : List V} (hc : H c = some (.tup [.str "call", .ref t, .ref u])) (hu : H u = some (.tup as)) (ht : H t = some (.tup [.str "num", .int z])) (ha : ∀ x ∈ as, x = .ref t) (hl : as.length ≤ 5) : CoIn H (.ref c) .stuck := by
  have h := ev_call hc hu (ev_num (kn := kn0) ht) (args_all ht ha)
  rw [call_end (seq_all (.num z) as)] at h
  exact co_of (by omega) h
theorem stuck_op {H : Hp} {c u g t : Addr} {n : Str} {z : Int} {as : List V} (hc : H c = some (.tup [.str "call", .ref g, .ref u])) (hu : H u = some (.tup as)) (hg : H g = some (.tup [.str "free", .str n])) (hn : n ∈ OPS) (ht : H t = some (.tup [.str "num", .int z])) (ha : ∀ x ∈ as, x = .ref t) (hl : as.length ≤ 5) (h2 : as.length ≠ 2) : CoIn H (.ref c) .stuck := by
  have h := ev_call hc hu (ev_op (kn := kn0) hg hn) (args_all ht ha)
  rw [call_end (seq_all (.num z) as), reck_len (by rw [List.length_map]; exact h2)] at h
  exact co_of (by omega) h
section
variable {P : Program} {w : World} {K : PySem.W.Frag} {mg : Str → Option Value} {base : Heap} {C op : Addr}
abbrev NSt : List Str := ["_law_cell", "_law_place", "_law_later", "_law_kind", "_law_one"]
theorem scStuck : FnScope NSt ["_law_cell", "_law_place", "_law_later"] (defScope sStuck) := ⟨rfl, rfl, rfl, by decide +kernel, rfl, by decide +kernel, by decide +kernel⟩
theorem ok_stuck {f fN fF : Addr} {fd fdN fdF : FuncData} (F : Fun K "_law_stuck" "_law_stuck" sStuck f fd) (T : MT K mg C op)
    (FN : Fun K "_law_number" "_law_number" sNumber fN fdN) (bN : Binds K fdN ["_law_cell"] []) (mN : mg "_law_number" = some (.ref fN))
    (FF : Fun K "_law_fn" "_law_fn" sFn fF fdF) (bF : Binds K fdF ["_law_many", "_law_place"] []) (mF : mg "_law_fn" = some (.ref fF)) : FnOk P w K mg base CX0 2 f fd ["_law_cell", "_law_place", "_law_later"] spStuck := by
  have GN : FnOk P w K mg base CX0 1 fN fdN ["_law_cell"] spNum := ok_num FN
  have GF : FnOk P w K mg base CX0 1 fF fdF ["_law_many", "_law_place"] spFn := ok_fn FF T
  refine F.ok scStuck (fun vs H Q E h => ?_) (fun cdv A outer s H vs Q E hr h => ?_)
  · obtain ⟨c, p, l, rfl, _⟩ := h; rfl
  · obtain ⟨c, p, l, rfl, q⟩ := h
    have nd := scStuck.nd
    have z2 : 2 ≤ sizeLine := by rw [sizeLine_eq]; decide
    have z3 : 3 ≤ sizeLine := by rw [sizeLine_eq]; decide
    have z4 : 4 ≤ sizeLine := by rw [sizeLine_eq]; decide
    refine ⟨_, Z.suite (Z.pss_cons (Z.ps_set (i := 3) nd rfl (Or.inl rfl) (Z.pe_op op_mod (Z.pv 0) Z.pe_int))
      (Z.pss_cons (Z.ps_set (i := 4) nd rfl (Or.inl rfl) (Z.pe_tup (Z.pa_cons Z.pe_str (Z.pa_cons (Z.pe_call GN hr (by rfl) mN FN.kp bN .nil pass0 (Z.pa_cons (Z.pe_op op_fdiv (Z.pv 0) Z.pe_int) Z.pa_nil)) Z.pa_nil))))
      (Z.pss_cons (Z.ps_if (Z.pt_cmpR op_eq (Z.pv 3) Z.pe_int (nomark _))
      (Z.pss_one (Z.ps_ret (Z.pe_tup (Z.pa_cons Z.pe_str (Z.pa_cons (Z.pe_ix ix_list (Z.pe_lst (Z.pa_strs (xs := BAD) (by rfl))) (Z.pe_op op_mod (Z.pe_op op_fdiv (Z.pv 0) Z.pe_int) Z.pe_int) (fun _ _ => rfl)) Z.pa_nil)))))
      Z.pss_nil)
      (Z.pss_cons (Z.ps_if (Z.pt_cmpR op_eq (Z.pv 3) Z.pe_int (nomark _))
      (Z.pss_one (Z.ps_ret (Z.pe_tup (Z.pa_cons Z.pe_str (Z.pa_cons (Z.pv 4) (Z.pa_cons (Z.pe_slice sl_tupW (Z.pe_tup (Z.pa_cons (Z.pv 4) (Z.pa_cons (Z.pv 4) Z.pa_nil))) Z.po_none (Z.po_some (Z.pe_op op_mod (Z.pe_op op_fdiv (Z.pv 0) Z.pe_int) Z.pe_int))) Z.pa_nil))))))
      Z.pss_nil)
      (Z.pss_cons (Z.ps_if (Z.pt_cmpR op_eq (Z.pv 3) Z.pe_int (nomark _))
      (Z.pss_one (Z.ps_ret (Z.pe_tup (Z.pa_cons Z.pe_str (Z.pa_cons (Z.pe_tup (Z.pa_cons Z.pe_str (Z.pa_cons (Z.pe_ix ix_list (Z.pe_lst (Z.pa_strs (xs := OPS) (by rfl))) (Z.pe_op op_mod (Z.pe_op op_fdiv (Z.pv 0) Z.pe_int) Z.pe_int) (fun _ _ => rfl)) Z.pa_nil))) (Z.pa_cons (Z.pe_slice sl_tupW (Z.pe_tup (Z.pa_cons (Z.pv 4) (Z.pa_cons (Z.pv 4) (Z.pa_cons (Z.pv 4) Z.pa_nil)))) Z.po_none (Z.po_some (Z.pe_ix ix_list (Z.pe_lst (Z.pa_cons Z.pe_int (Z.pa_cons Z.pe_int (Z.pa_cons Z.pe_int Z.pa_nil)))) (Z.pe_op op_mod (Z.pe_op op_fdiv (Z.pv 0) Z.pe_int) Z.pe_int) (fun _ _ => rfl)))) Z.pa_nil))))))
      Z.pss_nil)
      (Z.pss_cons (Z.ps_if (Z.pt_cmpR op_eq (Z.pv 3) Z.pe_int (nomark _))
      (Z.pss_one (Z.ps_ret (Z.pe_tup (Z.pa_cons Z.pe_str (Z.pa_cons (Z.pe_tup (Z.pa_cons Z.pe_str (Z.pa_cons (Z.pe_ix ix_list (Z.pe_lst (Z.pa_strs (xs := OPS) (by rfl))) (Z.pe_op op_mod (Z.pe_op op_fdiv (Z.pv 0) Z.pe_int) Z.pe_int) (fun _ _ => rfl)) Z.pa_nil))) (Z.pa_cons (Z.pe_tup (Z.pa_cons (Z.pv 4) (Z.pa_cons (Z.pe_tup (Z.pa_cons Z.pe_str (Z.pa_cons Z.pe_str Z.pa_nil))) Z.pa_nil))) Z.pa_nil))))))
      Z.pss_nil)
      (Z.pss_cons (Z.ps_if (Z.pt_cmpR op_eq (Z.pv 3) Z.pe_int (nomark _))
      (Z.pss_one (Z.ps_ret (Z.pe_tup (Z.pa_cons Z.pe_str (Z.pa_cons (Z.pe_tup (Z.pa_cons Z.pe_str (Z.pa_cons (Z.pe_ix ix_list (Z.pe_lst (Z.pa_strs (xs := OPS) (by rfl))) (Z.pe_op op_mod (Z.pe_op op_fdiv (Z.pv 0) Z.pe_int) Z.pe_int) (fun _ _ => rfl)) Z.pa_nil))) (Z.pa_cons (Z.pe_tup (Z.pa_cons (Z.pe_call GF hr (by rfl) mF FF.kp bF .nil pass0 (Z.pa_cons (Z.pe_op op_mod (Z.pe_op op_fdiv (Z.pv 0) Z.pe_int) Z.pe_int) (Z.pa_cons (Z.pv 1) Z.pa_nil))) (Z.pa_cons (Z.pv 4) Z.pa_nil))) Z.pa_nil))))))
      Z.pss_nil)
      (Z.pss_cons (Z.ps_if (Z.pt_cmpR op_eq (Z.pv 3) Z.pe_int (nomark _))
      (Z.pss_one (Z.ps_ret (Z.pe_tup (Z.pa_cons Z.pe_str (Z.pa_cons (Z.pe_call GF hr (by rfl) mF FF.kp bF .nil pass0 (Z.pa_cons (Z.pe_op op_add Z.pe_int (Z.pe_op op_mod (Z.pe_op op_fdiv (Z.pv 0) Z.pe_int) Z.pe_int)) (Z.pa_cons (Z.pv 1) Z.pa_nil))) (Z.pa_cons (Z.pe_tup Z.pa_nil) Z.pa_nil))))))
      Z.pss_nil)
      (Z.pss_cons (Z.ps_if (Z.pt_cmpR op_eq (Z.pv 3) Z.pe_int (nomark _))
      (Z.pss_one (Z.ps_ret (Z.pe_tup (Z.pa_cons Z.pe_str (Z.pa_cons (Z.pe_call GF hr (by rfl) mF FF.kp bF .nil pass0 (Z.pa_cons (Z.pe_op op_mod (Z.pe_op op_fdiv (Z.pv 0) Z.pe_int) Z.pe_int) (Z.pa_cons (Z.pv 1) Z.pa_nil))) (Z.pa_cons (Z.pe_tup (Z.pa_cons (Z.pv 4) (Z.pa_cons (Z.pv 4) Z.pa_nil))) Z.pa_nil))))))
      Z.pss_nil)
      (Z.pss_cons (Z.ps_if (Z.pt_cmpR op_eq (Z.pv 3) Z.pe_int (nomark _))
      (Z.pss_one (Z.ps_ret (Z.pe_tup (Z.pa_cons Z.pe_str (Z.pa_cons (Z.pe_call GF hr (by rfl) mF FF.kp bF .nil pass0 (Z.pa_cons (Z.pe_op op_mod (Z.pe_op op_fdiv (Z.pv 0) Z.pe_int) Z.pe_int) (Z.pa_cons (Z.pv 1) Z.pa_nil))) (Z.pa_cons (Z.pv 4) (Z.pa_cons (Z.pv 4) Z.pa_nil)))))))
      Z.pss_nil)
      (Z.pss_cons (Z.ps_if (Z.pt_cmpR op_eq (Z.pv 3) Z.pe_int (nomark _))
      (Z.pss_one (Z.ps_ret (Z.pe_tup (Z.pa_cons Z.pe_str (Z.pa_cons (Z.pe_tup (Z.pa_cons Z.pe_str (Z.pa_cons Z.pe_str Z.pa_nil))) (Z.pa_cons (Z.pv 4) (Z.pa_cons (Z.pv 4) Z.pa_nil)))))))
      Z.pss_nil)
      (Z.pss_one (Z.ps_ret (Z.pe_tup (Z.pa_cons Z.pe_str (Z.pa_cons (Z.pv 2) Z.pa_nil)))))))))))))))), ?_⟩
    refine ⟨_, rfl, _, _, rfl, rfl, (by show (0 : Int) < _; decide), ?_⟩
    refine ⟨_, rfl, _, _, rfl, rfl, ⟨by decide, by decide⟩, _, rfl, fun H1 z s1 => ⟨z2, fun t1 ht1 => ?_⟩⟩
    have s2 := s1.trans (same_upd (o := .tup [.str "num", .int z]) ht1)
    have f1 : upd H1 t1 (.tup [.str "num", .int z]) t1 = some (.tup [.str "num", .int z]) := upd_same
    generalize upd H1 t1 (.tup [.str "num", .int z]) = H2 at s2 f1 ⊢
    clear s1 ht1
    -- 0
    refine ⟨_, rfl, rfl, _, rfl, ite2 (fun _ => ?_) (fun _ => ?_)⟩
    · obtain ⟨n, en, hn⟩ := bad_at (c / 10)
      refine ⟨by rw [sizeLine_eq]; decide, fun lb hlb => ?_⟩
      refine ⟨_, rfl, _, _, rfl, rfl, ⟨by decide, by decide⟩, _, _, rfl, rfl, (by show (0 : Int) < _; decide), lb, _, _, _, rfl, rfl, SqL.of upd_same, en, z2, fun t ht => ?_⟩
      exact q _ t (s2.trans ((same_upd hlb).trans (same_upd ht))) ⟨1, 0, by decide, ev_noop upd_same hn⟩
    -- 1
    refine ⟨_, rfl, rfl, _, rfl, ite2 (fun _ => ?_) (fun _ => ?_)⟩
    · have fin : ∀ (H3 : Hp) (u : Addr) (as : List V), Same H2 H3 → H3 u = some (.tup as) → (∀ x ∈ as, x = .ref t1) → as.length ≤ 5 → ∀ t, H3 t = none → Q (.ref t) (upd H3 t (.tup [.str "call", .ref t1, .ref u])) := fun H3 u as s3 hu ha hl t ht => by
        have s4 := same_upd (o := .tup [.str "call", .ref t1, .ref u]) ht
        exact q _ t (s2.trans (s3.trans s4)) (stuck_num upd_same (s4 _ _ hu) (s4 _ _ (s3 _ _ f1)) ha hl)
      refine ⟨_, rfl, _, rfl, _, rfl, z2, fun ta hta => ?_⟩
      have sa := same_upd (o := .tup [.ref t1, .ref t1]) hta
      have hall : ∀ x ∈ [V.ref t1, .ref t1], x = .ref t1 := fun x hx => by simpa using hx
      refine ⟨_, rfl, _, _, rfl, rfl, ⟨by decide, by decide⟩, _, _, rfl, rfl, (by show (0 : Int) < _; decide), _, rfl, ta, _, rfl, SqT.of upd_same, (fun ew => ⟨z3, fin _ ta _ sa upd_same hall (by simp)⟩), fun pp hp => ⟨z3, ?_⟩⟩
      exact fin _ pp _ (sa.trans (same_upd hp)) upd_same (fun x hx => hall x (mem_cutV hx)) (Nat.le_trans (cutV_length _ _ _) (by simp))
    -- 2
    refine ⟨_, rfl, rfl, _, rfl, ite2 (fun _ => ?_) (fun _ => ?_)⟩
    · obtain ⟨n, en, hn⟩ := ops_at (c / 10)
      refine ⟨by rw [sizeLine_eq]; decide, fun lb hlb => ?_⟩
      refine ⟨_, rfl, _, _, rfl, rfl, ⟨by decide, by decide⟩, _, _, rfl, rfl, (by show (0 : Int) < _; decide), lb, _, _, _, rfl, rfl, SqL.of upd_same, en, z2, fun g hg => ?_⟩
      have s3 := (same_upd (o := .lst (OPS.map V.str)) hlb).trans (same_upd (o := .tup [.str "free", .str n]) hg)
      have fg : upd (upd H2 lb (.lst (OPS.map V.str))) g (.tup [.str "free", .str n]) g = some (.tup [.str "free", .str n]) := upd_same
      generalize upd (upd H2 lb (.lst (OPS.map V.str))) g (.tup [.str "free", .str n]) = H3 at s3 fg ⊢
      obtain ⟨k, ek, hk⟩ := m013 (c / 30)
      have fin : ∀ (H4 : Hp) (u : Addr) (as : List V), Same H3 H4 → H4 u = some (.tup as) → (∀ x ∈ as, x = .ref t1) → as.length ≤ 5 → as.length ≠ 2 → ∀ t, H4 t = none → Q (.ref t) (upd H4 t (.tup [.str "call", .ref g, .ref u])) := fun H4 u as s4 hu ha hl h2 t ht => by
        have s5 := same_upd (o := .tup [.str "call", .ref g, .ref u]) ht
        exact q _ t (s2.trans (s3.trans (s4.trans s5))) (stuck_op upd_same (s5 _ _ hu) (s5 _ _ (s4 _ _ fg)) hn (s5 _ _ (s4 _ _ (s3 _ _ f1))) ha hl h2)
      refine ⟨_, rfl, _, rfl, _, rfl, z3, fun ta hta => ?_⟩
      have sa := same_upd (o := .tup [.ref t1, .ref t1, .ref t1]) hta
      have fa : upd H3 ta (.tup [.ref t1, .ref t1, .ref t1]) ta = some (.tup [.ref t1, .ref t1, .ref t1]) := upd_same
      generalize upd H3 ta (.tup [.ref t1, .ref t1, .ref t1]) = H4 at sa fa ⊢
      have hall : ∀ x ∈ [V.ref t1, .ref t1, .ref t1], x = .ref t1 := fun x hx => by simpa using hx
      refine ⟨z3, fun lk hlk => ?_⟩
      have sk := same_upd (o := .lst [.int 0, .int 1, .int 3]) hlk
      refine ⟨_, rfl, _, _, rfl, rfl, ⟨by decide, by decide⟩, _, _, rfl, rfl, (by show (0 : Int) < _; decide), lk, _, _, _, rfl, rfl, SqL.of upd_same, ek, _, rfl, ta, _, rfl, SqT.of (sk _ _ fa), (fun ew => ⟨z3, ?_⟩), fun pp hp => ⟨z3, ?_⟩⟩
      · refine fin _ ta _ (sa.trans sk) (sk _ _ fa) hall (by simp) ?_
        rw [← ew]; exact cut013 hk
      · exact fin _ pp _ ((sa.trans sk).trans (same_upd hp)) upd_same (fun x hx => hall x (mem_cutV hx)) (Nat.le_trans (cutV_length _ _ _) (by simp)) (cut013 hk)
    -- 3
    refine ⟨_, rfl, rfl, _, rfl, ite2 (fun _ => ?_) (fun _ => ?_)⟩
    · obtain ⟨n, en, hn⟩ := ops_at (c / 10)
      refine ⟨by rw [sizeLine_eq]; decide, fun lb hlb => ?_⟩
      refine ⟨_, rfl, _, _, rfl, rfl, ⟨by decide, by decide⟩, _, _, rfl, rfl, (by show (0 : Int) < _; decide), lb, _, _, _, rfl, rfl, SqL.of upd_same, en, z2, fun g hg => ?_⟩
      have s3 := (same_upd (o := .lst (OPS.map V.str)) hlb).trans (same_upd (o := .tup [.str "free", .str n]) hg)
      have fg : upd (upd H2 lb (.lst (OPS.map V.str))) g (.tup [.str "free", .str n]) g = some (.tup [.str "free", .str n]) := upd_same
      generalize upd (upd H2 lb (.lst (OPS.map V.str))) g (.tup [.str "free", .str n]) = H3 at s3 fg ⊢
      refine ⟨_, rfl, z2, fun b hb => ⟨z2, fun u hu => ⟨z3, fun t ht => ?_⟩⟩⟩
      have s4 := same_upd (o := .tup [.str "free", .str "add"]) hb
      have s5 := same_upd (o := .tup [.ref t1, .ref b]) hu
      have s6 := same_upd (o := .tup [.str "call", .ref g, .ref u]) ht
      have h := ev_call (kn := kn0) (upd_same (H := upd (upd H3 b (.tup [.str "free", .str "add"])) u (.tup [.ref t1, .ref b])) (a := t) (o := .tup [.str "call", .ref g, .ref u])) (s6 _ _ upd_same) (ev_op (s6 _ _ (s5 _ _ (s4 _ _ fg))) hn) (ev_args2 (ev_num (s6 _ _ (s5 _ _ (s4 _ _ (s3 _ _ f1))))) (ev_op (n := "add") (s6 _ _ (s5 _ _ upd_same)) (by decide)))
      exact q _ t (s2.trans (s3.trans ((s4.trans s5).trans s6))) (co_of (by simp) h)
    -- 4
    refine ⟨_, rfl, rfl, _, rfl, ite2 (fun _ => ?_) (fun _ => ?_)⟩
    · obtain ⟨n, en, hn⟩ := ops_at (c / 10)
      refine ⟨by rw [sizeLine_eq]; decide, fun lb hlb => ?_⟩
      refine ⟨_, rfl, _, _, rfl, rfl, ⟨by decide, by decide⟩, _, _, rfl, rfl, (by show (0 : Int) < _; decide), lb, _, _, _, rfl, rfl, SqL.of upd_same, en, z2, fun g hg => ?_⟩
      have s3 := (same_upd (o := .lst (OPS.map V.str)) hlb).trans (same_upd (o := .tup [.str "free", .str n]) hg)
      have fg : upd (upd H2 lb (.lst (OPS.map V.str))) g (.tup [.str "free", .str n]) g = some (.tup [.str "free", .str n]) := upd_same
      generalize upd (upd H2 lb (.lst (OPS.map V.str))) g (.tup [.str "free", .str n]) = H3 at s3 fg ⊢
      have e0 := Int.emod_nonneg (c / 30) (show (3 : Int) ≠ 0 by decide)
      have e1 := Int.emod_lt_of_pos (c / 30) (show (0 : Int) < 3 by decide)
      refine ⟨_, rfl, _, _, rfl, rfl, ⟨by decide, by decide⟩, _, _, rfl, rfl, (by show (0 : Int) < _; decide), _, rfl, c / 30 % 3, p, rfl, e0, by omega, fun H4 tf s4 hf => ⟨_, rfl, z2, fun u hu => ⟨z3, fun t ht => ?_⟩⟩⟩
      have s5 := same_upd (o := .tup [.ref tf, .ref t1]) hu
      have s6 := same_upd (o := .tup [.str "call", .ref g, .ref u]) ht
      have h := ev_call (kn := kn0) (upd_same (H := upd H4 u (.tup [.ref tf, .ref t1])) (a := t) (o := .tup [.str "call", .ref g, .ref u])) (s6 _ _ upd_same) (ev_op (s6 _ _ (s5 _ _ (s4 _ _ fg))) hn) (ev_args2 ((hf.tup (Tup.of (s5.trans s6))).ev) (ev_num (s6 _ _ (s5 _ _ (s4 _ _ (s3 _ _ f1))))))
      exact q _ t (s2.trans (s3.trans (s4.trans (s5.trans s6)))) (co_of (by simp) h)
    -- 5
    refine ⟨_, rfl, rfl, _, rfl, ite2 (fun _ => ?_) (fun _ => ?_)⟩
    · have e0 := Int.emod_nonneg (c / 10) (show (4 : Int) ≠ 0 by decide)
      have e1 := Int.emod_lt_of_pos (c / 10) (show (0 : Int) < 4 by decide)
      refine ⟨_, rfl, _, _, rfl, rfl, ⟨by decide, by decide⟩, _, _, rfl, rfl, (by show (0 : Int) < _; decide), _, _, rfl, rfl, _, rfl, 1 + c / 10 % 4, p, rfl, by omega, by omega, fun H4 tf s4 hf => ⟨Nat.zero_le _, fun u hu => ⟨z3, fun t ht => ?_⟩⟩⟩
      have s5 := same_upd (o := .tup []) hu
      have s6 := same_upd (o := .tup [.str "call", .ref tf, .ref u]) ht
      have h := ev_call (kn := kn0) (upd_same (H := upd H4 u (.tup [])) (a := t) (o := .tup [.str "call", .ref tf, .ref u])) (s6 _ _ upd_same) ((hf.tup (Tup.of (s5.trans s6))).ev) (os := []) (d := 0) Al.nil
      have eo : callOut (.val (.fn (1 + c / 10 % 4).toNat)) [] = .stuck := by show (if (1 + c / 10 % 4).toNat = ([] : List AV).length then _ else _) = _; rw [if_neg (by simp; omega)]
      rw [eo] at h
      exact q _ t (s2.trans (s4.trans (s5.trans s6))) (co_of (by simp) h)
    -- 6
    refine ⟨_, rfl, rfl, _, rfl, ite2 (fun _ => ?_) (fun _ => ?_)⟩
    · have e0 := Int.emod_nonneg (c / 10) (show (2 : Int) ≠ 0 by decide)
      have e1 := Int.emod_lt_of_pos (c / 10) (show (0 : Int) < 2 by decide)
      refine ⟨_, rfl, _, _, rfl, rfl, ⟨by decide, by decide⟩, _, _, rfl, rfl, (by show (0 : Int) < _; decide), _, rfl, c / 10 % 2, p, rfl, by omega, by omega, fun H4 tf s4 hf => ⟨_, rfl, _, rfl, z2, fun u hu => ⟨z3, fun t ht => ?_⟩⟩⟩
      have s5 := same_upd (o := .tup [.ref t1, .ref t1]) hu
      have s6 := same_upd (o := .tup [.str "call", .ref tf, .ref u]) ht
      have fz := s6 _ _ (s5 _ _ (s4 _ _ f1))
      have h := ev_call (kn := kn0) (upd_same (H := upd H4 u (.tup [.ref t1, .ref t1])) (a := t) (o := .tup [.str "call", .ref tf, .ref u])) (s6 _ _ upd_same) ((hf.tup (Tup.of (s5.trans s6))).ev) (ev_args2 (ev_num fz) (ev_num fz))
      have eo : callOut (.val (.fn (c / 10 % 2).toNat)) [.val (.num z), .val (.num z)] = .stuck := by show (if (c / 10 % 2).toNat = ([.num z, .num z] : List AV).length then _ else _) = _; rw [if_neg (by simp; omega)]
      rw [eo] at h
      exact q _ t (s2.trans (s4.trans (s5.trans s6))) (co_of (by simp) h)
    -- 7
    refine ⟨_, rfl, rfl, _, rfl, ite2 (fun _ => ?_) (fun _ => ?_)⟩
    · have e0 := Int.emod_nonneg (c / 10) (show (2 : Int) ≠ 0 by decide)
      have e1 := Int.emod_lt_of_pos (c / 10) (show (0 : Int) < 2 by decide)
      refine ⟨_, rfl, _, _, rfl, rfl, ⟨by decide, by decide⟩, _, _, rfl, rfl, (by show (0 : Int) < _; decide), _, rfl, c / 10 % 2, p, rfl, by omega, by omega, fun H4 tf s4 hf => ⟨_, rfl, _, rfl, z4, fun t ht => ?_⟩⟩
      have s6 := same_upd (o := .tup [.str "pick", .ref tf, .ref t1, .ref t1]) ht
      have fz := s6 _ _ (s4 _ _ f1)
      exact q _ t (s2.trans (s4.trans s6)) (co_of (by decide) (ev_pick (kn := kn0) (upd_same (H := H4) (a := t) (o := .tup [.str "pick", .ref tf, .ref t1, .ref t1])) (hf.tup (Tup.of s6)).ev (ev_num fz) (ev_num fz)))
    -- 8
    refine ⟨_, rfl, rfl, _, rfl, ite2 (fun _ => ?_) (fun _ => ?_)⟩
    · refine ⟨z2, fun g hg => ⟨_, rfl, _, rfl, z4, fun t ht => ?_⟩⟩
      have s4 := same_upd (o := .tup [.str "free", .str "less"]) hg
      have s6 := same_upd (o := .tup [.str "pick", .ref g, .ref t1, .ref t1]) ht
      have fz := s6 _ _ (s4 _ _ f1)
      exact q _ t (s2.trans (s4.trans s6)) (co_of (by decide) (ev_pick (kn := kn0) (upd_same (H := upd H2 g (.tup [.str "free", .str "less"])) (a := t) (o := .tup [.str "pick", .ref g, .ref t1, .ref t1])) (ev_op (n := "less") (s6 _ _ upd_same) (by decide)) (ev_num fz) (ev_num fz)))
    -- 9
    refine ⟨_, rfl, z2, fun t ht => ?_⟩
    exact q _ t (s2.trans (same_upd ht)) ⟨1, 0, by decide, ev_seen (p := l) upd_same⟩
end
end K63

set_option Elab.async false
set_option linter.all false
set_option maxRecDepth 100000
set_option maxHeartbeats 4000000
set_option exponentiation.threshold 3000
/-! k63: the law's cores, their values, what is picked. Own work. -/
namespace K63
open PySem L2 Builtin.Str
theorem dec_I {i j : Int} : decide (V.int i = V.int j) = decide (i = j) := by
  rw [decide_eq_decide]; exact ⟨fun e => by injection e, fun e => by rw [e]⟩
theorem bl_I {i j : Int} : V.bl (decide (V.int i = V.int j)) = V.bl (decide (i = j)) := by rw [dec_I]
def spPicked : Sp := fun vs H Q _ => ∃ (D : Addr) (r0 r1 r2 : V) (o0 o1 o2 : Out), vs = [.ref D] ∧ H D = some (.lst [r0, r1, r2]) ∧ RowIn H o0 r0 ∧ RowIn H o1 r1 ∧ RowIn H o2 r2 ∧ ∀ (H' : Hp) (r : V), Same H H' → RowIn H' (pickO o0 o1 o2) r → Q r H'
section
variable {P : Program} {w : World} {K : PySem.W.Frag} {mg : Str → Option Value} {base : Heap} {C op : Addr}
abbrev NCo : List Str := ["_law_cell", "_law_place", "_law_later", "_law_kind", "_law_more"]
theorem scCore : FnScope NCo ["_law_cell", "_law_place", "_law_later"] (defScope sCore) := ⟨rfl, rfl, rfl, by decide +kernel, rfl, by decide +kernel, by decide +kernel⟩
theorem ok_core {f fN fF fS : Addr} {fd fdN fdF fdS : FuncData} (F : Fun K "_law_core" "_law_core" sCore f fd) (T : MT K mg C op)
    (FN : Fun K "_law_number" "_law_number" sNumber fN fdN) (bN : Binds K fdN ["_law_cell"] []) (mN : mg "_law_number" = some (.ref fN))
    (FF : Fun K "_law_fn" "_law_fn" sFn fF fdF) (bF : Binds K fdF ["_law_many", "_law_place"] []) (mF : mg "_law_fn" = some (.ref fF))
    (FS : Fun K "_law_stuck" "_law_stuck" sStuck fS fdS) (bS : Binds K fdS ["_law_cell", "_law_place", "_law_later"] []) (mS : mg "_law_stuck" = some (.ref fS)) : FnOk P w K mg base CX0 3 f fd ["_law_cell", "_law_place", "_law_later"] spCore := by
  have GN : FnOk P w K mg base CX0 2 fN fdN ["_law_cell"] spNum := (ok_num FN).mono (by decide)
  have GF : FnOk P w K mg base CX0 2 fF fdF ["_law_many", "_law_place"] spFn := (ok_fn FF T).mono (by decide)
  have GS : FnOk P w K mg base CX0 2 fS fdS ["_law_cell", "_law_place", "_law_later"] spStuck := ok_stuck FS T FN bN mN FF bF mF
  refine F.ok scCore (fun vs H Q E h => ?_) (fun cdv A outer s H vs Q E hr h => ?_)
  · obtain ⟨c, p, l, rfl, _⟩ := h; rfl
  · obtain ⟨c, p, l, rfl, q⟩ := h
    have nd := scCore.nd
    have z2 : 2 ≤ sizeLine := by rw [sizeLine_eq]; decide
    have z3 : 3 ≤ sizeLine := by rw [sizeLine_eq]; decide
    refine ⟨_, Z.suite (Z.pss_cons (Z.ps_set (i := 3) nd rfl (Or.inl rfl) (Z.pe_op op_mod (Z.pv 0) Z.pe_int))
      (Z.pss_cons (Z.ps_set (i := 4) nd rfl (Or.inl rfl) (Z.pe_op op_fdiv (Z.pv 0) Z.pe_int))
      (Z.pss_cons (Z.ps_if (Z.pt_cmpR op_eq (Z.pv 3) Z.pe_int (nomark _))
      (Z.pss_one (Z.ps_ret (Z.pe_tup (Z.pa_cons Z.pe_str (Z.pa_cons (Z.pe_ix ix_list (Z.pe_lst (Z.pa_strs (xs := OPS) (by rfl))) (Z.pe_op op_mod (Z.pv 4) Z.pe_int) (fun _ _ => rfl)) Z.pa_nil)))))
      Z.pss_nil)
      (Z.pss_cons (Z.ps_if (Z.pt (Z.pw_and (Z.pt_cmpR op_eq (Z.pv 3) Z.pe_int (nomark _)) (Z.pw_and1 (Z.pt_cmpR op_eq (Z.pe_op op_mod (Z.pv 4) Z.pe_int) Z.pe_int (nomark _)))))
      (Z.pss_one (Z.ps_ret (Z.pe_call GF hr (by rfl) mF FF.kp bF .nil pass0 (Z.pa_cons (Z.pe_op op_mod (Z.pe_op op_fdiv (Z.pv 4) Z.pe_int) Z.pe_int) (Z.pa_cons (Z.pv 1) Z.pa_nil)))))
      Z.pss_nil)
      (Z.pss_cons (Z.ps_if (Z.pt_cmpR op_eq (Z.pv 3) Z.pe_int (nomark _))
      (Z.pss_one (Z.ps_ret (Z.pe_call GS hr (by rfl) mS FS.kp bS .nil pass0 (Z.pa_cons (Z.pv 4) (Z.pa_cons (Z.pv 1) (Z.pa_cons (Z.pv 2) Z.pa_nil))))))
      Z.pss_nil)
      (Z.pss_cons (Z.ps_if (Z.pt_cmpR op_eq (Z.pv 3) Z.pe_int (nomark _))
      (Z.pss_one (Z.ps_ret (Z.pe_tup (Z.pa_cons Z.pe_str (Z.pa_cons (Z.pe_tup (Z.pa_cons Z.pe_str (Z.pa_cons (Z.pe_tup Z.pa_nil) (Z.pa_cons (Z.pe_tup (Z.pa_cons Z.pe_str (Z.pa_cons (Z.pe_op op_mod (Z.pv 4) (Z.pe_op op_pow Z.pe_int Z.pe_int)) Z.pa_nil))) Z.pa_nil)))) (Z.pa_cons (Z.pe_tup Z.pa_nil) Z.pa_nil))))))
      Z.pss_nil)
      (Z.pss_one (Z.ps_ret (Z.pe_tup (Z.pa_cons Z.pe_str (Z.pa_cons (Z.pe_call GN hr (by rfl) mN FN.kp bN .nil pass0 (Z.pa_cons (Z.pv 4) Z.pa_nil)) Z.pa_nil))))))))))), ?_⟩
    refine ⟨_, rfl, _, _, rfl, rfl, (by show (0 : Int) < _; decide), ?_⟩
    refine ⟨_, rfl, _, _, rfl, rfl, ⟨by decide, by decide⟩, ?_⟩
    refine ⟨_, rfl, rfl, decide (c % 8 = 5), bl_I, ite2 (fun c5 => ?_) (fun c5 => ?_)⟩
    · have e5 := of_decide_eq_true c5
      obtain ⟨n, en, hn⟩ := ops_at (c / 8)
      refine ⟨by rw [sizeLine_eq]; decide, fun lb hlb => ?_⟩
      refine ⟨_, rfl, _, _, rfl, rfl, (by show (0 : Int) < _; decide), lb, _, _, _, rfl, rfl, SqL.of upd_same, en, z2, fun t ht => ?_⟩
      exact q _ t (.val (.op n)) ((same_upd hlb).trans (same_upd ht)) ⟨1, 0, by decide, ev_op upd_same hn⟩ (.inr (.inr ⟨by omega, by omega, .inr (.inl ⟨n, upd_same, rfl⟩)⟩))
    have hnum : c % 8 ≠ 6 → c % 8 ≠ 7 → ∃ n : Int, [V.int (c / 8)] = [.int n] ∧ ∀ (H' : Hp) (z : Int), Same H H' → 2 ≤ sizeLine ∧ ∀ t, H' t = none → Q (.ref t) (upd H' t (.tup [.str "num", .int z])) := fun h6 h7 => ⟨_, rfl, fun H' z s1 => ⟨z2, fun t ht => q _ t (.val (.num z)) (s1.trans (same_upd ht)) ⟨1, 0, by decide, ev_num upd_same⟩ (.inr (.inr ⟨h6, h7, .inl ⟨z, upd_same, rfl⟩⟩))⟩⟩
    have rest67 : ∀ (t6 : TS), True := fun _ => trivial
    refine ⟨_, rfl, rfl, decide (c % 8 = 4), bl_I, ite2 (fun c4 => ?_) (fun c4 => ?_)⟩
    · have e4 := of_decide_eq_true c4
      refine ⟨_, rfl, _, _, rfl, rfl, (by show (0 : Int) < _; decide), rfl, _, rfl, ite2 (fun _ => ?_) (fun _ => ?_)⟩
      · have g0 := Int.emod_nonneg (c / 8 / 2) (show (4 : Int) ≠ 0 by decide)
        have g1 := Int.emod_lt_of_pos (c / 8 / 2) (show (0 : Int) < 4 by decide)
        refine ⟨_, rfl, _, _, rfl, rfl, ⟨by decide, by decide⟩, _, _, rfl, rfl, (by show (0 : Int) < _; decide), _, rfl, c / 8 / 2 % 4, p, rfl, g0, by omega, fun H1 t s1 hf => ?_⟩
        exact q _ t (.val (.fn _)) s1 ⟨1, 0, by decide, hf.ev⟩ (.inr (.inr ⟨by omega, by omega, .inr (.inr ⟨_, hf, rfl⟩)⟩))
      · refine ⟨_, rfl, rfl, decide (c % 8 = 6), bl_I, ite2 (fun c6 => absurd (of_decide_eq_true c6) (by omega)) (fun _ => ?_)⟩
        refine ⟨_, rfl, rfl, decide (c % 8 = 7), bl_I, ite2 (fun c7 => absurd (of_decide_eq_true c7) (by omega)) (fun _ => ?_)⟩
        exact ⟨_, rfl, hnum (by omega) (by omega)⟩
    · refine iteF ?_
      refine ⟨_, rfl, rfl, decide (c % 8 = 6), bl_I, ite2 (fun c6 => ?_) (fun c6 => ?_)⟩
      · have e6 := of_decide_eq_true c6
        exact ⟨_, rfl, _, rfl, _, rfl, c / 8, p, l, rfl, fun H1 t s1 hc => q _ t .stuck s1 hc (.inl ⟨e6, rfl⟩)⟩
      refine ⟨_, rfl, rfl, decide (c % 8 = 7), bl_I, ite2 (fun c7 => ?_) (fun c7 => ?_)⟩
      · have e7 := of_decide_eq_true c7
        refine ⟨Nat.zero_le _, fun u1 hu1 => ⟨_, rfl, _, _, rfl, rfl, ⟨by decide, by decide, by decide⟩, _, _, rfl, rfl, (by show (0 : Int) < _; decide), z2, fun t2 ht2 => ⟨z3, fun t3 ht3 => ⟨Nat.zero_le _, fun u4 hu4 => ⟨z3, fun t5 ht5 => ?_⟩⟩⟩⟩⟩
        have s1 := same_upd (o := .tup []) hu1
        have s2 := same_upd (o := .tup [.str "num", .int (c / 8 % 10 ^ (60 : Int).toNat)]) ht2
        have s3 := same_upd (o := .tup [.str "fn", .ref u1, .ref t2]) ht3
        have s4 := same_upd (o := .tup []) hu4
        have s5 := same_upd (o := .tup [.str "call", .ref t3, .ref u4]) ht5
        have f1 := s3 _ _ (s2 _ _ (upd_same (H := H) (a := u1) (o := .tup [])))
        have hev := ev_call (kn := kn0) (upd_same (H := upd (upd (upd (upd H u1 (.tup [])) t2 (.tup [.str "num", .int (c / 8 % 10 ^ (60 : Int).toNat)])) t3 (.tup [.str "fn", .ref u1, .ref t2])) u4 (.tup [])) (a := t5) (o := .tup [.str "call", .ref t3, .ref u4])) (s5 _ _ upd_same) (ev_fn (s5 _ _ (s4 _ _ upd_same)) (s5 _ _ (s4 _ _ f1))) (os := []) (d := 0) Al.nil
        exact q _ t5 .on (s1.trans (s2.trans (s3.trans (s4.trans s5)))) (co_of (by decide) hev) (.inr (.inl ⟨e7, rfl⟩))
      exact ⟨_, rfl, hnum (fun e => c6 (decide_eq_true e)) (fun e => c7 (decide_eq_true e))⟩
theorem scVal : FnScope ["_law_cell", "_law_core_here"] ["_law_cell", "_law_core_here"] (defScope sVal) := ⟨rfl, rfl, rfl, by decide +kernel, rfl, by decide +kernel, by decide +kernel⟩
theorem ok_val {f : Addr} {fd : FuncData} (F : Fun K "_law_value" "_law_value" sVal f fd) (T : MT K mg C op) : FnOk P w K mg base CX0 1 f fd ["_law_cell", "_law_core_here"] spVal := by
  refine F.ok scVal (fun vs H Q E h => ?_) (fun cdv A outer s H vs Q E hr h => ?_)
  · obtain ⟨c, t, o, rfl, _⟩ := h; rfl
  · obtain ⟨c, t, o, rfl, hcv, q⟩ := h
    have z1 : 1 ≤ sizeLine := by rw [sizeLine_eq]; decide
    have z2 : 2 ≤ sizeLine := by rw [sizeLine_eq]; decide
    refine ⟨_, Z.suite (Z.pss_cons (Z.ps_if (Z.pt_cmpR op_eq (Z.pe_op op_mod (Z.pv 0) Z.pe_int) Z.pe_int (nomark _))
      (Z.pss_one (Z.ps_ret (Z.pe_tup (Z.pa_cons Z.pe_str Z.pa_nil))))
      Z.pss_nil)
      (Z.pss_cons (Z.ps_if (Z.pt_cmpR op_eq (Z.pe_op op_mod (Z.pv 0) Z.pe_int) Z.pe_int (nomark _))
      (Z.pss_one (Z.ps_ret (Z.pe_tup (Z.pa_cons Z.pe_str Z.pa_nil))))
      Z.pss_nil)
      (Z.pss_cons (Z.ps_if (Z.pt_cmpR op_eq (Z.pe_ix ix_tup (Z.pv 1) Z.pe_int (fun _ _ => rfl)) Z.pe_str (nomark _))
      (Z.pss_one (Z.ps_ret (Z.pe_tup (Z.pa_cons Z.pe_str (Z.pa_cons (Z.pe_callB call_len_seq (by rfl) T.len bt_len (Z.pa_cons (Z.pe_ix ix_tup (Z.pv 1) Z.pe_int (fun _ _ => rfl)) Z.pa_nil)) Z.pa_nil)))))
      Z.pss_nil)
      (Z.pss_cons (Z.ps_if (Z.pt_cmpR op_eq (Z.pe_ix ix_tup (Z.pv 1) Z.pe_int (fun _ _ => rfl)) Z.pe_str (nomark _))
      (Z.pss_one (Z.ps_ret (Z.pe_tup (Z.pa_cons Z.pe_str (Z.pa_cons (Z.pe_ix ix_tup (Z.pv 1) Z.pe_int (fun _ _ => rfl)) Z.pa_nil)))))
      Z.pss_nil)
      (Z.pss_one (Z.ps_ret (Z.pv 1))))))), ?_⟩
    refine ⟨_, rfl, _, _, rfl, rfl, (by show (0 : Int) < _; decide), rfl, decide (c % 8 = 6), bl_I, ite2 (fun c6 => ?_) (fun c6 => ?_)⟩
    · have e6 := of_decide_eq_true c6
      rcases hcv with ⟨_, rfl⟩ | ⟨e7, _⟩ | ⟨n6, _⟩
      · exact ⟨z1, fun t2 ht2 => q _ _ (same_upd ht2) ⟨t2, rfl, upd_same⟩⟩
      · exact absurd e7 (by omega)
      · exact absurd e6 n6
    have n6 : c % 8 ≠ 6 := fun e => c6 (decide_eq_true e)
    refine ⟨_, rfl, _, _, rfl, rfl, (by show (0 : Int) < _; decide), rfl, decide (c % 8 = 7), bl_I, ite2 (fun c7 => ?_) (fun c7 => ?_)⟩
    · have e7 := of_decide_eq_true c7
      rcases hcv with ⟨e6, _⟩ | ⟨_, rfl⟩ | ⟨_, n7, _⟩
      · exact absurd e6 n6
      · exact ⟨z1, fun t2 ht2 => q _ _ (same_upd ht2) ⟨t2, rfl, upd_same⟩⟩
      · exact absurd e7 n7
    have n7 : c % 8 ≠ 7 := fun e => c7 (decide_eq_true e)
    rcases hcv with ⟨e6, _⟩ | ⟨e7, _⟩ | ⟨_, _, ⟨z, ht, rfl⟩ | ⟨n, ht, rfl⟩ | ⟨m, ⟨u, b, xs, ht, hu, rfl⟩, rfl⟩⟩
    · exact absurd e6 n6
    · exact absurd e7 n7
    · exact ⟨_, rfl, t, _, _, _, rfl, rfl, SqT.of ht, rfl, rfl, false, rfl, iteF ⟨_, rfl, t, _, _, _, rfl, rfl, SqT.of ht, rfl, rfl, false, rfl, iteF ⟨_, rfl, q H _ (Same.refl _) ⟨t, rfl, ht⟩⟩⟩⟩
    · refine ⟨_, rfl, t, _, _, _, rfl, rfl, SqT.of ht, rfl, rfl, false, rfl, iteF ⟨_, rfl, t, _, _, _, rfl, rfl, SqT.of ht, rfl, rfl, true, rfl, iteT ⟨_, rfl, t, _, _, _, rfl, rfl, SqT.of ht, rfl, z2, fun t2 ht2 => ?_⟩⟩⟩
      exact q _ _ (same_upd ht2) ⟨t2, rfl, upd_same⟩
    · refine ⟨_, rfl, t, _, _, _, rfl, rfl, SqT.of ht, rfl, rfl, true, rfl, iteT ⟨_, rfl, t, _, _, _, rfl, rfl, SqT.of ht, rfl, u, _, rfl, .inr (SqT.of hu), z2, fun t2 ht2 => ?_⟩⟩
      exact q _ _ (same_upd ht2) ⟨t2, rfl, upd_same⟩
end
end K63

set_option Elab.async false
set_option linter.all false
set_option maxRecDepth 100000
set_option maxHeartbeats 4000000
set_option exponentiation.threshold 3000
/-! k63: what a pick and a call come to, by the law's own reckoning. Own work. -/
namespace K63
open PySem L2 Builtin.Str
def callL : List Out → Out
  | [] => .stuck
  | f :: r => callOut f r
theorem seq_err {o : Out} (ho : o = .stuck ∨ o = .on) : ∀ {os : List Out} {i : Nat}, (∀ j, j < i → ∃ a, os[j]? = some (.val a)) → os[i]? = some o → seqO os = .error o
  | [], i, _, h => by simp at h
  | x :: r, 0, _, h => by
    have e : x = o := by simpa using h
    subst e
    rcases ho with rfl | rfl <;> rfl
  | x :: r, i + 1, hv, h => by
    obtain ⟨a, ea⟩ := hv 0 (by omega)
    have e : x = .val a := by simpa using ea
    subst e
    rw [seq_val, seq_err ho (os := r) (i := i) (fun j hj => by simpa using hv (j + 1) (by omega)) (by simpa using h)]
theorem callL_end {os : List Out} {i : Nat} {o : Out} (ho : o = .stuck ∨ o = .on) (hv : ∀ j, j < i → ∃ a, os[j]? = some (.val a)) (h : os[i]? = some o) : callL os = o := by
  cases os with
  | nil => simp at h
  | cons f r =>
    cases i with
    | zero =>
      have e : f = o := by simpa using h
      subst e
      rcases ho with rfl | rfl <;> rfl
    | succ i =>
      obtain ⟨a, ea⟩ := hv 0 (by omega)
      have e : f = .val a := by simpa using ea
      subst e
      show (match seqO r with | .ok l => callO a l | .error e => e) = o
      rw [seq_err ho (os := r) (i := i) (fun j hj => by simpa using hv (j + 1) (by omega)) (by simpa using h)]
theorem all_vals : ∀ {os : List Out}, (∀ j, j < os.length → ∃ a, os[j]? = some (.val a)) → ∃ vs : List AV, os = vs.map Out.val
  | [], _ => ⟨[], rfl⟩
  | x :: r, h => by
    obtain ⟨a, ea⟩ := h 0 (by simp)
    have e : x = .val a := by simpa using ea
    subst e
    obtain ⟨vs, rfl⟩ := all_vals (os := r) (fun j hj => by simpa using h (j + 1) (by simpa using hj))
    exact ⟨a :: vs, rfl⟩
theorem seq_ok : ∀ vs : List AV, seqO (vs.map Out.val) = .ok vs
  | [] => rfl
  | a :: r => by
    show (match seqO (r.map Out.val) with | .ok l => Except.ok (a :: l) | .error e => .error e) = _
    rw [seq_ok r]
theorem callL_ok {a : AV} {l : List AV} : callL ((a :: l).map Out.val) = callO a l := call_end (seq_ok l)
theorem row_len : ∀ o : Out, ((rowVs o).length = 1 ↔ (o = .stuck ∨ o = .on))
  | .stuck => ⟨fun _ => .inl rfl, fun _ => rfl⟩
  | .on => ⟨fun _ => .inr rfl, fun _ => rfl⟩
  | .val (.num _) => ⟨(fun h => nomatch h), fun h => by rcases h with h | h <;> cases h⟩
  | .val (.op _) => ⟨(fun h => nomatch h), fun h => by rcases h with h | h <;> cases h⟩
  | .val (.fn _) => ⟨(fun h => nomatch h), fun h => by rcases h with h | h <;> cases h⟩
def spCalled : Sp := fun vs H Q _ => ∃ (D : Addr) (rs : List V) (os : List Out), vs = [.ref D] ∧ H D = some (.lst rs) ∧ Al (RowIn H) os rs ∧ os ≠ [] ∧ ∀ (H' : Hp) (r : V), Same H H' → RowIn H' (callL os) r → Q r H'
section
variable {P : Program} {w : World} {K : PySem.W.Frag} {mg : Str → Option Value} {base : Heap} {C op : Addr}
theorem scPicked : FnScope ["_law_values"] ["_law_values"] (defScope sPicked) := ⟨rfl, rfl, rfl, by decide +kernel, rfl, by decide +kernel, by decide +kernel⟩
theorem ok_picked {f : Addr} {fd : FuncData} (F : Fun K "_law_picked" "_law_picked" sPicked f fd) (T : MT K mg C op) : FnOk P w K mg base CX0 1 f fd ["_law_values"] spPicked := by
  refine F.ok scPicked (fun vs H Q E h => ?_) (fun cdv A outer s H vs Q E hr h => ?_)
  · obtain ⟨D, r0, r1, r2, o0, o1, o2, rfl, _⟩ := h; rfl
  · obtain ⟨D, r0, r1, r2, o0, o1, o2, rfl, hD, ⟨t0, rfl, h0⟩, h1, h2, q⟩ := h
    have z1 : 1 ≤ sizeLine := by rw [sizeLine_eq]; decide
    refine ⟨_, Z.suite (Z.pss_cons (Z.ps_if (Z.pt_cmpR op_eq (Z.pe_callB call_len_seq (by rfl) T.len bt_len (Z.pa_cons (Z.pe_ix ix_list (Z.pv 0) Z.pe_int (fun _ _ => rfl)) Z.pa_nil)) Z.pe_int (nomark _))
      (Z.pss_one (Z.ps_ret (Z.pe_ix ix_list (Z.pv 0) Z.pe_int (fun _ _ => rfl))))
      Z.pss_nil)
      (Z.pss_cons (Z.ps_if (Z.pt_cmpR op_ne (Z.pe_ix ix_tup (Z.pe_ix ix_list (Z.pv 0) Z.pe_int (fun _ _ => rfl)) Z.pe_int (fun _ _ => rfl)) Z.pe_str (nomark _))
      (Z.pss_one (Z.ps_ret (Z.pe_tup (Z.pa_cons Z.pe_str Z.pa_nil))))
      Z.pss_nil)
      (Z.pss_cons (Z.ps_if (Z.pt_cmpR op_eq (Z.pe_ix ix_tup (Z.pe_ix ix_list (Z.pv 0) Z.pe_int (fun _ _ => rfl)) Z.pe_int (fun _ _ => rfl)) Z.pe_int (nomark _))
      (Z.pss_one (Z.ps_ret (Z.pe_ix ix_list (Z.pv 0) Z.pe_int (fun _ _ => rfl))))
      Z.pss_nil)
      (Z.pss_one (Z.ps_ret (Z.pe_ix ix_list (Z.pv 0) Z.pe_int (fun _ _ => rfl))))))), ?_⟩
    refine ⟨_, rfl, D, _, _, _, rfl, rfl, SqL.of hD, atI_nat (j := 0) rfl, t0, _, rfl, .inr (SqT.of h0), rfl, ?_⟩
    cases o0 with
    | stuck => exact ⟨true, rfl, iteT ⟨_, rfl, D, _, _, _, rfl, rfl, SqL.of hD, atI_nat (j := 0) rfl, q H _ (Same.refl _) ⟨t0, rfl, h0⟩⟩⟩
    | on => exact ⟨true, rfl, iteT ⟨_, rfl, D, _, _, _, rfl, rfl, SqL.of hD, atI_nat (j := 0) rfl, q H _ (Same.refl _) ⟨t0, rfl, h0⟩⟩⟩
    | val a =>
      cases a with
      | num i =>
        refine ⟨false, rfl, iteF ⟨_, rfl, D, _, _, _, rfl, rfl, SqL.of hD, atI_nat (j := 0) rfl, t0, _, _, _, rfl, rfl, SqT.of h0, rfl, rfl, false, rfl, iteF ?_⟩⟩
        refine ⟨_, rfl, D, _, _, _, rfl, rfl, SqL.of hD, atI_nat (j := 0) rfl, t0, _, _, _, rfl, rfl, SqT.of h0, rfl, rfl, decide (i = 0), bl_I, ite2 (fun c1 => ?_) (fun c1 => ?_)⟩
        · refine ⟨_, rfl, D, _, _, _, rfl, rfl, SqL.of hD, atI_nat (j := 2) rfl, q H _ (Same.refl _) ?_⟩
          show RowIn H (if i = 0 then o2 else o1) _
          rw [if_pos (of_decide_eq_true c1)]; exact h2
        · refine ⟨_, rfl, D, _, _, _, rfl, rfl, SqL.of hD, atI_nat (j := 1) rfl, q H _ (Same.refl _) ?_⟩
          show RowIn H (if i = 0 then o2 else o1) _
          rw [if_neg (fun e => c1 (decide_eq_true e))]; exact h1
      | op n => exact ⟨false, rfl, iteF ⟨_, rfl, D, _, _, _, rfl, rfl, SqL.of hD, atI_nat (j := 0) rfl, t0, _, _, _, rfl, rfl, SqT.of h0, rfl, rfl, true, rfl, iteT ⟨z1, fun t2 ht2 => q _ _ (same_upd ht2) ⟨t2, rfl, upd_same⟩⟩⟩⟩
      | fn m => exact ⟨false, rfl, iteF ⟨_, rfl, D, _, _, _, rfl, rfl, SqL.of hD, atI_nat (j := 0) rfl, t0, _, _, _, rfl, rfl, SqT.of h0, rfl, rfl, true, rfl, iteT ⟨z1, fun t2 ht2 => q _ _ (same_upd ht2) ⟨t2, rfl, upd_same⟩⟩⟩⟩
abbrev NCl : List Str := ["_law_values", "_law_value_here", "_law_first"]
theorem scCalled : FnScope NCl ["_law_values"] (defScope sCalled) := ⟨rfl, rfl, rfl, by decide +kernel, rfl, by decide +kernel, by decide +kernel⟩
theorem ok_called {f : Addr} {fd : FuncData} (F : Fun K "_law_called" "_law_called" sCalled f fd) (T : MT K mg C op) : FnOk P w K mg base CX0 1 f fd ["_law_values"] spCalled := by
  refine F.ok scCalled (fun vs H Q E h => ?_) (fun cdv A outer s H vs Q E hr h => ?_)
  · obtain ⟨D, rs, os, rfl, _⟩ := h; rfl
  · obtain ⟨D, rs, os, rfl, hD, hal, hne, q⟩ := h
    have nd := scCalled.nd
    have z1 : 1 ≤ sizeLine := by rw [sizeLine_eq]; decide
    have z2 : 2 ≤ sizeLine := by rw [sizeLine_eq]; decide
    refine ⟨_, L2.pss_cons (L2.ps_for PassesOwn.never rfl (L2.pi_list (L2.pv 0)) (pg_name (i := 1) nd rfl (Or.inl rfl))
      (Z.suite (Z.pss_one (Z.ps_if (Z.pt_cmpR op_eq (Z.pe_callB call_len_seq (by rfl) T.len bt_len (Z.pa_cons (Z.pv 1) Z.pa_nil)) Z.pe_int (nomark _))
        (Z.pss_one (Z.ps_ret (Z.pv 1)))
        Z.pss_nil))))
      (Z.suite (Z.pss_cons (Z.ps_set (i := 2) nd rfl (Or.inl rfl) (Z.pe_ix ix_list (Z.pv 0) Z.pe_int (fun _ _ => rfl)))
      (Z.pss_cons (Z.ps_if (Z.pt (Z.pw_and (Z.pt_cmpR op_eq (Z.pe_ix ix_tup (Z.pv 2) Z.pe_int (fun _ _ => rfl)) Z.pe_str (nomark _)) (Z.pw_and1 (Z.pt_cmpR op_eq (Z.pe_ix ix_tup (Z.pv 2) Z.pe_int (fun _ _ => rfl)) (Z.pe_op op_sub (Z.pe_callB call_len_seq (by rfl) T.len bt_len (Z.pa_cons (Z.pv 0) Z.pa_nil)) Z.pe_int) (nomark _)))))
      (Z.pss_one (Z.ps_ret (Z.pe_tup (Z.pa_cons Z.pe_str Z.pa_nil))))
      Z.pss_nil)
      (Z.pss_cons (Z.ps_if (Z.pt (Z.pw_or (Z.pt_cmpR op_ne (Z.pe_ix ix_tup (Z.pv 2) Z.pe_int (fun _ _ => rfl)) Z.pe_str (nomark _)) (Z.pw_or (Z.pt_cmpR op_ne (Z.pe_callB call_len_seq (by rfl) T.len bt_len (Z.pa_cons (Z.pv 0) Z.pa_nil)) Z.pe_int (nomark _)) (Z.pw_or (Z.pt_cmpR op_ne (Z.pe_ix ix_tup (Z.pe_ix ix_list (Z.pv 0) Z.pe_int (fun _ _ => rfl)) Z.pe_int (fun _ _ => rfl)) Z.pe_str (nomark _)) (Z.pw_or1 (Z.pt_cmpR op_ne (Z.pe_ix ix_tup (Z.pe_ix ix_list (Z.pv 0) Z.pe_int (fun _ _ => rfl)) Z.pe_int (fun _ _ => rfl)) Z.pe_str (nomark _)))))))
      (Z.pss_one (Z.ps_ret (Z.pe_tup (Z.pa_cons Z.pe_str Z.pa_nil))))
      Z.pss_nil)
      (Z.pss_cons (Z.ps_if (Z.pt_cmpR op_eq (Z.pe_ix ix_tup (Z.pv 2) Z.pe_int (fun _ _ => rfl)) Z.pe_str (nomark _))
      (Z.pss_one (Z.ps_ret (Z.pe_tup (Z.pa_cons Z.pe_str (Z.pa_cons (Z.pe_op op_add (Z.pe_ix ix_tup (Z.pe_ix ix_list (Z.pv 0) Z.pe_int (fun _ _ => rfl)) Z.pe_int (fun _ _ => rfl)) (Z.pe_ix ix_tup (Z.pe_ix ix_list (Z.pv 0) Z.pe_int (fun _ _ => rfl)) Z.pe_int (fun _ _ => rfl))) Z.pa_nil)))))
      Z.pss_nil)
      (Z.pss_cons (Z.ps_if (Z.pt_cmpR op_eq (Z.pe_ix ix_tup (Z.pv 2) Z.pe_int (fun _ _ => rfl)) Z.pe_str (nomark _))
      (Z.pss_one (Z.ps_ret (Z.pe_tup (Z.pa_cons Z.pe_str (Z.pa_cons (Z.pe_op op_sub (Z.pe_ix ix_tup (Z.pe_ix ix_list (Z.pv 0) Z.pe_int (fun _ _ => rfl)) Z.pe_int (fun _ _ => rfl)) (Z.pe_ix ix_tup (Z.pe_ix ix_list (Z.pv 0) Z.pe_int (fun _ _ => rfl)) Z.pe_int (fun _ _ => rfl))) Z.pa_nil)))))
      Z.pss_nil)
      (Z.pss_one (Z.ps_ret (Z.pe_tup (Z.pa_cons Z.pe_str (Z.pa_cons (Z.pe_callTy call_int1 (by rfl) T.int bt_int (Z.pa_cons (Z.pe_cmpR op_lt (Z.pe_ix ix_tup (Z.pe_ix ix_list (Z.pv 0) Z.pe_int (fun _ _ => rfl)) Z.pe_int (fun _ _ => rfl)) (Z.pe_ix ix_tup (Z.pe_ix ix_list (Z.pv 0) Z.pe_int (fun _ _ => rfl)) Z.pe_int (fun _ _ => rfl)) (nomark _)) Z.pa_nil)) Z.pa_nil))))))))))), ?_⟩
    refine ⟨_, rfl, D, rfl, ⟨_, SqL.of hD⟩, for_list (xs := rs) (fun i σ H' => (∃ v1, σ = [some (.ref D), v1, none]) ∧ H' = H ∧ ∀ j, j < i → ∃ a, os[j]? = some (.val a))
      ⟨⟨_, rfl⟩, rfl, fun j hj => absurd hj (by omega)⟩ (fun i σ H' _ hP => by rw [hP.2.1]; exact SqL.of hD) ?_ ?_⟩
    · rintro i v σ H' hi ⟨⟨v1, rfl⟩, rfl, hpre⟩
      obtain ⟨o, eo, ⟨t, rfl, ht⟩⟩ := hal.at hi
      refine ⟨_, rfl, t, _, rfl, .inr (SqT.of ht), rfl, decide ((rowVs o).length = 1), ?_, ite2 (fun c1 => ?_) (fun c1 => ?_)⟩
      · rw [dec_I, decide_eq_decide.mpr (show (((rowVs o).length : Nat) : Int) = 1 ↔ (rowVs o).length = 1 from by omega)]
      · have ho := (row_len o).mp (of_decide_eq_true c1)
        exact ⟨_, rfl, q H' _ (Same.refl _) (by rw [callL_end ho hpre eo]; exact ⟨t, rfl, ht⟩)⟩
      · refine ⟨⟨_, rfl⟩, rfl, fun j hj => ?_⟩
        by_cases e : j = i
        · subst e
          cases o with
          | val a => exact ⟨a, eo⟩
          | stuck => exact absurd (decide_eq_true rfl) c1
          | on => exact absurd (decide_eq_true rfl) c1
        · exact hpre j (by omega)
    · rintro σ H' ⟨⟨v1, rfl⟩, rfl, hpre⟩
      rw [hal.1] at hpre
      obtain ⟨vs, rfl⟩ := all_vals hpre
      cases vs with
      | nil => exact absurd rfl hne
      | cons a l =>
        rw [callL_ok] at q
        obtain ⟨v0, rs', rfl, ⟨t0, rfl, h0⟩, hal'⟩ := Al.uncons (xs := l.map Out.val) hal
        have hlen : (V.ref t0 :: rs').length = l.length + 1 := by rw [List.length_cons, hal'.1, List.length_map]
        refine ⟨_, rfl, D, _, _, _, rfl, rfl, SqL.of hD, atI_nat (j := 0) rfl, ?_⟩
        have stuckRet : callO a l = .stuck → ∀ t, H' t = none → Q (.ref t) (upd H' t (.tup [.str "stuck"])) := fun e t ht => q _ _ (same_upd ht) (by rw [e]; exact ⟨t, rfl, upd_same⟩)
        cases a with
        | num i =>
          refine ⟨_, rfl, t0, _, _, _, rfl, rfl, SqT.of h0, rfl, rfl, false, rfl, iteF (iteF ?_)⟩
          exact ⟨_, rfl, t0, _, _, _, rfl, rfl, SqT.of h0, rfl, rfl, true, rfl, iteT (iteT ⟨z1, stuckRet rfl⟩)⟩
        | fn m =>
          refine ⟨_, rfl, t0, _, _, _, rfl, rfl, SqT.of h0, rfl, rfl, true, rfl, iteT ?_⟩
          refine ⟨_, rfl, t0, _, _, _, rfl, rfl, SqT.of h0, rfl, _, rfl, D, _, rfl, .inl (SqL.of hD), _, _, rfl, rfl, rfl, decide (m = l.length), ?_, ite2 (fun c1 => ?_) (fun c1 => ?_)⟩
          · show V.bl (decide (V.int (m : Int) = V.int (((V.ref t0 :: rs').length : Int) - 1))) = _
            rw [dec_I, hlen, decide_eq_decide.mpr (show (m : Int) = ((l.length + 1 : Nat) : Int) - 1 ↔ m = l.length from by omega)]
          · refine ⟨z1, fun t ht => q _ _ (same_upd ht) ?_⟩
            show RowIn _ (if m = l.length then _ else _) _
            rw [if_pos (of_decide_eq_true c1)]; exact ⟨t, rfl, upd_same⟩
          · refine ⟨_, rfl, t0, _, _, _, rfl, rfl, SqT.of h0, rfl, rfl, true, rfl, iteT (iteT ⟨z1, stuckRet ?_⟩)⟩
            show (if m = l.length then _ else _) = _
            rw [if_neg (fun e => c1 (decide_eq_true e))]
        | op n =>
          refine ⟨_, rfl, t0, _, _, _, rfl, rfl, SqT.of h0, rfl, rfl, false, rfl, iteF (iteF ?_)⟩
          refine ⟨_, rfl, t0, _, _, _, rfl, rfl, SqT.of h0, rfl, rfl, false, rfl, iteF ?_⟩
          refine ⟨_, rfl, D, _, rfl, .inl (SqL.of hD), rfl, !decide (l.length = 2), ?_, ?_⟩
          · show V.bl (!decide (V.int (((V.ref t0 :: rs').length : Nat) : Int) = V.int 3)) = _
            rw [dec_I, hlen, decide_eq_decide.mpr (show ((l.length + 1 : Nat) : Int) = 3 ↔ l.length = 2 from by omega)]
          by_cases h2 : l.length = 2
          · rw [decide_eq_true h2]
            refine iteF ?_
            obtain ⟨a1, a2, rfl⟩ : ∃ a1 a2, l = [a1, a2] := by
              match l, h2 with
              | [a1, a2], _ => exact ⟨a1, a2, rfl⟩
            obtain ⟨v1', rs1, rfl, ⟨t1, rfl, h1⟩, hal1⟩ := Al.uncons (xs := [Out.val a2]) hal'
            obtain ⟨v2', rs2, rfl, ⟨t2, rfl, h2'⟩, hal2⟩ := Al.uncons (xs := []) hal1
            have er := hal2.nil_of
            subst er
            have bad : (∀ x y, ¬ (a1 = .num x ∧ a2 = .num y)) → callO (.op n) [a1, a2] = .stuck := fun hn => by
              show reckR (.op n) [a1, a2] = _
              cases a1 <;> cases a2 <;> first | rfl | exact absurd ⟨rfl, rfl⟩ (hn _ _)
            cases a1 with
            | op n1 => exact ⟨_, rfl, D, _, _, _, rfl, rfl, SqL.of hD, atI_nat (j := 1) rfl, t1, _, _, _, rfl, rfl, SqT.of h1, rfl, rfl, true, rfl, iteT (iteT ⟨z1, stuckRet (bad fun x y e => nomatch e.1)⟩)⟩
            | fn n1 => exact ⟨_, rfl, D, _, _, _, rfl, rfl, SqL.of hD, atI_nat (j := 1) rfl, t1, _, _, _, rfl, rfl, SqT.of h1, rfl, rfl, true, rfl, iteT (iteT ⟨z1, stuckRet (bad fun x y e => nomatch e.1)⟩)⟩
            | num x =>
              refine ⟨_, rfl, D, _, _, _, rfl, rfl, SqL.of hD, atI_nat (j := 1) rfl, t1, _, _, _, rfl, rfl, SqT.of h1, rfl, rfl, false, rfl, iteF ?_⟩
              cases a2 with
              | op n1 => exact ⟨_, rfl, D, _, _, _, rfl, rfl, SqL.of hD, atI_nat (j := 2) rfl, t2, _, _, _, rfl, rfl, SqT.of h2', rfl, rfl, true, rfl, iteT ⟨z1, stuckRet (bad fun x y e => nomatch e.2)⟩⟩
              | fn n1 => exact ⟨_, rfl, D, _, _, _, rfl, rfl, SqL.of hD, atI_nat (j := 2) rfl, t2, _, _, _, rfl, rfl, SqT.of h2', rfl, rfl, true, rfl, iteT ⟨z1, stuckRet (bad fun x y e => nomatch e.2)⟩⟩
              | num y =>
                refine ⟨_, rfl, D, _, _, _, rfl, rfl, SqL.of hD, atI_nat (j := 2) rfl, t2, _, _, _, rfl, rfl, SqT.of h2', rfl, rfl, false, rfl, iteF ?_⟩
                have q' : ∀ (H'' : Hp) (t : Addr), Same H' H'' → H'' t = some (.tup [.str "num", .int (cal n x y)]) → Q (.ref t) H'' := fun H'' t s' ht => q H'' _ s' ⟨t, rfl, ht⟩
                unfold cal at q'
                have i1 : atI [V.ref t0, V.ref t1, V.ref t2] 1 = some (.ref t1) := atI_nat (j := 1) rfl
                have i2 : atI [V.ref t0, V.ref t1, V.ref t2] 2 = some (.ref t2) := atI_nat (j := 2) rfl
                refine ⟨_, rfl, t0, _, _, _, rfl, rfl, SqT.of h0, rfl, rfl, decide (n = "add"), by rw [dec_S], ite2 (fun c1 => ?_) (fun c1 => ?_)⟩
                · rw [if_pos (of_decide_eq_true c1)] at q'
                  exact ⟨_, rfl, D, _, _, _, rfl, rfl, SqL.of hD, i1, t1, _, _, _, rfl, rfl, SqT.of h1, rfl, _, rfl, D, _, _, _, rfl, rfl, SqL.of hD, i2, t2, _, _, _, rfl, rfl, SqT.of h2', rfl, _, _, rfl, rfl, z2, fun t ht => q' _ t (same_upd ht) upd_same⟩
                · rw [if_neg (fun z => c1 (decide_eq_true z))] at q'
                  refine ⟨_, rfl, t0, _, _, _, rfl, rfl, SqT.of h0, rfl, rfl, decide (n = "sub"), by rw [dec_S], ite2 (fun c2 => ?_) (fun c2 => ?_)⟩
                  · rw [if_pos (of_decide_eq_true c2)] at q'
                    exact ⟨_, rfl, D, _, _, _, rfl, rfl, SqL.of hD, i1, t1, _, _, _, rfl, rfl, SqT.of h1, rfl, _, rfl, D, _, _, _, rfl, rfl, SqL.of hD, i2, t2, _, _, _, rfl, rfl, SqT.of h2', rfl, _, _, rfl, rfl, z2, fun t ht => q' _ t (same_upd ht) upd_same⟩
                  · rw [if_neg (fun z => c2 (decide_eq_true z))] at q'
                    refine ⟨_, rfl, D, _, _, _, rfl, rfl, SqL.of hD, i1, t1, _, _, _, rfl, rfl, SqT.of h1, rfl, _, rfl, D, _, _, _, rfl, rfl, SqL.of hD, i2, t2, _, _, _, rfl, rfl, SqT.of h2', rfl, _, _, rfl, rfl, .inr ⟨decide (x < y), rfl, z2, fun t ht => ?_⟩⟩
                    refine q' _ t (same_upd ht) ?_
                    rw [upd_same]
                    by_cases hxy : x < y
                    · rw [decide_eq_true hxy, if_pos hxy]; rfl
                    · rw [decide_eq_false hxy, if_neg hxy]; rfl
          · rw [decide_eq_false h2]
            exact iteT (iteT ⟨z1, stuckRet (reck_len h2)⟩)
end
end K63

set_option Elab.async false
set_option linter.all false
set_option maxRecDepth 100000
set_option maxHeartbeats 4000000
set_option exponentiation.threshold 3000
/-! k63: items shown one by one, what is told; the law's second half. Own work. -/
namespace K63
open PySem L2 Builtin.Str
def spLaw (K : PySem.W.Frag) : Sp := fun vs H Q _ => ∃ (a : Addr) (ns : List Int), vs = [.ref a] ∧ SqL K H a (ns.map V.int) ∧ ns.length ≤ 63 ∧ ∀ H', Q (.bl true) H'
theorem hud_of {A : Around} {k d : Nat} (hr : Room k A) (h : d ≤ 60) : A.units + 1 + d < cLine := by have := hr.un; omega
theorem Its.nil {H : Hp} : Its H [] [] := ⟨rfl, fun i it e => by simp at e⟩
theorem Its.tup {H H' : Hp} {its : List It} {iv : List V} (h : Its H its iv) (s : Tup H H') : Its H' its iv := ⟨h.1, fun i it e => by
  obtain ⟨v, e1, r⟩ := h.2 i it e
  exact ⟨v, e1, ItIn.tup s r⟩⟩
theorem knOf_snoc (its : List It) (it : It) : knOf (its ++ [it]) = step (knOf its) it := by
  unfold knOf; rw [List.foldl_append]; rfl
theorem Its.snoc {H : Hp} {its : List It} {iv : List V} (h : Its H its iv) {it : It} {v : V} (r : ItIn H (knOf its) it v) : Its H (its ++ [it]) (iv ++ [v]) := by
  refine ⟨by rw [List.length_append, List.length_append, h.1]; rfl, fun i b e => ?_⟩
  by_cases hi : i < its.length
  · rw [List.getElem?_append_left hi] at e
    obtain ⟨u, e1, r1⟩ := h.2 i b e
    refine ⟨u, by rw [List.getElem?_append_left (by rw [h.1]; exact hi)]; exact e1, ?_⟩
    rw [List.take_append_of_le_length (by omega)]
    exact r1
  · have hi2 : i = its.length := by
      have := (List.getElem?_eq_some_iff.mp e).1
      rw [List.length_append, List.length_singleton] at this
      omega
    subst hi2
    rw [List.getElem?_append_right (Nat.le_refl _), Nat.sub_self] at e
    have e' : it = b := by injection e
    subst e'
    refine ⟨v, by rw [← h.1, List.getElem?_append_right (Nat.le_refl _), Nat.sub_self]; rfl, ?_⟩
    rw [List.take_append_of_le_length (Nat.le_refl _), List.take_length]
    exact r
abbrev shows (zs : List Int) : List It := zs.map fun z => (none, Out.val (.num z))
theorem kn_shows : ∀ zs : List Int, knOf (shows zs) = kn0 := by
  intro zs
  have key : ∀ (l : List Int) (kn : Kn), (l.map fun z => ((none, Out.val (.num z)) : It)).foldl step kn = kn := by
    intro l
    induction l with
    | nil => intro kn; rfl
    | cons z r ih => intro kn; exact ih kn
  exact key zs _
theorem run_shows (zs : List Int) (r : List It) : runP (shows zs ++ r) = (zs.map fun z => Out.val (.num z)) ++ runP r := by
  induction zs with
  | nil => rfl
  | cons z zs ih => show Out.val (.num z) :: runP (shows zs ++ r) = _; rw [ih]; rfl
/-- all items -/
abbrev allIts (zs : List Int) (o : Out) (p : Int) : List It := shows zs ++ [(none, o)] ++ [(none, .val (.num 5))] ++ [(some p, .val (.op "sub"))] ++ [(none, .val (.op "sub"))]
def tellP (zs : List Int) (o : Out) : List Out := (zs.map fun z => Out.val (.num z)) ++ [o] ++ (match o with
  | .val _ => [.val (.num 5), .val (.op "sub")]
  | _ => [])
theorem run_all (zs : List Int) (o : Out) (p : Int) : runP (allIts zs o p) = tellP zs o := by
  have e : allIts zs o p = shows zs ++ ((none, o) :: (none, .val (.num 5)) :: (some p, .val (.op "sub")) :: (none, .val (.op "sub")) :: []) := by simp [allIts]
  rw [e, run_shows]
  unfold tellP
  rw [List.append_assoc]
  cases o with
  | val a => rfl
  | stuck => rfl
  | on => rfl
theorem row_flat : ∀ o : Out, (rowVs o).all flatV = true
  | .stuck => rfl
  | .on => rfl
  | .val (.num _) => rfl
  | .val (.op _) => rfl
  | .val (.fn _) => rfl
theorem self0 {K : PySem.W.Frag} {H : Hp} : ∀ {xs : List V}, xs.all flatV = true → Paired (Alk K H 0) xs xs
  | [], _ => .nil
  | x :: r, h => by
    rw [List.all_cons, Bool.and_eq_true] at h
    exact .cons ⟨rfl, .inl h.1⟩ (self0 h.2)
theorem rows_alk {K : PySem.W.Frag} {H : Hp} : ∀ {os : List Out} {rs ds : List V}, Al (RowIn H) os rs → Al (RowIn H) os ds → Paired (Alk K H 1) rs ds
  | [], rs, ds, h1, h2 => by
    have e1 := h1.nil_of
    have e2 := h2.nil_of
    subst e1 e2
    exact .nil
  | o :: os, rs, ds, h1, h2 => by
    obtain ⟨v1, r1, rfl, ⟨t1, rfl, g1⟩, k1⟩ := h1.uncons
    obtain ⟨v2, r2, rfl, ⟨t2, rfl, g2⟩, k2⟩ := h2.uncons
    exact .cons (.inr ⟨t1, t2, _, _, rfl, rfl, .inl ⟨SqT.of g1, SqT.of g2⟩, self0 (row_flat o)⟩) (rows_alk k1 k2)
section
variable {P : Program} {w : World} {K : PySem.W.Frag} {mg : Str → Option Value} {base : Heap} {C op : Addr}
abbrev NL : List Str := ["_law_script", "_law_head", "_law_base", "_law_cells", "_law_cores", "_law_values", "_law_core_here", "_law_value_here", "_law_k", "_law_due", "_law_items", "_law_found", "_law_row"]
theorem scLaw : FnScope NL ["_law_script"] (defScope sLaw) := ⟨rfl, rfl, rfl, by decide +kernel, rfl, by decide +kernel, by decide +kernel⟩
/-- the last of the law: all is run, and told as it is due -/
theorem law_end {f fR : Addr} {fdR : FuncData} {cdv : Value} {A : Around} {outer : List Env} {s : Shared} {H : Hp} {E : XK} {Q : VK} (T : MT K mg C op) (hr : Room 5 (cxOf CX0 P w K mg base NL "law" (defScope sLaw) f cdv A outer s H E).nox.A)
    (kR : PySem.W.keepIn K (.ref fR) = true) (bR : Binds K fdR ["items", "fuel"] []) (mR : mg "run" = some (.ref fR)) (GR : FnOk P w K mg base CX0 5 fR fdR ["items", "fuel"] spRun) (q : ∀ H', Q (.bl true) H') :
    ∃ t : TS, PSs (cxOf CX0 P w K mg base NL "law" (defScope sLaw) f cdv A outer s H E).nox ((defBody sLaw).drop 14) t ∧
      ∀ (σ0 σ1 σ2 σ3 σ4 σ5 σ6 σ7 σ8 : Option V) (Du It : Addr) (dv iv : List V) (zs : List Int) (o : Out) (p : Int) (H1 : Hp), H1 Du = some (.lst dv) → Al (RowIn H1) (tellP zs o) dv → H1 It = some (.lst iv) → Its H1 (allIts zs o p) iv → zs.length ≤ 10 →
        t { nx := fun _ H' => Q .non H', rt := Q } [σ0, σ1, σ2, σ3, σ4, σ5, σ6, σ7, σ8, some (.ref Du), some (.ref It), none, none] H1 := by
  have nd := scLaw.nd
  have hu2 := hud_of hr (d := 1) (by decide)
  refine ⟨_, (pss_cons (ps_set (i := 11) nd rfl (Or.inl rfl) (pe_call GR hr (by rfl) mR kR bR .nil pass0 (pa_cons (pe_callTy call_list_of (by rfl) T.list bt_list (pa_cons (pv 10) pa_nil)) (pa_cons pe_int pa_nil))))
      (pss_cons (ps_if (PW.pt (pw_or (pt_not (pt_val (pe_callB call_isI (by rfl) T.isi bt_isinstance (pa_cons (pv 11) (pa_cons (pe_bltn (v := .ty "list") (by rfl) T.list bt_list rfl) pa_nil))))) (pw_or1 (pt_cmpR (op_neA hu2) (pv 11) (pv 9) (nomark _)))))
      (pss_one (ps_ret pe_bl))
      pss_nil)
      (pss_cons (ps_for PassesOwn.never rfl (pi_list (pv 11)) (pg_name (i := 12) nd rfl (Or.inl rfl))
      (pss_one (ps_if (PW.pt (pw_or (pt_not (pt_val (pe_callB call_isI (by rfl) T.isi bt_isinstance (pa_cons (pv 12) (pa_cons (pe_bltn (v := .ty "tuple") (by rfl) T.tuple bt_tuple' rfl) pa_nil))))) (pw_or1 (PW.pt (pw_and (pt_cmpR op_eq (pe_callB call_len_seq (by rfl) T.len bt_len (pa_cons (pv 12) pa_nil)) pe_int (nomark _)) (pw_and1 (pt_val (pe_callB call_isI (by rfl) T.isi bt_isinstance (pa_cons (pe_ix ix_tup (pv 12) pe_int (fun _ _ => rfl)) (pa_cons (pe_bltn (v := .ty "bool") (by rfl) T.bool bt_bool rfl) pa_nil))))))))))
        (pss_one (ps_ret pe_bl))
        pss_nil)))
      (pss_one (ps_ret pe_bl))))), ?_⟩
  intro σ0 σ1 σ2 σ3 σ4 σ5 σ6 σ7 σ8 Du It dv iv zs o p H1 hDu aDu hIt hIts hzl
  refine ⟨_, rfl, It, _, rfl, .inl (SqL.of hIt), fun L hL => ?_⟩
  have s1 := same_upd (o := .lst iv) hL
  refine ⟨L, allIts zs o p, iv, rfl, upd_same, hIts.tup (Tup.of s1), by simp [allIts]; omega, fun H3 D rs s3 hD hD3 aD => ?_⟩
  rw [run_all] at aD
  have s13 := s1.trans s3
  have hDu3 := s13 _ _ hDu
  have aDu3 := aDu.mono fun _ _ r => RowIn.tup r (Tup.of s13)
  refine ⟨_, rfl, .ref D, .ty "list", _, _, true, rfl, rfl, TyOf.lst hD3, rfl, ⟨_, rfl, iteF ?_⟩⟩
  refine ⟨_, rfl, _, rfl, D, Du, _, _, rfl, rfl, .inr ⟨SqL.of hD3, SqL.of hDu3⟩, rows_alk aD aDu3, false, rfl, iteF ?_⟩
  refine ⟨_, rfl, D, rfl, ⟨_, SqL.of hD3⟩, for_list (xs := rs) (fun i σ H' => (∃ v, σ = [σ0, σ1, σ2, σ3, σ4, σ5, σ6, σ7, σ8, some (.ref Du), some (.ref It), some (.ref D), v]) ∧ H' = H3)
    ⟨⟨_, rfl⟩, rfl⟩ (fun i σ H' _ hP => by rw [hP.2]; exact SqL.of hD3) ?_ ?_⟩
  · rintro i v σ H' hi ⟨⟨v', rfl⟩, rfl⟩
    obtain ⟨o', _, ⟨t, rfl, ht⟩⟩ := aD.at hi
    refine ⟨_, rfl, .ref t, .ty "tuple", _, _, true, rfl, rfl, TyOf.tup ht, rfl, ⟨_, rfl, iteF ?_⟩⟩
    refine ⟨_, rfl, t, _, rfl, .inr (SqT.of ht), rfl, ?_⟩
    have fin : (∃ v, [σ0, σ1, σ2, σ3, σ4, σ5, σ6, σ7, σ8, some (V.ref Du), some (.ref It), some (.ref D), some (.ref t)] = [σ0, σ1, σ2, σ3, σ4, σ5, σ6, σ7, σ8, some (.ref Du), some (.ref It), some (.ref D), v]) ∧ H' = H' := ⟨⟨_, rfl⟩, rfl⟩
    cases o' with
    | stuck => exact ⟨false, rfl, iteF (iteF fin)⟩
    | on => exact ⟨false, rfl, iteF (iteF fin)⟩
    | val a =>
      cases a with
      | num z => exact ⟨true, rfl, iteT ⟨_, rfl, t, _, _, _, rfl, rfl, SqT.of ht, rfl, .int z, .ty "bool", _, _, false, rfl, rfl, TyOf.int _, rfl, ⟨_, rfl, iteF fin⟩⟩⟩
      | op n => exact ⟨true, rfl, iteT ⟨_, rfl, t, _, _, _, rfl, rfl, SqT.of ht, rfl, .str n, .ty "bool", _, _, false, rfl, rfl, TyOf.str _, rfl, ⟨_, rfl, iteF fin⟩⟩⟩
      | fn m => exact ⟨true, rfl, iteT ⟨_, rfl, t, _, _, _, rfl, rfl, SqT.of ht, rfl, .int (m : Int), .ty "bool", _, _, false, rfl, rfl, TyOf.int _, rfl, ⟨_, rfl, iteF fin⟩⟩⟩
  · rintro σ H' ⟨⟨v', rfl⟩, rfl⟩
    exact q _
end
end K63

set_option Elab.async false
set_option linter.all false
set_option maxRecDepth 100000
set_option maxHeartbeats 4000000
set_option exponentiation.threshold 3000
/-! k63: the law's items. Own work. -/
namespace K63
open PySem L2 Builtin.Str
section
variable {P : Program} {w : World} {K : PySem.W.Frag} {mg : Str → Option Value} {base : Heap} {C op : Addr}
theorem lcLaw3 : LcS (defScope sLaw).names [(".0", .local), ("_law_k", .local)] NL [false, false, false, false, false, false, false, false, false, false, false, false, false] := ⟨by decide +kernel, by decide +kernel, by decide +kernel, by decide +kernel, by decide +kernel, rfl⟩
theorem lcLaw4 : LcS (defScope sLaw).names [(".0", .local), ("_law_number_here", .local)] NL [false, false, false, false, false, false, false, false, false, false, false, false, false] := ⟨by decide +kernel, by decide +kernel, by decide +kernel, by decide +kernel, by decide +kernel, rfl⟩
theorem ndLaw4 : (["_law_script", "_law_head", "_law_base", "_law_cells", "_law_cores", "_law_values", "_law_core_here", "_law_value_here", "_law_k", "_law_due", "_law_items", "_law_found", "_law_row", "_law_number_here"] : List Str).Nodup := by decide +kernel
theorem law_mid {f fR : Addr} {fdR : FuncData} {cdv : Value} {A : Around} {outer : List Env} {s : Shared} {H : Hp} {E : XK} {Q : VK} (T : MT K mg C op) (hr : Room 5 (cxOf CX0 P w K mg base NL "law" (defScope sLaw) f cdv A outer s H E).nox.A)
    (kR : PySem.W.keepIn K (.ref fR) = true) (bR : Binds K fdR ["items", "fuel"] []) (mR : mg "run" = some (.ref fR)) (GR : FnOk P w K mg base CX0 5 fR fdR ["items", "fuel"] spRun) (q : ∀ H', Q (.bl true) H') :
    ∃ t : TS, PSs (cxOf CX0 P w K mg base NL "law" (defScope sLaw) f cdv A outer s H E).nox ((defBody sLaw).drop 9) t ∧
      ∀ (hd b : Int) (σ0 σ3 σ4 σ5 σ8 : Option V) (tc : Addr) (rv : V) (o : Out) (H1 : Hp), (∃ n d, d ≤ 400 ∧ Ev kn0 H1 (.ref tc) n d o) → RowIn H1 o rv →
        t { nx := fun _ H' => Q .non H', rt := Q } [σ0, some (.int hd), some (.int b), σ3, σ4, σ5, some (.ref tc), some rv, σ8, none, none, none, none] H1 := by
  obtain ⟨tE, hE, hend⟩ := law_end (P := P) (w := w) (base := base) (f := f) (cdv := cdv) (A := A) (outer := outer) (s := s) (H := H) (E := E) (Q := Q) T hr kR bR mR GR q
  have nd := scLaw.nd
  have z1 : 1 ≤ sizeLine := by rw [sizeLine_eq]; decide
  have z2 : 2 ≤ sizeLine := by rw [sizeLine_eq]; decide
  have z3 : 3 ≤ sizeLine := by rw [sizeLine_eq]; decide
  have z4 : 4 ≤ sizeLine := by rw [sizeLine_eq]; decide
  refine ⟨_, (pss_cons (ps_lc (i := 9) (ext := []) nd rfl rfl lcLaw3 rfl (pi_range1 rfl T.range (pa_cons (pe_op op_mod (pe_op op_fdiv (pv 1) pe_int) pe_int) pa_nil))
          ⟨fun _ _ _ _ _ => (pg_name (i := 8) nd rfl (Or.inl rfl) (.inr rfl)), fun _ _ _ _ _ => pts_nil, fun _ _ _ _ _ => (pe_tup (pa_cons pe_str (pa_cons (pe_op op_sub pe_int (pv 8)) pa_nil)))⟩)
      (pss_cons (ps_set (i := 10) nd rfl (Or.inl rfl) (pe_op op_cat (pe_lc (ext := ["_law_number_here"]) lcLaw4 rfl (pi_list (pv 9))
          ⟨fun _ _ _ _ _ => (pg_name (i := 13) ndLaw4 rfl (Or.inl rfl) (.inr rfl)), fun _ _ _ _ _ => pts_nil, fun _ _ _ _ _ => (pe_tup (pa_cons pe_str (pa_cons (pv 13) pa_nil)))⟩) (pe_lst (pa_cons (pe_tup (pa_cons pe_str (pa_cons (pv 6) pa_nil))) pa_nil))))
      (pss_cons (Z.S.h (Z.ps_set (i := 10) nd rfl (Or.inl rfl) (Z.pe_op op_cat (Z.pv 10) (Z.pe_lst (Z.pa_cons (Z.pe_tup (Z.pa_cons Z.pe_str (Z.pa_cons (Z.pe_tup (Z.pa_cons Z.pe_str (Z.pa_cons Z.pe_int Z.pa_nil))) Z.pa_nil))) (Z.pa_cons (Z.pe_tup (Z.pa_cons Z.pe_str (Z.pa_cons (Z.pe_op op_add (Z.pv 2) Z.pe_int) (Z.pa_cons Z.pe_str (Z.pa_cons (Z.pe_tup (Z.pa_cons Z.pe_str (Z.pa_cons Z.pe_str Z.pa_nil))) Z.pa_nil))))) (Z.pa_cons (Z.pe_tup (Z.pa_cons Z.pe_str (Z.pa_cons (Z.pe_tup (Z.pa_cons Z.pe_str (Z.pa_cons (Z.pe_op op_add (Z.pv 2) Z.pe_int) Z.pa_nil))) Z.pa_nil))) Z.pa_nil)))))))
      (pss_cons (ps_expr (pe_bm PySem.F.plainAttrs_list PySem.F.slot_list_append PySem.F.type_list_append mt_append (pv 9) (pa_cons (pv 7) pa_nil)))
      (pss_cons (ps_if (pt_cmpR op_eq (pe_callB call_len_seq (by rfl) T.len bt_len (pa_cons (pv 7) pa_nil)) pe_int (nomark _))
      (pss_one (Z.S.h (Z.ps_set (i := 9) nd rfl (Or.inl rfl) (Z.pe_op op_cat (Z.pv 9) (Z.pe_lst (Z.pa_cons (Z.pe_tup (Z.pa_cons Z.pe_str (Z.pa_cons Z.pe_int Z.pa_nil))) (Z.pa_cons (Z.pe_tup (Z.pa_cons Z.pe_str (Z.pa_cons Z.pe_str Z.pa_nil))) Z.pa_nil)))))))
      pss_nil) hE))))), ?_⟩
  intro hd b σ0 σ3 σ4 σ5 σ8 tc rv o H1 hev hrow
  obtain ⟨tr, rfl, htr⟩ := id hrow
  have g0 := Int.emod_nonneg (hd / 8) (show (4 : Int) ≠ 0 by decide)
  have g1 := Int.emod_lt_of_pos (hd / 8) (show (0 : Int) < 4 by decide)
  refine ⟨_, rfl, _, _, rfl, rfl, ⟨by decide, by decide⟩, _, _, rfl, rfl, (by show (0 : Int) < _; decide), _, rfl, by omega, by omega, fun Du hDu => ?_⟩
  refine lc_rng (lo := 0) (n := (hd / 8 % 4).toNat) (fun k ys σ' H' => (∃ v, σ' = [none, none, none, none, none, none, none, none, v, none, none, none, none]) ∧ Same H1 H' ∧ H' Du = some (.lst ys) ∧ ∃ zs : List Int, zs.length = k ∧ Al (RowIn H') (zs.map fun z => Out.val (.num z)) ys)
    ⟨⟨_, rfl⟩, same_upd hDu, upd_same, [], rfl, Al.nil⟩ ?_ ?_
  · rintro k ys σ' H' hk ⟨⟨v, rfl⟩, sH, hDy, zs, hzl, hal⟩
    unfold gName
    refine yes_if ?_
    refine ⟨_, rfl, _, _, rfl, rfl, z2, fun t ht => ?_⟩
    have st := same_upd (o := .tup [.str "num", .int (0 - (0 + (k : Int)))]) ht
    have nDt : Du ≠ t := fun e => by rw [← e, hDy] at ht; cases ht
    have hDt := st _ _ hDy
    have tk : Tup H' (upd (upd H' t (.tup [.str "num", .int (0 - (0 + (k : Int)))])) Du (.lst (ys ++ [.ref t]))) := fun e xs qe => by rw [upd_ne (kind_ne (st _ _ qe) hDt (fun z => nomatch z))]; exact st _ _ qe
    refine ⟨hDt, by rw [hal.1, List.length_map, hzl, sizeLine_eq]; omega, Beh.of hk ⟨⟨_, rfl⟩, fun c e he => ?_, upd_same, zs ++ [0 - (0 + (k : Int))], by rw [List.length_append, hzl]; rfl, ?_⟩⟩
    · rw [upd_ne (ne_of_none he hDu)]; exact st _ _ (sH _ _ he)
    · rw [List.map_append]
      exact (hal.mono fun _ _ r => RowIn.tup r tk).snoc (a := Out.val (.num (0 - (0 + (k : Int))))) ⟨t, rfl, by rw [upd_ne (Ne.symm nDt), upd_same]; rfl⟩
  · rintro dv σ' H2 ⟨_, s2, hDu2, zs, hzl, hal⟩
    have hzl3 : zs.length ≤ 3 := by omega
    -- the first items
    refine ⟨_, rfl, Du, rfl, ⟨_, SqL.of hDu2⟩, fun D2 hD2 => ?_⟩
    refine lc_lst (K := K) (a := Du) (xs := dv) (fun k ys σ' H' => (∃ v, σ' = [none, none, none, none, none, none, none, none, none, none, none, none, none, v]) ∧ Same H2 H' ∧ H' D2 = some (.lst ys) ∧ Its H' (shows (zs.take k)) ys)
      ⟨⟨_, rfl⟩, same_upd hD2, upd_same, Its.nil⟩ (fun k ys σ' H' _ hP => SqL.of (hP.2.1 _ _ hDu2)) ?_ ?_
    · rintro k x ys σ' H' hx ⟨⟨v, rfl⟩, sH, hDy, hits⟩
      unfold gName
      refine yes_if ?_
      have hk := (List.getElem?_eq_some_iff.mp hx).1
      obtain ⟨o', eo, ⟨tx, rfl, htx⟩⟩ := hal.at hx
      rw [List.getElem?_map] at eo
      cases ez : zs[k]? with
      | none => rw [ez] at eo; exact nomatch eo
      | some z =>
        rw [ez] at eo
        cases eo
        refine ⟨_, rfl, z2, fun t ht => ?_⟩
        have st := same_upd (o := .tup [.str "show", .ref tx]) ht
        have nDt : D2 ≠ t := fun e => by rw [← e, hDy] at ht; cases ht
        have hDt := st _ _ hDy
        have tk : Tup H' (upd (upd H' t (.tup [.str "show", .ref tx])) D2 (.lst (ys ++ [.ref t]))) := fun e xs qe => by rw [upd_ne (kind_ne (st _ _ qe) hDt (fun z => nomatch z))]; exact st _ _ qe
        refine ⟨hDt, by rw [hits.1, List.length_map, List.length_take, sizeLine_eq]; omega, Beh.of hk ⟨⟨_, rfl⟩, fun c e he => ?_, upd_same, ?_⟩⟩
        · rw [upd_ne (ne_of_none he hD2)]; exact st _ _ (sH _ _ he)
        · have e1 : shows (zs.take (k + 1)) = shows (zs.take k) ++ [(none, Out.val (.num z))] := by
            rw [List.take_succ, ez]; unfold shows; rw [List.map_append]; rfl
          rw [e1]
          refine (hits.tup tk).snoc ?_
          rw [kn_shows]
          exact ⟨t, .ref tx, rfl, by rw [upd_ne (Ne.symm nDt), upd_same], 1, 0, by decide, ev_num (tk _ _ (sH _ _ htx))⟩
    · rintro iv0 σ' H3 ⟨_, s3, hD23, hits⟩
      have elen : dv.length = zs.length := by rw [hal.1, List.length_map]
      rw [elen, List.take_length] at hits
      have s13 := s2.trans s3
      refine ⟨_, rfl, z2, fun t4 ht4 => ⟨z1, fun l4 hl4 => ?_⟩⟩
      have s4 := same_upd (o := .tup [.str "show", .ref tc]) ht4
      have f4 : upd H3 t4 (.tup [.str "show", .ref tc]) t4 = some (.tup [.str "show", .ref tc]) := upd_same
      generalize upd H3 t4 (.tup [.str "show", .ref tc]) = H4 at s4 f4 hl4 ⊢
      have s5 := same_upd (o := .lst [.ref t4]) hl4
      refine ⟨D2, l4, _, _, rfl, rfl, s5 _ _ (s4 _ _ hD23), upd_same, by rw [hits.1, List.length_map, sizeLine_eq]; show zs.length + 1 ≤ _; omega, fun I5 hI5 => ?_⟩
      have s6 := same_upd (o := .lst (iv0 ++ [.ref t4])) hI5
      have sA := s4.trans (s5.trans s6)
      have fI : upd (upd H4 l4 (.lst [.ref t4])) I5 (.lst (iv0 ++ [.ref t4])) I5 = some (.lst (iv0 ++ [.ref t4])) := upd_same
      have f4' := s6 _ _ (s5 _ _ f4)
      generalize upd (upd H4 l4 (.lst [.ref t4])) I5 (.lst (iv0 ++ [.ref t4])) = H5 at s6 sA fI f4' ⊢
      have s15 := s13.trans sA
      have hits5 : Its H5 (shows zs ++ [(none, o)]) (iv0 ++ [.ref t4]) := by
        refine (hits.tup (Tup.of sA)).snoc ?_
        rw [kn_shows]
        obtain ⟨n, d, hd', e⟩ := hev
        exact ⟨t4, .ref tc, rfl, f4', n, d, by omega, e.tup (Tup.of s15)⟩
      clear s6 s5 hI5 hl4 ht4 s4 f4
      -- three more
      refine ⟨_, rfl, z2, fun a1 ha1 => ⟨z2, fun a2 ha2 => ⟨_, rfl, _, _, rfl, rfl, z2, fun a3 ha3 => ⟨z4, fun a4 ha4 => ⟨_, rfl, _, _, rfl, rfl, z2, fun a5 ha5 => ⟨z2, fun a6 ha6 => ⟨z3, fun l7 hl7 => ?_⟩⟩⟩⟩⟩⟩⟩
      have u1 := same_upd (o := .tup [.str "num", .int 5]) ha1
      have k1 : upd H5 a1 (.tup [.str "num", .int 5]) a1 = some (.tup [.str "num", .int 5]) := upd_same
      generalize upd H5 a1 (.tup [.str "num", .int 5]) = G1 at u1 k1 ha2 ha3 ha4 ha5 ha6 hl7 ⊢
      have u2 := same_upd (o := .tup [.str "show", .ref a1]) ha2
      have k2 : upd G1 a2 (.tup [.str "show", .ref a1]) a2 = some (.tup [.str "show", .ref a1]) := upd_same
      generalize upd G1 a2 (.tup [.str "show", .ref a1]) = G2 at u2 k2 ha3 ha4 ha5 ha6 hl7 ⊢
      have u3 := same_upd (o := .tup [.str "free", .str "sub"]) ha3
      have k3 : upd G2 a3 (.tup [.str "free", .str "sub"]) a3 = some (.tup [.str "free", .str "sub"]) := upd_same
      generalize upd G2 a3 (.tup [.str "free", .str "sub"]) = G3 at u3 k3 ha4 ha5 ha6 hl7 ⊢
      have u4 := same_upd (o := .tup [.str "def", .int (b + 500), .str "z", .ref a3]) ha4
      have k4 : upd G3 a4 (.tup [.str "def", .int (b + 500), .str "z", .ref a3]) a4 = some (.tup [.str "def", .int (b + 500), .str "z", .ref a3]) := upd_same
      have u5 := same_upd (o := .tup [.str "seen", .int (b + 500)]) ha5
      have u6 := same_upd (o := .tup [.str "show", .ref a5]) ha6
      have u7 := same_upd (o := .lst [.ref a2, .ref a4, .ref a6]) hl7
      refine ⟨I5, l7, _, _, rfl, rfl, u7 _ _ (u6 _ _ (u5 _ _ (u4 _ _ (u3 _ _ (u2 _ _ (u1 _ _ fI)))))), upd_same, by rw [hits5.1, List.length_append, List.length_map, sizeLine_eq]; show zs.length + 1 + 3 ≤ _; omega, fun I8 hI8 => ?_⟩
      have u8 := same_upd (o := .lst (iv0 ++ [.ref t4] ++ [.ref a2, .ref a4, .ref a6])) hI8
      have v6 := u8 _ _ (u7 _ _ (upd_same (H := upd (upd G3 a4 (.tup [.str "def", .int (b + 500), .str "z", .ref a3])) a5 (.tup [.str "seen", .int (b + 500)])) (a := a6) (o := .tup [.str "show", .ref a5])))
      have v5 := u8 _ _ (u7 _ _ (u6 _ _ (upd_same (H := upd G3 a4 (.tup [.str "def", .int (b + 500), .str "z", .ref a3])) (a := a5) (o := .tup [.str "seen", .int (b + 500)]))))
      have s48 := ((u4.trans u5).trans (u6.trans u7)).trans u8
      have v4 := (((u5.trans u6).trans u7).trans u8) _ _ k4
      have v3 := s48 _ _ k3
      have v2 := (u3.trans s48) _ _ k2
      have v1 := ((u2.trans u3).trans s48) _ _ k1
      have sB := (u1.trans (u2.trans u3)).trans s48
      have vI : upd (upd (upd (upd (upd G3 a4 (.tup [.str "def", .int (b + 500), .str "z", .ref a3])) a5 (.tup [.str "seen", .int (b + 500)])) a6 (.tup [.str "show", .ref a5])) l7 (.lst [.ref a2, .ref a4, .ref a6])) I8 (.lst (iv0 ++ [.ref t4] ++ [.ref a2, .ref a4, .ref a6])) I8 = some (.lst (iv0 ++ [.ref t4] ++ [.ref a2, .ref a4, .ref a6])) := upd_same
      generalize upd (upd (upd (upd (upd G3 a4 (.tup [.str "def", .int (b + 500), .str "z", .ref a3])) a5 (.tup [.str "seen", .int (b + 500)])) a6 (.tup [.str "show", .ref a5])) l7 (.lst [.ref a2, .ref a4, .ref a6])) I8 (.lst (iv0 ++ [.ref t4] ++ [.ref a2, .ref a4, .ref a6])) = H8 at v1 v2 v3 v4 v5 v6 sB vI ⊢
      have hits8 : Its H8 (allIts zs o (b + 500)) (iv0 ++ [.ref t4] ++ [.ref a2, .ref a4, .ref a6]) := by
        have i1 := (hits5.tup (Tup.of sB)).snoc (it := (none, Out.val (.num 5))) (v := .ref a2) ⟨a2, .ref a1, rfl, v2, 1, 0, by decide, ev_num v1⟩
        have i2 := i1.snoc (it := (some (b + 500), Out.val (.op "sub"))) (v := .ref a4) ⟨a4, "z", .ref a3, rfl, v4, 1, 0, by decide, ev_op v3 (by decide)⟩
        have i3 := i2.snoc (it := (none, Out.val (.op "sub"))) (v := .ref a6) ⟨a6, .ref a5, rfl, v6, 1, 0, by decide, by
          have e := ev_seen (kn := knOf (shows zs ++ [(none, o)] ++ [(none, Out.val (.num 5))] ++ [(some (b + 500), Out.val (.op "sub"))])) v5
          have ek : seenO (knOf (shows zs ++ [(none, o)] ++ [(none, Out.val (.num 5))] ++ [(some (b + 500), Out.val (.op "sub"))])) (b + 500) = .val (.op "sub") := by
            unfold seenO
            rw [knOf_snoc]
            show (match (if b + 500 = b + 500 then some (AV.op "sub") else _) with | some a => Out.val a | none => .stuck) = _
            rw [if_pos rfl]
          rw [ek] at e
          exact e⟩
        simpa [List.append_assoc] using i3
      have s18 := s15.trans sB
      -- due
      have hDu8 := (s3.trans (sA.trans sB)) _ _ hDu2
      have al8 := hal.mono fun _ _ r => RowIn.tup r (Tup.of (s3.trans (sA.trans sB)))
      have row8 := hrow.tup (Tup.of s18)
      have htr8 := s18 _ _ htr
      have nI8 : I8 ≠ Du := fun e => by
        have h1 := (u8 _ _ (u7 _ _ (u6 _ _ (u5 _ _ (u4 _ _ (u3 _ _ (u2 _ _ (u1 _ _ ((s3.trans sA) _ _ hDu2)))))))) )
        have h2 := (u7 _ _ (u6 _ _ (u5 _ _ (u4 _ _ (u3 _ _ (u2 _ _ (u1 _ _ ((s3.trans sA) _ _ hDu2))))))))
        rw [e] at hI8
        rw [h2] at hI8
        cases hI8
      refine ⟨_, rfl, .inl ⟨rfl, _, SqL.of hDu8⟩, _, rfl, Du, _, _, rfl, rfl, hDu8, by rw [elen, sizeLine_eq]; omega, ?_⟩
      have k9 : ∀ c u, c ≠ Du → H8 c = some u → upd H8 Du (.lst (dv ++ [.ref tr])) c = some u := fun c u n e => by rw [upd_ne n]; exact e
      have tk9 : Tup H8 (upd H8 Du (.lst (dv ++ [.ref tr]))) := fun e xs qe => k9 _ _ (kind_ne qe hDu8 (fun z => nomatch z)) qe
      have hDu9 : upd H8 Du (.lst (dv ++ [.ref tr])) Du = some (.lst (dv ++ [.ref tr])) := upd_same
      have al9 : Al (RowIn (upd H8 Du (.lst (dv ++ [.ref tr])))) ((zs.map fun z => Out.val (.num z)) ++ [o]) (dv ++ [.ref tr]) := (al8.mono fun _ _ r => RowIn.tup r tk9).snoc (row8.tup tk9)
      have hIt9 := k9 _ _ nI8 vI
      have hits9 := hits8.tup tk9
      have htr9 := tk9 _ _ htr8
      generalize upd H8 Du (.lst (dv ++ [.ref tr])) = H9 at hDu9 al9 hIt9 hits9 htr9 ⊢
      refine ⟨_, rfl, tr, _, rfl, .inr (SqT.of htr9), rfl, ?_⟩
      have two : ∀ a, o = .val a → ∃ (t5 : TS), True := fun _ _ => ⟨fun _ _ _ => True, trivial⟩
      have fin2 : ∀ a, o = .val a → ∀ b1, H9 b1 = none → ∀ b2, upd H9 b1 (.tup [.str "num", .int 5]) b2 = none → ∀ lb, upd (upd H9 b1 (.tup [.str "num", .int 5])) b2 (.tup [.str "op", .str "sub"]) lb = none → ∀ D9, upd (upd (upd H9 b1 (.tup [.str "num", .int 5])) b2 (.tup [.str "op", .str "sub"])) lb (.lst [.ref b1, .ref b2]) D9 = none →
          tE { nx := fun _ H' => Q .non H', rt := Q } [σ0, some (.int hd), some (.int b), σ3, σ4, σ5, some (.ref tc), some (.ref tr), σ8, some (.ref D9), some (.ref I8), none, none] (upd (upd (upd (upd H9 b1 (.tup [.str "num", .int 5])) b2 (.tup [.str "op", .str "sub"])) lb (.lst [.ref b1, .ref b2])) D9 (.lst (dv ++ [.ref tr] ++ [.ref b1, .ref b2]))) := fun a ea b1 hb1 b2 hb2 lb hlb D9 hD9 => by
        have w1 := same_upd (o := .tup [.str "num", .int 5]) hb1
        have w2 := same_upd (o := .tup [.str "op", .str "sub"]) hb2
        have w3 := same_upd (o := .lst [.ref b1, .ref b2]) hlb
        have w4 := same_upd (o := .lst (dv ++ [.ref tr] ++ [.ref b1, .ref b2])) hD9
        have wA := (w1.trans w2).trans (w3.trans w4)
        have x1 := (w2.trans (w3.trans w4)) _ _ (upd_same (H := H9) (a := b1) (o := .tup [.str "num", .int 5]))
        have x2 := (w3.trans w4) _ _ (upd_same (H := upd H9 b1 (.tup [.str "num", .int 5])) (a := b2) (o := .tup [.str "op", .str "sub"]))
        refine hend _ _ _ _ _ _ _ _ _ D9 I8 _ _ zs o (b + 500) _ upd_same ?_ (wA _ _ hIt9) (hits9.tup (Tup.of wA)) (by omega)
        have e2 : tellP zs o = (zs.map fun z => Out.val (.num z)) ++ [o] ++ [.val (.num 5)] ++ [.val (.op "sub")] := by
          unfold tellP; rw [ea]; simp
        rw [e2]
        have := ((al9.mono fun _ _ r => RowIn.tup r (Tup.of wA)).snoc (a := Out.val (.num 5)) (v := .ref b1) ⟨b1, rfl, x1⟩).snoc (a := Out.val (.op "sub")) (v := .ref b2) ⟨b2, rfl, x2⟩
        simpa [List.append_assoc] using this
      have fin1 : (o = .stuck ∨ o = .on) → tE { nx := fun _ H' => Q .non H', rt := Q } [σ0, some (.int hd), some (.int b), σ3, σ4, σ5, some (.ref tc), some (.ref tr), σ8, some (.ref Du), some (.ref I8), none, none] H9 := fun ho => by
        refine hend _ _ _ _ _ _ _ _ _ Du I8 _ _ zs o (b + 500) _ hDu9 ?_ hIt9 hits9 (by omega)
        have e2 : tellP zs o = (zs.map fun z => Out.val (.num z)) ++ [o] := by
          unfold tellP
          rcases ho with rfl | rfl <;> simp
        rw [e2]; exact al9
      have lenb : (dv ++ [V.ref tr]).length + 2 ≤ sizeLine := by rw [List.length_append, elen, List.length_singleton, sizeLine_eq]; omega
      cases o with
      | stuck => exact ⟨false, rfl, iteF (fin1 (.inl rfl))⟩
      | on => exact ⟨false, rfl, iteF (fin1 (.inr rfl))⟩
      | val a =>
        cases a with
        | num z => exact ⟨true, rfl, iteT ⟨_, rfl, z2, fun b1 hb1 => ⟨z2, fun b2 hb2 => ⟨z2, fun lb hlb => ⟨Du, lb, _, _, rfl, rfl, same_upd hlb _ _ (same_upd hb2 _ _ (same_upd hb1 _ _ hDu9)), upd_same, lenb, fun D9 hD9 => fin2 _ rfl b1 hb1 b2 hb2 lb hlb D9 hD9⟩⟩⟩⟩⟩
        | op n => exact ⟨true, rfl, iteT ⟨_, rfl, z2, fun b1 hb1 => ⟨z2, fun b2 hb2 => ⟨z2, fun lb hlb => ⟨Du, lb, _, _, rfl, rfl, same_upd hlb _ _ (same_upd hb2 _ _ (same_upd hb1 _ _ hDu9)), upd_same, lenb, fun D9 hD9 => fin2 _ rfl b1 hb1 b2 hb2 lb hlb D9 hD9⟩⟩⟩⟩⟩
        | fn m => exact ⟨true, rfl, iteT ⟨_, rfl, z2, fun b1 hb1 => ⟨z2, fun b2 hb2 => ⟨z2, fun lb hlb => ⟨Du, lb, _, _, rfl, rfl, same_upd hlb _ _ (same_upd hb2 _ _ (same_upd hb1 _ _ hDu9)), upd_same, lenb, fun D9 hD9 => fin2 _ rfl b1 hb1 b2 hb2 lb hlb D9 hD9⟩⟩⟩⟩⟩
end
end K63

set_option Elab.async false
set_option linter.all false
set_option maxRecDepth 100000
set_option maxHeartbeats 4000000
set_option exponentiation.threshold 3000
/-! k63: the law. Own work. -/
namespace K63
open PySem L2 Builtin.Str
theorem cut_tail (x : V) (r : List V) : cutV (x :: r) (some 1) none = r := by
  have e : HT.sIx (r.length + 1) 0 (some 1) = 1 := by rw [show (1 : Int) = ((1 : Nat) : Int) from rfl, HT.sIx_nat]; omega
  unfold cutV
  rw [List.length_cons, e, HT.sIx_none, List.drop_one, List.tail_cons, Nat.add_sub_cancel, List.take_length]
theorem cut_ints (ns : List Int) (lo hi : Option Int) : ∃ ms : List Int, cutV (ns.map V.int) lo hi = ms.map V.int ∧ ms.length ≤ ns.length := by
  have hl := cutV_length (ns.map V.int) lo hi
  unfold cutV at hl ⊢
  refine ⟨(ns.drop (HT.sIx (ns.map V.int).length 0 lo)).take (HT.sIx (ns.map V.int).length (ns.map V.int).length hi - HT.sIx (ns.map V.int).length 0 lo), ?_, ?_⟩
  · rw [List.map_take, List.map_drop]
  · rw [List.length_take, List.length_drop]; omega
theorem cut3 (xs : List V) : (cutV xs none (some 3)).length = min 3 xs.length := by
  have e : HT.sIx xs.length xs.length (some 3) = min 3 xs.length := by rw [show (3 : Int) = ((3 : Nat) : Int) from rfl, HT.sIx_nat]
  unfold cutV
  rw [e, HT.sIx_none, List.drop_zero, Nat.sub_zero, List.length_take]
  omega
theorem ints_flat : ∀ cs : List Int, (cs.map V.int).all flatV = true
  | [] => rfl
  | _ :: r => ints_flat r
theorem Ev.weak {kn : Kn} {H : Hp} {x : V} {n d d' : Nat} {o : Out} (h : Ev kn H x n d o) (hd : d ≤ d') : Ev kn H x n d' o := fun kvs H1 s hk EV ES ts rs k hb => h kvs H1 s hk EV ES ts rs k (by omega)
theorem CoIn.ev {H : Hp} {x : V} {o : Out} (h : CoIn H x o) : ∃ n, Ev kn0 H x n 20 o := by
  obtain ⟨n, d, hd, e⟩ := h
  exact ⟨n, e.weak hd⟩
abbrev CoR (H : Hp) (o : Out) (v : V) : Prop := CoIn H v o
section
variable {P : Program} {w : World} {K : PySem.W.Frag} {mg : Str → Option Value} {base : Heap} {C op : Addr}
theorem lcLaw1 : LcS (defScope sLaw).names [(".0", .local), ("_law_k", .local), ("_law_core", .globalImplicit), ("_law_base", .free), ("_law_cells", .free)] NL [false, false, true, true, false, false, false, false, false, false, false, false, false] := ⟨by decide +kernel, by decide +kernel, by decide +kernel, by decide +kernel, by decide +kernel, rfl⟩
theorem lcLaw2 : LcS (defScope sLaw).names [(".0", .local), ("_law_k", .local), ("_law_value", .globalImplicit), ("_law_cells", .free), ("_law_cores", .free)] NL [false, false, false, true, true, false, false, false, false, false, false, false, false] := ⟨by decide +kernel, by decide +kernel, by decide +kernel, by decide +kernel, by decide +kernel, rfl⟩
theorem ok_law {f fR fC fW fV fL fP : Addr} {fd fdR fdC fdW fdV fdL fdP : FuncData} (F : Fun K "law" "law" sLaw f fd) (T : MT K mg C op)
    (kR : PySem.W.keepIn K (.ref fR) = true) (bR : Binds K fdR ["items", "fuel"] []) (mR : mg "run" = some (.ref fR)) (GR : FnOk P w K mg base CX0 5 fR fdR ["items", "fuel"] spRun)
    (FC : Fun K "_law_cell_at" "_law_cell_at" sCell fC fdC) (bC : Binds K fdC ["_law_script", "_law_k"] []) (mC : mg "_law_cell_at" = some (.ref fC))
    (kW : PySem.W.keepIn K (.ref fW) = true) (bW : Binds K fdW ["_law_cell", "_law_place", "_law_later"] []) (mW : mg "_law_core" = some (.ref fW)) (GW3 : FnOk P w K mg base CX0 3 fW fdW ["_law_cell", "_law_place", "_law_later"] spCore)
    (FV : Fun K "_law_value" "_law_value" sVal fV fdV) (bV : Binds K fdV ["_law_cell", "_law_core_here"] []) (mV : mg "_law_value" = some (.ref fV))
    (FL : Fun K "_law_called" "_law_called" sCalled fL fdL) (bL : Binds K fdL ["_law_values"] []) (mL : mg "_law_called" = some (.ref fL))
    (FP : Fun K "_law_picked" "_law_picked" sPicked fP fdP) (bP : Binds K fdP ["_law_values"] []) (mP : mg "_law_picked" = some (.ref fP)) :
    FnOk P w K mg base CX0 6 f fd ["_law_script"] (spLaw K) := by
  have GC : FnOk P w K mg base CX0 5 fC fdC ["_law_script", "_law_k"] (spCell K) := (ok_cell FC T).mono (by decide)
  have GW : FnOk P w K mg base CX0 5 fW fdW ["_law_cell", "_law_place", "_law_later"] spCore := GW3.mono (by decide)
  have GV : FnOk P w K mg base CX0 5 fV fdV ["_law_cell", "_law_core_here"] spVal := (ok_val FV T).mono (by decide)
  have GL : FnOk P w K mg base CX0 5 fL fdL ["_law_values"] spCalled := (ok_called FL T).mono (by decide)
  have GP : FnOk P w K mg base CX0 5 fP fdP ["_law_values"] spPicked := (ok_picked FP T).mono (by decide)
  refine F.ok scLaw (fun vs H Q E h => ?_) (fun cdv A outer s H vs Q E hr h => ?_)
  · obtain ⟨a, ns, rfl, _⟩ := h; rfl
  · obtain ⟨a, ns, rfl, hS, hl, q⟩ := h
    have nd := scLaw.nd
    have hu := hu_of hr
    have z1 : 1 ≤ sizeLine := by rw [sizeLine_eq]; decide
    have z2 : 2 ≤ sizeLine := by rw [sizeLine_eq]; decide
    have z3 : 3 ≤ sizeLine := by rw [sizeLine_eq]; decide
    have z4 : 4 ≤ sizeLine := by rw [sizeLine_eq]; decide
    obtain ⟨t9, h9, r9⟩ := law_mid (P := P) (w := w) (base := base) (f := f) (cdv := cdv) (A := A) (outer := outer) (s := s) (H := H) (E := E) (Q := Q) T hr kR bR mR GR q
    have R8 : ∃ t : TS, PSs (cxOf CX0 P w K mg base NL "law" (defScope sLaw) f cdv A outer s H E).nox ((defBody sLaw).drop 8) t ∧
        ∀ (hd b : Int) (σ0 σ3 σ4 σ5 σ8 : Option V) (tc : Addr) (rv : V) (o : Out) (H1 : Hp), (∃ n d, d ≤ 400 ∧ Ev kn0 H1 (.ref tc) n d o) → RowIn H1 o rv →
          t { nx := fun _ H' => Q .non H', rt := Q } [σ0, some (.int hd), some (.int b), σ3, σ4, σ5, some (.ref tc), some rv, σ8, none, none, none, none] H1 := by
      refine ⟨_, (pss_cons (ps_for PassesOwn.never rfl (pi_range1 rfl T.range (pa_cons (pe_callB (call_max2 rfl) (by rfl) T.max bt_max (pa_cons (pe_op op_sub (pe_op op_mod (pe_op op_fdiv (pv 1) pe_int) pe_int) pe_int) (pa_cons pe_int pa_nil))) pa_nil)) (pg_name (i := 8) nd rfl (Or.inl rfl))
        (pss_one (ps_set (i := 6) nd rfl (Or.inl rfl) (pe_tup (pa_cons pe_str (pa_cons (pv 6) pa_nil)))))) h9), ?_⟩
      intro hd b σ0 σ3 σ4 σ5 σ8 tc rv o H1 hev hrow
      have g0 := Int.emod_nonneg (hd / 2) (show (4 : Int) ≠ 0 by decide)
      have g1 := Int.emod_lt_of_pos (hd / 2) (show (0 : Int) < 4 by decide)
      refine ⟨_, rfl, _, _, rfl, rfl, ⟨by decide, by decide⟩, _, _, rfl, rfl, (by show (0 : Int) < _; decide), _, _, rfl, rfl, _, _, rfl, _, rfl, by split <;> omega, by split <;> omega, ?_⟩
      refine for_range (lo := 0) (n := (if (0 : Int) > hd / 2 % 4 - 1 then 0 else hd / 2 % 4 - 1).toNat) (fun i σ H' => ∃ (tc' : Addr) (v8 : Option V), σ = [σ0, some (.int hd), some (.int b), σ3, σ4, σ5, some (.ref tc'), some rv, v8, none, none, none, none] ∧ Same H1 H' ∧ ∃ n d, d ≤ 400 ∧ Ev kn0 H' (.ref tc') n d o)
        ⟨tc, _, rfl, Same.refl _, hev⟩ ?_ ?_
      · rintro i σ H' hi ⟨tc', v8, rfl, sH, n, d, hd', e⟩
        refine ⟨_, rfl, z2, fun t ht => ?_⟩
        have st := same_upd (o := .tup [.str "now", .ref tc']) ht
        exact ⟨t, _, rfl, sH.trans st, n + 1, d, hd', ev_now upd_same (e.tup (Tup.of st))⟩
      · rintro σ H' ⟨tc', v8, rfl, sH, hev'⟩
        exact r9 hd b σ0 σ3 σ4 σ5 v8 tc' rv o H' hev' (hrow.tup (Tup.of sH))
    obtain ⟨t8, h8, r8⟩ := R8
    have R7 : ∃ t : TS, PSs (cxOf CX0 P w K mg base NL "law" (defScope sLaw) f cdv A outer s H E).nox ((defBody sLaw).drop 7) t ∧
        ∀ (hd b : Int) (σ0 σ3 : Option V) (Cc Vv : Addr) (cv rv : List V) (os : List Out) (H1 : Hp), H1 Cc = some (.lst cv) → H1 Vv = some (.lst rv) → Al (CoR H1) os cv → Al (RowIn H1) os rv → 1 ≤ os.length → os.length ≤ 63 → (hd % 2 = 1 → 2 ≤ os.length) →
          t { nx := fun _ H' => Q .non H', rt := Q } [σ0, some (.int hd), some (.int b), σ3, some (.ref Cc), some (.ref Vv), none, none, none, none, none, none, none] H1 := by
      refine ⟨_, (pss_cons (ps_if (pt_cmpR op_eq (pe_op op_mod (pv 1) pe_int) pe_int (nomark _))
        (pss_cons (ps_set (i := 6) nd rfl (Or.inl rfl) (pe_tup (pa_cons pe_str (pa_cons (pe_ix ix_list (pv 4) pe_int (fun _ _ => rfl)) (pa_cons (pe_ix ix_list (pv 4) pe_int (fun _ _ => rfl)) (pa_cons (pe_ix ix_list (pv 4) (pe_op op_sub (pe_callB call_len_seq (by rfl) T.len bt_len (pa_cons (pv 4) pa_nil)) pe_int) (fun _ _ => rfl)) pa_nil))))))
          (pss_one (ps_set (i := 7) nd rfl (Or.inl rfl) (pe_call GP hr (by rfl) mP FP.kp bP .nil pass0 (pa_cons (pe_lst (pa_cons (pe_ix ix_list (pv 5) pe_int (fun _ _ => rfl)) (pa_cons (pe_ix ix_list (pv 5) pe_int (fun _ _ => rfl)) (pa_cons (pe_ix ix_list (pv 5) (pe_op op_sub (pe_callB call_len_seq (by rfl) T.len bt_len (pa_cons (pv 4) pa_nil)) pe_int) (fun _ _ => rfl)) pa_nil)))) pa_nil)))))
        (pss_cons (ps_set (i := 6) nd rfl (Or.inl rfl) (pe_tup (pa_cons pe_str (pa_cons (pe_ix ix_list (pv 4) pe_int (fun _ _ => rfl)) (pa_cons (pe_callTy call_tuple_of (by rfl) T.tuple bt_tuple' (pa_cons (pe_slice sl_list (pv 4) (po_some pe_int) po_none) pa_nil)) pa_nil)))))
          (pss_one (ps_set (i := 7) nd rfl (Or.inl rfl) (pe_call GL hr (by rfl) mL FL.kp bL .nil pass0 (pa_cons (pv 5) pa_nil)))))) h8), ?_⟩
      intro hd b σ0 σ3 Cc Vv cv rv os H1 hC hV aC aV hl1 hl63 hl2
      refine ⟨_, rfl, _, _, rfl, rfl, (by show (0 : Int) < _; decide), rfl, decide (hd % 2 = 1), bl_I, ite2 (fun c1 => ?_) (fun c1 => ?_)⟩
      · have h2 := hl2 (of_decide_eq_true c1)
        have hcl : cv.length = os.length := aC.1
        have hrl : rv.length = os.length := aV.1
        have lastI : ((cv.length : Nat) : Int) - 1 = ((os.length - 1 : Nat) : Int) := by rw [hcl]; omega
        obtain ⟨x0, e0, c0⟩ := aC.2 0 os[0] (List.getElem?_eq_getElem (by omega))
        obtain ⟨x1, e1, c1'⟩ := aC.2 1 os[1] (List.getElem?_eq_getElem (by omega))
        obtain ⟨x2, e2, c2⟩ := aC.2 (os.length - 1) (os[os.length - 1]'(by omega)) (List.getElem?_eq_getElem (by omega))
        obtain ⟨y0, d0, w0⟩ := aV.2 0 os[0] (List.getElem?_eq_getElem (by omega))
        obtain ⟨y1, d1, w1⟩ := aV.2 1 os[1] (List.getElem?_eq_getElem (by omega))
        obtain ⟨y2, d2, w2⟩ := aV.2 (os.length - 1) (os[os.length - 1]'(by omega)) (List.getElem?_eq_getElem (by omega))
        have a0 : atI cv 0 = some x0 := atI_nat (j := 0) e0
        have a1 : atI cv 1 = some x1 := atI_nat (j := 1) e1
        have a2 : atI cv (((cv.length : Nat) : Int) - 1) = some x2 := by rw [lastI]; exact atI_nat e2
        have b0 : atI rv 0 = some y0 := atI_nat (j := 0) d0
        have b1 : atI rv 1 = some y1 := atI_nat (j := 1) d1
        have b2 : atI rv (((cv.length : Nat) : Int) - 1) = some y2 := by rw [lastI]; exact atI_nat d2
        refine ⟨_, rfl, Cc, _, _, _, rfl, rfl, SqL.of hC, a0, _, rfl, Cc, _, _, _, rfl, rfl, SqL.of hC, a1, _, rfl, _, rfl, Cc, _, rfl, .inl (SqL.of hC), _, _, rfl, rfl, Cc, _, _, _, rfl, rfl, SqL.of hC, a2, z4, fun tc htc => ?_⟩
        have s1 := same_upd (o := .tup [.str "pick", x0, x1, x2]) htc
        have f1 : upd H1 tc (.tup [.str "pick", x0, x1, x2]) tc = some (.tup [.str "pick", x0, x1, x2]) := upd_same
        generalize upd H1 tc (.tup [.str "pick", x0, x1, x2]) = H2 at s1 f1 ⊢
        refine ⟨_, rfl, Vv, _, _, _, rfl, rfl, SqL.of (s1 _ _ hV), b0, _, rfl, Vv, _, _, _, rfl, rfl, SqL.of (s1 _ _ hV), b1, _, rfl, _, rfl, Cc, _, rfl, .inl (SqL.of (s1 _ _ hC)), _, _, rfl, rfl, Vv, _, _, _, rfl, rfl, SqL.of (s1 _ _ hV), b2, z3, fun l hl' => ?_⟩
        have s2 := same_upd (o := .lst [y0, y1, y2]) hl'
        have s12 := s1.trans s2
        refine ⟨l, y0, y1, y2, _, _, _, rfl, upd_same, w0.tup (Tup.of s12), w1.tup (Tup.of s12), w2.tup (Tup.of s12), fun H3 r s3 hrow => ?_⟩
        have s13 := s12.trans s3
        obtain ⟨n0, v0⟩ := (c0.tup (Tup.of s13)).ev
        obtain ⟨n1, v1⟩ := (c1'.tup (Tup.of s13)).ev
        obtain ⟨n2, v2⟩ := (c2.tup (Tup.of s13)).ev
        obtain ⟨n, e⟩ := ev_pick (kn := kn0) ((s2.trans s3) _ _ f1) v0 v1 v2
        exact r8 hd b σ0 σ3 (some (.ref Cc)) (some (.ref Vv)) none tc r _ H3 ⟨n, _, by omega, e⟩ hrow
      · obtain ⟨o0, os', rfl⟩ : ∃ o0 os', os = o0 :: os' := by
          cases os with
          | nil => simp at hl1
          | cons o0 os' => exact ⟨o0, os', rfl⟩
        obtain ⟨x0, cv', rfl, c0, aC'⟩ := aC.uncons
        have a0 : atI (x0 :: cv') 0 = some x0 := atI_nat (j := 0) rfl
        refine ⟨_, rfl, Cc, _, _, _, rfl, rfl, SqL.of hC, a0, _, rfl, _, rfl, Cc, _, rfl, SqL.of hC, fun p hp => ?_⟩
        rw [cut_tail]
        have s1 := same_upd (o := .lst cv') hp
        refine ⟨p, _, rfl, .inl ⟨SqL.of upd_same, fun u hu' => ⟨z3, fun tc htc => ?_⟩⟩⟩
        have s2 := same_upd (o := .tup cv') hu'
        have s3 := same_upd (o := .tup [.str "call", x0, .ref u]) htc
        have fu := s3 _ _ (upd_same (H := upd H1 p (.lst cv')) (a := u) (o := .tup cv'))
        have fc : upd (upd (upd H1 p (.lst cv')) u (.tup cv')) tc (.tup [.str "call", x0, .ref u]) tc = some (.tup [.str "call", x0, .ref u]) := upd_same
        have sA := s1.trans (s2.trans s3)
        generalize upd (upd (upd H1 p (.lst cv')) u (.tup cv')) tc (.tup [.str "call", x0, .ref u]) = H2 at fu fc sA ⊢
        refine ⟨_, rfl, Vv, rv, o0 :: os', rfl, sA _ _ hV, aV.mono (fun _ _ r => RowIn.tup r (Tup.of sA)), by simp, fun H3 r s4 hrow => ?_⟩
        have s14 := sA.trans s4
        obtain ⟨n0, v0⟩ := (c0.tup (Tup.of s14)).ev
        have hargs : ArgsEv kn0 H3 20 os' cv' := aC'.mono fun _ _ r => (CoIn.tup r (Tup.of s14)).ev
        obtain ⟨n, e⟩ := ev_call (kn := kn0) (s4 _ _ fc) (s4 _ _ fu) v0 hargs
        have hcl : cv'.length = os'.length := aC'.1
        rw [List.length_cons] at hl63
        exact r8 hd b σ0 σ3 (some (.ref Cc)) (some (.ref Vv)) none tc r _ H3 ⟨n, _, by omega, e⟩ hrow
    obtain ⟨t7, h7, r7⟩ := R7
    have R5 : ∃ t : TS, PSs (cxOf CX0 P w K mg base NL "law" (defScope sLaw) f cdv A outer s H E).nox ((defBody sLaw).drop 5) t ∧
        ∀ (hd b : Int) (σ0 : Option V) (p : Addr) (cs : List Int) (H1 : Hp), H1 p = some (.lst (cs.map V.int)) → 1 ≤ cs.length → cs.length ≤ 63 → (hd % 2 = 1 → 2 ≤ cs.length) →
          t { nx := fun _ H' => Q .non H', rt := Q } [σ0, some (.int hd), some (.int b), some (.ref p), none, none, none, none, none, none, none, none, none] H1 := by
      refine ⟨_, (pss_cons (ps_set (i := 4) nd rfl (Or.inr rfl) (pe_lc (ext := []) lcLaw1 rfl (pi_range1 rfl T.range (pa_cons (pe_callB call_len_seq (by rfl) T.len bt_len (pa_cons (pv 3) pa_nil)) pa_nil))
          ⟨fun _ _ _ _ _ => (pg_name (i := 8) nd rfl (Or.inl rfl) (.inr rfl)), fun _ _ _ _ _ => pts_nil, fun _ _ _ _ _ => (pe_call GW hr (by rfl) mW kW bW .nil pass0 (pa_cons (pe_ix (ix_list : IxR _ (rIxL K)) (pv 3) (pv 8) (fun _ _ => rfl)) (pa_cons (pe_op op_add (pv 2) (pe_op op_mul pe_int (pv 8))) (pa_cons (pe_op op_add (pv 2) pe_int) pa_nil))))⟩))
        (pss_cons (ps_lc (i := 5) (ext := []) nd rfl rfl lcLaw2 rfl (pi_range1 rfl T.range (pa_cons (pe_callB call_len_seq (by rfl) T.len bt_len (pa_cons (pv 3) pa_nil)) pa_nil))
          ⟨fun _ _ _ _ _ => (pg_name (i := 8) nd rfl (Or.inl rfl) (.inr rfl)), fun _ _ _ _ _ => pts_nil, fun _ _ _ _ _ => (pe_call GV hr (by rfl) mV FV.kp bV .nil pass0 (pa_cons (pe_ix (ix_list : IxR _ (rIxL K)) (pv 3) (pv 8) (fun _ _ => rfl)) (pa_cons (pe_ix (ix_list : IxR _ (rIxL K)) (pv 4) (pv 8) (fun _ _ => rfl)) pa_nil)))⟩) h7)), ?_⟩
      intro hd b σ0 p cs H1 hp h1 h63 h2
      refine ⟨_, rfl, p, _, rfl, .inl (SqL.of hp), _, rfl, by omega, by rw [List.length_map]; omega, fun D hD => ?_⟩
      rw [List.length_map]
      refine lc_rng (lo := 0) (n := ((cs.length : Nat) : Int).toNat) (fun k ys σ' H' => (∃ v, σ' = [none, none, some (.int b), some (.ref p), none, none, none, none, v, none, none, none, none]) ∧ Same H1 H' ∧ H' D = some (.lst ys) ∧ ∃ os : List Out, os.length = k ∧ Al (CoR H') os ys ∧ ∀ (j : Nat) c o v, cs[j]? = some c → os[j]? = some o → ys[j]? = some v → ∃ t, v = .ref t ∧ CV c H' t o)
        ⟨⟨_, rfl⟩, same_upd hD, upd_same, [], rfl, Al.nil, fun j c o v _ e => by simp at e⟩ ?_ ?_
      · rintro k ys σ' H' hk ⟨⟨v, rfl⟩, sH, hDy, os, hol, hal, hcv⟩
        unfold gName
        refine yes_if ?_
        rw [show (0 : Int) + (k : Int) = (k : Int) by omega]
        have hk' : k < cs.length := by omega
        refine ⟨_, rfl, _, rfl, p, _, _, _, rfl, rfl, SqL.of (sH _ _ hp), at_int hk', _, rfl, _, rfl, _, _, rfl, rfl, .inl ⟨by decide, by decide⟩, _, _, rfl, rfl, _, rfl, _, _, rfl, rfl, cs[k], _, _, rfl, fun H2 t o s2 hco hcv2 => ?_⟩
        have hD2 := s2 _ _ hDy
        have tk : Tup H2 (upd H2 D (.lst (ys ++ [.ref t]))) := fun e xs qe => by rw [upd_ne (kind_ne qe hD2 (fun z => nomatch z))]; exact qe
        have tk2 := (Tup.of s2).trans tk
        refine ⟨hD2, by rw [hal.1, hol, sizeLine_eq]; omega, Beh.of hk ⟨⟨_, rfl⟩, fun c e he => ?_, upd_same, os ++ [o], by rw [List.length_append, hol]; rfl, (hal.mono fun _ _ r => CoIn.tup r tk2).snoc (hco.tup tk), fun j c' o' v' ec eo ev => ?_⟩⟩
        · rw [upd_ne (ne_of_none he hD)]; exact s2 _ _ (sH _ _ he)
        · have hyl : ys.length = os.length := hal.1
          by_cases hj : j < os.length
          · rw [List.getElem?_append_left hj] at eo
            rw [List.getElem?_append_left (by omega)] at ev
            obtain ⟨t', e1, c1⟩ := hcv j c' o' v' ec eo ev
            exact ⟨t', e1, c1.tup tk2⟩
          · have hj2 : j = os.length := by
              have := (List.getElem?_eq_some_iff.mp eo).1
              rw [List.length_append, List.length_singleton] at this
              omega
            subst hj2
            rw [List.getElem?_append_right (Nat.le_refl _), Nat.sub_self] at eo
            rw [← hyl, List.getElem?_append_right (Nat.le_refl _), Nat.sub_self] at ev
            have e1 : o = o' := by injection eo
            have e2 : V.ref t = v' := by injection ev
            rw [hol, List.getElem?_eq_getElem hk'] at ec
            have e3 : cs[k] = c' := by injection ec
            subst e1 e2 e3
            exact ⟨t, rfl, hcv2.tup tk⟩
      · rintro ys σ' H2 ⟨_, s2, hD2, os, hol, hal, hcv⟩
        have hol' : os.length = cs.length := by omega
        have hyl : ys.length = os.length := hal.1
        refine ⟨_, rfl, p, _, rfl, .inl (SqL.of (s2 _ _ hp)), _, rfl, by omega, by rw [List.length_map]; omega, fun D3 hD3 => ?_⟩
        rw [List.length_map]
        refine lc_rng (lo := 0) (n := ((cs.length : Nat) : Int).toNat) (fun k zs σ' H' => (∃ v, σ' = [none, none, none, some (.ref p), some (.ref D), none, none, none, v, none, none, none, none]) ∧ Same H2 H' ∧ H' D3 = some (.lst zs) ∧ Al (RowIn H') (os.take k) zs)
          ⟨⟨_, rfl⟩, same_upd hD3, upd_same, Al.nil⟩ ?_ ?_
        · rintro k zs σ' H' hk ⟨⟨v, rfl⟩, sH, hDz, halz⟩
          unfold gName
          refine yes_if ?_
          rw [show (0 : Int) + (k : Int) = (k : Int) by omega]
          have hk' : k < cs.length := by omega
          have eo : os[k]? = some os[k] := List.getElem?_eq_getElem (by omega)
          have ey : ys[k]? = some ys[k] := List.getElem?_eq_getElem (by omega)
          obtain ⟨t, et, ht⟩ := hcv k cs[k] os[k] ys[k] (List.getElem?_eq_getElem hk') eo ey
          rw [et] at ey
          have ay : atI ys (k : Int) = some (.ref t) := atI_nat ey
          refine ⟨_, rfl, _, rfl, p, _, _, _, rfl, rfl, SqL.of ((s2.trans sH) _ _ hp), at_int hk', _, rfl, _, rfl, D, _, _, _, rfl, rfl, SqL.of (sH _ _ hD2), ay, cs[k], t, os[k], rfl, ht.tup (Tup.of sH), fun H3 r s3 hrow => ?_⟩
          have hD33 := s3 _ _ hDz
          have tk : Tup H3 (upd H3 D3 (.lst (zs ++ [r]))) := fun e xs qe => by rw [upd_ne (kind_ne qe hD33 (fun z => nomatch z))]; exact qe
          refine ⟨hD33, by rw [halz.1, List.length_take, sizeLine_eq]; omega, Beh.of hk ⟨⟨_, rfl⟩, fun c e he => ?_, upd_same, ?_⟩⟩
          · rw [upd_ne (ne_of_none he hD3)]; exact s3 _ _ (sH _ _ he)
          · rw [List.take_succ, eo]
            exact (halz.mono fun _ _ r => RowIn.tup r ((Tup.of s3).trans tk)).snoc (hrow.tup tk)
        · rintro zs σ' H3 ⟨_, s3, hD33, halz⟩
          have en : ((cs.length : Nat) : Int).toNat = os.length := by omega
          rw [en, List.take_length] at halz
          exact r7 hd b σ0 (some (.ref p)) D D3 ys zs os H3 (s3 _ _ hD2) hD33 (hal.mono fun _ _ r => CoIn.tup r (Tup.of s3)) halz (by omega) (by omega) (fun e => by rw [hol']; exact h2 e)
    obtain ⟨t5, h5, r5⟩ := R5
    have R4 : ∃ t : TS, PSs (cxOf CX0 P w K mg base NL "law" (defScope sLaw) f cdv A outer s H E).nox ((defBody sLaw).drop 4) t ∧
        ∀ (hd b : Int) (σ0 : Option V) (p : Addr) (cs : List Int) (H1 : Hp), H1 p = some (.lst (cs.map V.int)) → 1 ≤ cs.length → cs.length ≤ 60 →
          t { nx := fun _ H' => Q .non H', rt := Q } [σ0, some (.int hd), some (.int b), some (.ref p), none, none, none, none, none, none, none, none, none] H1 := by
      refine ⟨_, (pss_cons (ps_if (pt_cmpR op_eq (pe_op op_mod (pv 1) pe_int) pe_int (nomark _))
        (pss_one (ps_set (i := 3) nd rfl (Or.inr rfl) (pe_slice sl_list (pe_op op_cat (pv 3) (pe_lst (pa_cons pe_int (pa_cons pe_int pa_nil)))) po_none (po_some pe_int))))
        pss_nil) h5), ?_⟩
      intro hd b σ0 p cs H1 hp h1 h60
      refine ⟨_, rfl, _, _, rfl, rfl, (by show (0 : Int) < _; decide), rfl, decide (hd % 2 = 1), bl_I, ite2 (fun c1 => ?_) (fun c1 => ?_)⟩
      · refine ⟨_, rfl, z2, fun l hl' => ?_⟩
        have s1 := same_upd (o := .lst [.int 8, .int 17]) hl'
        refine ⟨p, l, _, _, rfl, rfl, s1 _ _ hp, upd_same, by rw [List.length_map, sizeLine_eq]; show cs.length + 2 ≤ _; omega, fun m hm => ?_⟩
        refine ⟨_, rfl, m, _, rfl, SqL.of upd_same, fun p2 hp2 => ?_⟩
        have em : cs.map V.int ++ [.int 8, .int 17] = (cs ++ [8, 17]).map V.int := by rw [List.map_append]; rfl
        obtain ⟨ms, ems, hml⟩ := cut_ints (cs ++ [8, 17]) none (some 3)
        have hlen := cut3 ((cs ++ [8, 17]).map V.int)
        rw [ems, List.length_map, List.length_map, List.length_append] at hlen
        rw [em, ems]
        have hl3 : ms.length = 3 := by rw [hlen]; show min 3 (cs.length + 2) = 3; omega
        exact r5 hd b σ0 p2 ms _ upd_same (by omega) (by omega) (fun _ => by omega)
      · exact r5 hd b σ0 p cs H1 hp h1 (by omega) (fun e => absurd (decide_eq_true e) c1)
    obtain ⟨t4, h4, r4⟩ := R4
    refine ⟨_, pss_cons (ps_set (i := 1) nd rfl (Or.inl rfl) (pe_call GC hr (by rfl) mC FC.kp bC .nil pass0 (pa_cons (pv 0) (pa_cons pe_int pa_nil))))
      (pss_cons (ps_set (i := 2) nd rfl (Or.inr rfl) (pe_op op_mod (pe_call GC hr (by rfl) mC FC.kp bC .nil pass0 (pa_cons (pv 0) (pa_cons pe_int pa_nil))) (pe_op op_pow pe_int pe_int)))
      (pss_cons (ps_set (i := 3) nd rfl (Or.inr rfl) (pe_slice sl_list (pv 0) (po_some pe_int) (po_some pe_int)))
      (pss_cons (ps_if (pt_cmpR (op_eqL hu) (pv 3) (pe_lst pa_nil) (nomark _))
      (pss_one (ps_set (i := 3) nd rfl (Or.inr rfl) (pe_lst (pa_cons (pe_op op_fdiv (pv 1) pe_int) pa_nil))))
      pss_nil) h4))), ?_⟩
    refine ⟨_, rfl, a, 0, ns, rfl, hS, hl, fun hd => ?_⟩
    refine ⟨_, rfl, a, 1, ns, rfl, hS, hl, fun z => ⟨_, _, rfl, rfl, ⟨by decide, by decide, by decide⟩, _, _, rfl, rfl, (by show (0 : Int) < _; decide), ?_⟩⟩
    obtain ⟨cs, ec, hcs⟩ := cut_ints ns (some 2) (some 31)
    have h31 : cs.length ≤ 60 ∨ True := .inr trivial
    have hc60 : cs.length ≤ 60 := by
      have h1 : (cs.map V.int).length = (cutV (ns.map V.int) (some 2) (some 31)).length := by rw [ec]
      rw [List.length_map] at h1
      have e2 : HT.sIx (ns.map V.int).length (ns.map V.int).length (some 31) = min 31 (ns.map V.int).length := by rw [show (31 : Int) = ((31 : Nat) : Int) from rfl, HT.sIx_nat]
      rw [h1]
      unfold cutV
      rw [List.length_take, e2]
      omega
    refine ⟨_, rfl, _, rfl, _, rfl, a, _, rfl, hS, fun p hp => ?_⟩
    rw [ec]
    have hp1 : upd H p (.lst (cs.map V.int)) p = some (.lst (cs.map V.int)) := upd_same
    generalize upd H p (.lst (cs.map V.int)) = H1 at hp1 ⊢
    refine ⟨_, rfl, Nat.zero_le _, fun l hl' => ?_⟩
    have s2 := same_upd (o := .lst []) hl'
    refine ⟨p, l, _, _, rfl, rfl, SqL.of (s2 _ _ hp1), SqL.of upd_same, ints_flat cs, rfl, ?_⟩
    rw [if_neg (by decide)]
    cases cs with
    | nil =>
      refine ⟨true, rfl, iteT ?_⟩
      refine ⟨_, rfl, _, _, rfl, rfl, ⟨by decide, by decide⟩, z1, fun p2 hp2 => ?_⟩
      exact r4 hd _ _ p2 [hd / 7] _ upd_same (by simp) (by simp)
    | cons c r =>
      exact ⟨false, rfl, iteF (r4 hd _ _ p (c :: r) _ (s2 _ _ hp1) (by simp) hc60)⟩
end
end K63

set_option Elab.async false
set_option linter.all false
set_option maxRecDepth 100000
set_option maxHeartbeats 4000000
namespace K63
open PySem L2 
/-! ### what the top has written; the law's head -/
theorem len1 {α : Type} {us : List α} (h : us.length = 1) : ∃ a0, us = [a0] := match us, h with | [a0], _ => ⟨a0, rfl⟩
theorem len2 {α : Type} {us : List α} (h : us.length = 2) : ∃ a0 a1, us = [a0, a1] := match us, h with | [a0, a1], _ => ⟨a0, a1, rfl⟩
theorem len3 {α : Type} {us : List α} (h : us.length = 3) : ∃ a0 a1 a2, us = [a0, a1, a2] := match us, h with | [a0, a1, a2], _ => ⟨a0, a1, a2, rfl⟩
theorem all_mk {l : PySem.W.OpenLaw} {w : World} {K : PySem.W.Frag} {h : Heap} {mg : Str → Option Value} {fa gC tO TR fA fVI fRK fC fN fF fS fW fV fL fP fZ fR fMI fMV fMW fMF fMC fMB fME fML : Addr} (X : K.In h) (G : h.Ns mainGlobals mg) (hfa : mg "law" = some (.ref fa))
    {odtO odTR odA anA odVI anVI odRK anRK odC anC odN anN odF anF odS anS odW anW odV anV odL anL odP anP odZ anZ odR anR odMI anMI odMV anMV odMW anMW odMF anMF odMC anMC odMB anMB odME anME odML anML : Option Addr} {sltO slTR slA slVI slRK slC slN slF slS slW slV slL slP slZ slR slMI slMV slMW slMF slMC slMB slME slML : Array (Option Value)} {ocTR ocA kVA dcA pmA cdA ctA ocVI kVVI dcVI pmVI cdVI ctVI ocRK kVRK dcRK pmRK cdRK ctRK ocC kVC dcC pmC cdC ctC ocN kVN dcN pmN cdN ctN ocF kVF dcF pmF cdF ctF ocS kVS dcS pmS cdS ctS ocW kVW dcW pmW cdW ctW ocV kVV dcV pmV cdV ctV ocL kVL dcL pmL cdL ctL ocP kVP dcP pmP cdP ctP ocZ kVZ dcZ pmZ cdZ ctZ ocR kVR dcR pmR cdR ctR ocMI kVMI dcMI pmMI cdMI ctMI ocMV kVMV dcMV pmMV cdMV ctMV ocMW kVMW dcMW pmMW cdMW ctMW ocMF kVMF dcMF pmMF cdMF ctMF ocMC kVMC dcMC pmMC cdMC ctMC ocMB kVMB dcMB pmMB cdMB ctMB ocME kVME dcME pmME cdME ctME ocML kVML dcML pmML cdML ctML : Value}
    {ntO nTR : Nat}
    {tkO0 tkO1 tkO2 tkTR0 : Tok}
    (qG : PySem.W.nsIn K mainGlobals "Machine" = some (some (.ref gC)))
    (qO : PySem.W.nsIn K mainGlobals "OPERATIONS" = some (some (.ref tO)))
    (ltO : K.lookup tO = some ⟨.type "tuple", odtO, .seq #[.str "add" tkO0, .str "sub" tkO1, .str "less" tkO2] ntO, sltO⟩)
    (aA : PySem.W.nsIn K mainGlobals "answer_of" = some (some (.ref fA)))
    (lA : K.lookup fA = some ⟨ocA, odA, .func (PySem.W.fnOf "answer_of" "answer_of" (defArgs sAns) (defBody sAns) (defScope sAns) .none kVA dcA pmA anA cdA ctA), slA⟩)
    (cA : PySem.W.codeIn K cdA "answer_of" = true)
    (kA : PySem.W.keepIn K (.ref fA) = true)
    (aVI : PySem.W.nsIn K mainGlobals "value_in" = some (some (.ref fVI)))
    (lVI : K.lookup fVI = some ⟨ocVI, odVI, .func (PySem.W.fnOf "value_in" "value_in" (defArgs sVIn) (defBody sVIn) (defScope sVIn) .none kVVI dcVI pmVI anVI cdVI ctVI), slVI⟩)
    (cVI : PySem.W.codeIn K cdVI "value_in" = true)
    (kVI : PySem.W.keepIn K (.ref fVI) = true)
    (aRK : PySem.W.nsIn K mainGlobals "reckoned" = some (some (.ref fRK)))
    (lRK : K.lookup fRK = some ⟨ocRK, odRK, .func (PySem.W.fnOf "reckoned" "reckoned" (defArgs sReck) (defBody sReck) (defScope sReck) .none kVRK dcRK pmRK anRK cdRK ctRK), slRK⟩)
    (cRK : PySem.W.codeIn K cdRK "reckoned" = true)
    (kRK : PySem.W.keepIn K (.ref fRK) = true)
    (aC : PySem.W.nsIn K mainGlobals "_law_cell_at" = some (some (.ref fC)))
    (lC : K.lookup fC = some ⟨ocC, odC, .func (PySem.W.fnOf "_law_cell_at" "_law_cell_at" (defArgs sCell) (defBody sCell) (defScope sCell) .none kVC dcC pmC anC cdC ctC), slC⟩)
    (cC : PySem.W.codeIn K cdC "_law_cell_at" = true)
    (kC : PySem.W.keepIn K (.ref fC) = true)
    (aN : PySem.W.nsIn K mainGlobals "_law_number" = some (some (.ref fN)))
    (lN : K.lookup fN = some ⟨ocN, odN, .func (PySem.W.fnOf "_law_number" "_law_number" (defArgs sNumber) (defBody sNumber) (defScope sNumber) .none kVN dcN pmN anN cdN ctN), slN⟩)
    (cN : PySem.W.codeIn K cdN "_law_number" = true)
    (kN : PySem.W.keepIn K (.ref fN) = true)
    (aF : PySem.W.nsIn K mainGlobals "_law_fn" = some (some (.ref fF)))
    (lF : K.lookup fF = some ⟨ocF, odF, .func (PySem.W.fnOf "_law_fn" "_law_fn" (defArgs sFn) (defBody sFn) (defScope sFn) .none kVF dcF pmF anF cdF ctF), slF⟩)
    (cF : PySem.W.codeIn K cdF "_law_fn" = true)
    (kF : PySem.W.keepIn K (.ref fF) = true)
    (aS : PySem.W.nsIn K mainGlobals "_law_stuck" = some (some (.ref fS)))
    (lS : K.lookup fS = some ⟨ocS, odS, .func (PySem.W.fnOf "_law_stuck" "_law_stuck" (defArgs sStuck) (defBody sStuck) (defScope sStuck) .none kVS dcS pmS anS cdS ctS), slS⟩)
    (cS : PySem.W.codeIn K cdS "_law_stuck" = true)
    (kS : PySem.W.keepIn K (.ref fS) = true)
    (aW : PySem.W.nsIn K mainGlobals "_law_core" = some (some (.ref fW)))
    (lW : K.lookup fW = some ⟨ocW, odW, .func (PySem.W.fnOf "_law_core" "_law_core" (defArgs sCore) (defBody sCore) (defScope sCore) .none kVW dcW pmW anW cdW ctW), slW⟩)
    (cW : PySem.W.codeIn K cdW "_law_core" = true)
    (kW : PySem.W.keepIn K (.ref fW) = true)
    (aV : PySem.W.nsIn K mainGlobals "_law_value" = some (some (.ref fV)))
    (lV : K.lookup fV = some ⟨ocV, odV, .func (PySem.W.fnOf "_law_value" "_law_value" (defArgs sVal) (defBody sVal) (defScope sVal) .none kVV dcV pmV anV cdV ctV), slV⟩)
    (cV : PySem.W.codeIn K cdV "_law_value" = true)
    (kV : PySem.W.keepIn K (.ref fV) = true)
    (aL : PySem.W.nsIn K mainGlobals "_law_called" = some (some (.ref fL)))
    (lL : K.lookup fL = some ⟨ocL, odL, .func (PySem.W.fnOf "_law_called" "_law_called" (defArgs sCalled) (defBody sCalled) (defScope sCalled) .none kVL dcL pmL anL cdL ctL), slL⟩)
    (cL : PySem.W.codeIn K cdL "_law_called" = true)
    (kL : PySem.W.keepIn K (.ref fL) = true)
    (aP : PySem.W.nsIn K mainGlobals "_law_picked" = some (some (.ref fP)))
    (lP : K.lookup fP = some ⟨ocP, odP, .func (PySem.W.fnOf "_law_picked" "_law_picked" (defArgs sPicked) (defBody sPicked) (defScope sPicked) .none kVP dcP pmP anP cdP ctP), slP⟩)
    (cP : PySem.W.codeIn K cdP "_law_picked" = true)
    (kP : PySem.W.keepIn K (.ref fP) = true)
    (aZ : PySem.W.nsIn K mainGlobals "law" = some (some (.ref fZ)))
    (lZ : K.lookup fZ = some ⟨ocZ, odZ, .func (PySem.W.fnOf "law" "law" (defArgs sLaw) (defBody sLaw) (defScope sLaw) .none kVZ dcZ pmZ anZ cdZ ctZ), slZ⟩)
    (cZ : PySem.W.codeIn K cdZ "law" = true)
    (kZ : PySem.W.keepIn K (.ref fZ) = true)
    (aR : PySem.W.nsIn K mainGlobals "run" = some (some (.ref fR)))
    (lR : K.lookup fR = some ⟨ocR, odR, .func (PySem.W.fnOf "run" "run" (defArgs sRun) (defBody sRun) (defScope sRun) (.ref TR) kVR dcR pmR anR cdR ctR), slR⟩)
    (cR : PySem.W.codeIn K cdR "run" = true)
    (kR : PySem.W.keepIn K (.ref fR) = true)
    (lTR : K.lookup TR = some ⟨ocTR, odTR, .seq #[.int 200 tkTR0] nTR, slTR⟩)
    (aMI : PySem.W.findIn K (.ref gC) "__init__" = some (some (.ref fMI)))
    (lMI : K.lookup fMI = some ⟨ocMI, odMI, .func (PySem.W.fnOf "__init__" "Machine.__init__" (defArgs sMInit) (defBody sMInit) (defScope sMInit) .none kVMI dcMI pmMI anMI cdMI ctMI), slMI⟩)
    (cMI : PySem.W.codeIn K cdMI "Machine.__init__" = true)
    (kMI : PySem.W.keepIn K (.ref fMI) = true)
    (iMI : PySem.W.isFn K (.ref fMI) = true)
    (aMV : PySem.W.findIn K (.ref gC) "value_of" = some (some (.ref fMV)))
    (lMV : K.lookup fMV = some ⟨ocMV, odMV, .func (PySem.W.fnOf "value_of" "Machine.value_of" (defArgs sValue) (defBody sValue) (defScope sValue) .none kVMV dcMV pmMV anMV cdMV ctMV), slMV⟩)
    (cMV : PySem.W.codeIn K cdMV "Machine.value_of" = true)
    (kMV : PySem.W.keepIn K (.ref fMV) = true)
    (iMV : PySem.W.isFn K (.ref fMV) = true)
    (aMW : PySem.W.findIn K (.ref gC) "work" = some (some (.ref fMW)))
    (lMW : K.lookup fMW = some ⟨ocMW, odMW, .func (PySem.W.fnOf "work" "Machine.work" (defArgs sWork) (defBody sWork) (defScope sWork) .none kVMW dcMW pmMW anMW cdMW ctMW), slMW⟩)
    (cMW : PySem.W.codeIn K cdMW "Machine.work" = true)
    (kMW : PySem.W.keepIn K (.ref fMW) = true)
    (iMW : PySem.W.isFn K (.ref fMW) = true)
    (aMF : PySem.W.findIn K (.ref gC) "found_as" = some (some (.ref fMF)))
    (lMF : K.lookup fMF = some ⟨ocMF, odMF, .func (PySem.W.fnOf "found_as" "Machine.found_as" (defArgs sFound) (defBody sFound) (defScope sFound) .none kVMF dcMF pmMF anMF cdMF ctMF), slMF⟩)
    (cMF : PySem.W.codeIn K cdMF "Machine.found_as" = true)
    (kMF : PySem.W.keepIn K (.ref fMF) = true)
    (iMF : PySem.W.isFn K (.ref fMF) = true)
    (aMC : PySem.W.findIn K (.ref gC) "choose" = some (some (.ref fMC)))
    (lMC : K.lookup fMC = some ⟨ocMC, odMC, .func (PySem.W.fnOf "choose" "Machine.choose" (defArgs sChoose) (defBody sChoose) (defScope sChoose) .none kVMC dcMC pmMC anMC cdMC ctMC), slMC⟩)
    (cMC : PySem.W.codeIn K cdMC "Machine.choose" = true)
    (kMC : PySem.W.keepIn K (.ref fMC) = true)
    (iMC : PySem.W.isFn K (.ref fMC) = true)
    (aMB : PySem.W.findIn K (.ref gC) "begin_call" = some (some (.ref fMB)))
    (lMB : K.lookup fMB = some ⟨ocMB, odMB, .func (PySem.W.fnOf "begin_call" "Machine.begin_call" (defArgs sBegin) (defBody sBegin) (defScope sBegin) .none kVMB dcMB pmMB anMB cdMB ctMB), slMB⟩)
    (cMB : PySem.W.codeIn K cdMB "Machine.begin_call" = true)
    (kMB : PySem.W.keepIn K (.ref fMB) = true)
    (iMB : PySem.W.isFn K (.ref fMB) = true)
    (aME : PySem.W.findIn K (.ref gC) "end_call" = some (some (.ref fME)))
    (lME : K.lookup fME = some ⟨ocME, odME, .func (PySem.W.fnOf "end_call" "Machine.end_call" (defArgs sEnd) (defBody sEnd) (defScope sEnd) .none kVME dcME pmME anME cdME ctME), slME⟩)
    (cME : PySem.W.codeIn K cdME "Machine.end_call" = true)
    (kME : PySem.W.keepIn K (.ref fME) = true)
    (iME : PySem.W.isFn K (.ref fME) = true)
    (aML : PySem.W.findIn K (.ref gC) "call_fn" = some (some (.ref fML)))
    (lML : K.lookup fML = some ⟨ocML, odML, .func (PySem.W.fnOf "call_fn" "Machine.call_fn" (defArgs sCallFn) (defBody sCallFn) (defScope sCallFn) .none kVML dcML pmML anML cdML ctML), slML⟩)
    (cML : PySem.W.codeIn K cdML "Machine.call_fn" = true)
    (kML : PySem.W.keepIn K (.ref fML) = true)
    (iML : PySem.W.isFn K (.ref fML) = true)
    (mkC : PySem.W.makesIn K gC = true)
    (kcC : PySem.W.keepIn K (.ref gC) = true)
    (pgC : PySem.W.plainGet K gC Str.empty = true)
    (hdC : PySem.W.hasDictIn K gC = true)
    (poC : PySem.W.plainOver K gC = true)
    (saC : PySem.W.findIn K (.ref gC) "__setattr__" = some (some (.builtin "object.__setattr__")))
    (n_fuel : PySem.W.findIn K (.ref gC) "fuel" = some none)
    (n_known : PySem.W.findIn K (.ref gC) "known" = some none)
    (n_tasks : PySem.W.findIn K (.ref gC) "tasks" = some none)
    (n_results : PySem.W.findIn K (.ref gC) "results" = some none)
    (n_ending : PySem.W.findIn K (.ref gC) "ending" = some none)
    (z0 : PySem.W.nsIn K mainGlobals "len" = some none)
    (z1 : PySem.W.nsIn K mainGlobals "list" = some none)
    (z2 : PySem.W.nsIn K mainGlobals "reversed" = some none)
    (z3 : PySem.W.nsIn K mainGlobals "range" = some none)
    (z4 : PySem.W.nsIn K mainGlobals "isinstance" = some none)
    (z5 : PySem.W.nsIn K mainGlobals "tuple" = some none)
    (z6 : PySem.W.nsIn K mainGlobals "int" = some none)
    (z7 : PySem.W.nsIn K mainGlobals "bool" = some none)
    (z8 : PySem.W.nsIn K mainGlobals "max" = some none)
    : ∃ fd : FuncData, (∀ (s : Shared) (v : Value), BindsTo s fd ⟨[v], []⟩ [("_law_script", v)]) ∧ ∀ base : Heap, K.In base → base.Ns mainGlobals mg → FnOk l.prog w K mg base CX0 6 fa fd ["_law_script"] (spLaw K) := by
  have e := hfa.symm.trans (PySem.W.mg_of X G aZ)
  cases e
  have opO : ∀ H, SqT K H tO [.str "add", .str "sub", .str "less"] := fun H => .inr ⟨_, _, _, ltO, rfl, rfl, (by show 3 ≤ sizeLine; rw [sizeLine_eq]; decide), (.cons ⟨_, rfl⟩ (.cons ⟨_, rfl⟩ (.cons ⟨_, rfl⟩ .nil)))⟩
  have FA := fun_mk (st := sAns) lA cA kA
  have bA := FA.binds (ps := ["value"]) fun _ _ _ _ _ _ us hl => by obtain ⟨_, rfl⟩ := len1 hl; rfl
  have FVI := fun_mk (st := sVIn) lVI cVI kVI
  have bVI := FVI.binds (ps := ["frame", "place", "known"]) fun _ _ _ _ _ _ us hl => by obtain ⟨_, _, _, rfl⟩ := len3 hl; rfl
  have FRK := fun_mk (st := sReck) lRK cRK kRK
  have bRK := FRK.binds (ps := ["operation", "values"]) fun _ _ _ _ _ _ us hl => by obtain ⟨_, _, rfl⟩ := len2 hl; rfl
  have FC := fun_mk (st := sCell) lC cC kC
  have bC := FC.binds (ps := ["_law_script", "_law_k"]) fun _ _ _ _ _ _ us hl => by obtain ⟨_, _, rfl⟩ := len2 hl; rfl
  have FN := fun_mk (st := sNumber) lN cN kN
  have bN := FN.binds (ps := ["_law_cell"]) fun _ _ _ _ _ _ us hl => by obtain ⟨_, rfl⟩ := len1 hl; rfl
  have FF := fun_mk (st := sFn) lF cF kF
  have bF := FF.binds (ps := ["_law_many", "_law_place"]) fun _ _ _ _ _ _ us hl => by obtain ⟨_, _, rfl⟩ := len2 hl; rfl
  have FS := fun_mk (st := sStuck) lS cS kS
  have bS := FS.binds (ps := ["_law_cell", "_law_place", "_law_later"]) fun _ _ _ _ _ _ us hl => by obtain ⟨_, _, _, rfl⟩ := len3 hl; rfl
  have FW := fun_mk (st := sCore) lW cW kW
  have bW := FW.binds (ps := ["_law_cell", "_law_place", "_law_later"]) fun _ _ _ _ _ _ us hl => by obtain ⟨_, _, _, rfl⟩ := len3 hl; rfl
  have FV := fun_mk (st := sVal) lV cV kV
  have bV := FV.binds (ps := ["_law_cell", "_law_core_here"]) fun _ _ _ _ _ _ us hl => by obtain ⟨_, _, rfl⟩ := len2 hl; rfl
  have FL := fun_mk (st := sCalled) lL cL kL
  have bL := FL.binds (ps := ["_law_values"]) fun _ _ _ _ _ _ us hl => by obtain ⟨_, rfl⟩ := len1 hl; rfl
  have FP := fun_mk (st := sPicked) lP cP kP
  have bP := FP.binds (ps := ["_law_values"]) fun _ _ _ _ _ _ us hl => by obtain ⟨_, rfl⟩ := len1 hl; rfl
  have FZ := fun_mk (st := sLaw) lZ cZ kZ
  have FMI := fun_mk (st := sMInit) lMI cMI kMI
  have bMI := FMI.binds (ps := ["self", "fuel"]) fun _ _ _ _ _ _ us hl => by obtain ⟨_, _, rfl⟩ := len2 hl; rfl
  have FMV := fun_mk (st := sValue) lMV cMV kMV
  have bMV := FMV.binds (ps := ["self", "core"]) fun _ _ _ _ _ _ us hl => by obtain ⟨_, _, rfl⟩ := len2 hl; rfl
  have FMW := fun_mk (st := sWork) lMW cMW kMW
  have bMW := FMW.binds (ps := ["self", "core", "frame"]) fun _ _ _ _ _ _ us hl => by obtain ⟨_, _, _, rfl⟩ := len3 hl; rfl
  have FMF := fun_mk (st := sFound) lMF cMF kMF
  have bMF := FMF.binds (ps := ["self", "value"]) fun _ _ _ _ _ _ us hl => by obtain ⟨_, _, rfl⟩ := len2 hl; rfl
  have FMC := fun_mk (st := sChoose) lMC cMC kMC
  have bMC := FMC.binds (ps := ["self", "core", "frame"]) fun _ _ _ _ _ _ us hl => by obtain ⟨_, _, _, rfl⟩ := len3 hl; rfl
  have FMB := fun_mk (st := sBegin) lMB cMB kMB
  have bMB := FMB.binds (ps := ["self", "core", "frame"]) fun _ _ _ _ _ _ us hl => by obtain ⟨_, _, _, rfl⟩ := len3 hl; rfl
  have FME := fun_mk (st := sEnd) lME cME kME
  have bME := FME.binds (ps := ["self", "count"]) fun _ _ _ _ _ _ us hl => by obtain ⟨_, _, rfl⟩ := len2 hl; rfl
  have FML := fun_mk (st := sCallFn) lML cML kML
  have bML := FML.binds (ps := ["self", "value", "values"]) fun _ _ _ _ _ _ us hl => by obtain ⟨_, _, _, rfl⟩ := len3 hl; rfl
  have FR := fund_mk (st := sRun) lR cR kR
  have bR : Binds K (PySem.W.fnOf "run" "run" (defArgs sRun) (defBody sRun) (defScope sRun) (.ref TR) kVR dcR pmR anR cdR ctR) ["items", "fuel"] [.int 200 tkTR0] := fun s us hK hl => by
    obtain ⟨_, rfl⟩ := len1 (show us.length = 1 by simpa using hl)
    exact PySem.W.binds_K hK rfl lTR rfl rfl rfl
  have bRf : Binds K (PySem.W.fnOf "run" "run" (defArgs sRun) (defBody sRun) (defScope sRun) (.ref TR) kVR dcR pmR anR cdR ctR) ["items", "fuel"] [] := fun s us hK hl => by
    obtain ⟨_, _, rfl⟩ := len2 (show us.length = 2 by simpa using hl)
    exact PySem.W.binds_K hK rfl lTR rfl rfl rfl
  have mA := PySem.W.mg_of X G aA
  have mVI := PySem.W.mg_of X G aVI
  have mRK := PySem.W.mg_of X G aRK
  have mC := PySem.W.mg_of X G aC
  have mN := PySem.W.mg_of X G aN
  have mF := PySem.W.mg_of X G aF
  have mS := PySem.W.mg_of X G aS
  have mW := PySem.W.mg_of X G aW
  have mV := PySem.W.mg_of X G aV
  have mL := PySem.W.mg_of X G aL
  have mP := PySem.W.mg_of X G aP
  have mR := PySem.W.mg_of X G aR
  have mMV : Meth K gC "value_of" fMV := ⟨aMV, iMV, kMV⟩
  have mMW : Meth K gC "work" fMW := ⟨aMW, iMW, kMW⟩
  have mMF : Meth K gC "found_as" fMF := ⟨aMF, iMF, kMF⟩
  have mMC : Meth K gC "choose" fMC := ⟨aMC, iMC, kMC⟩
  have mMB : Meth K gC "begin_call" fMB := ⟨aMB, iMB, kMB⟩
  have mME : Meth K gC "end_call" fME := ⟨aME, iME, kME⟩
  have mML : Meth K gC "call_fn" fML := ⟨aML, iML, kML⟩
  have mMI : Mk K gC fMI := ⟨mkC, aMI, iMI, kcC⟩
  have T : MT K mg gC tO := ⟨⟨pgC, hdC, poC, saC⟩, n_fuel, n_known, n_tasks, n_results, n_ending, PySem.W.mg_of X G qG, PySem.W.mg_of X G qO, opO, PySem.W.mg_none_of X G z0, PySem.W.mg_none_of X G z1, PySem.W.mg_none_of X G z2, PySem.W.mg_none_of X G z3, PySem.W.mg_none_of X G z4, PySem.W.mg_none_of X G z5, PySem.W.mg_none_of X G z6, PySem.W.mg_none_of X G z7, PySem.W.mg_none_of X G z8⟩
  refine ⟨PySem.W.fnOf "law" "law" (defArgs sLaw) (defBody sLaw) (defScope sLaw) .none kVZ dcZ pmZ anZ cdZ ctZ, fun s v => .of_eq rfl, fun base _ _ => ?_⟩
  have GE := ok_end (P := l.prog) (w := w) (base := base) FME T FRK bRK mRK FMF bMF mMF FML bML mML
  have GW := ok_work FMW T FMF bMF mMF FVI bVI mVI FMC bMC mMC FMB bMB mMB bME mME GE
  have GV := ok_value FMV T bMW mMW GW
  have GR := ok_run FR T FMI bMI mMI bMV mMV GV FA bA mA
  have GC := ok_core (P := l.prog) (w := w) (base := base) FW T FN bN mN FF bF mF FS bS mS
  exact ok_law FZ T kR bRf mR GR FC bC mC kW bW mW GC FV bV mV FL bL mL FP bP mP
theorem walk {l : PySem.W.OpenLaw} {q : Program} {loose : List Str} {XP : (Str → Option Value) → Heap → Prop} {YP : World → Heap → Prop} {d : DefRec} {K : Params → PySem.W.Frag} (hn : l.most = some 63) (hdf : d.params.defaults = [])
    (hY : ∀ (w : World) (h : Heap), YP w h → (K w.params).In h)
    (F : ∀ (w : World) (mg : Str → Option Value) (fa : Addr) (h : Heap), (K w.params).In h → h.Ns mainGlobals mg → mg d.name = some (.ref fa) →
      ∃ fd : FuncData, (∀ (s : Shared) (u : Value), BindsTo s fd ⟨[u], []⟩ [("_law_script", u)]) ∧ ∀ base : Heap, (K w.params).In base → base.Ns mainGlobals mg → FnOk l.prog w (K w.params) mg base CX0 6 fa fd ["_law_script"] (spLaw (K w.params))) :
    PySem.W.WalkO q loose XP YP l.row.toRowW d [] (fun f vs => PySem.call f vs) :=
  L2.walk_of (n := 63) (k := 6) (x := "_law_script") (CX := fun _ => CX0) (sp := fun w => spLaw (K w.params)) hn (by decide) hdf ⟨rfl, by decide, by decide⟩ hY F (fun _ _ a ns hl _ hS => ⟨a, ns, rfl, hS, hl, fun _ => rfl⟩) fun _ _ _ _ _ z => z
end K63
open PySem PySem.W PyProof.Rows
set_option maxRecDepth 100000 in
set_option maxHeartbeats 0 in
theorem PySem.Challenge.cw_macrohouse_k63_stuck_or_on_holds : PySem.Challenge.rw_macrohouse_k63_stuck_or_on.Holds := by
  w_on; o_law; k_head; (case hw => w_witness2)
  k_fill
  refine K63.walk (l := PySem.Challenge.rw_macrohouse_k63_stuck_or_on) rfl rfl (fun w h Y => PySem.W.kIn_of Y) ?F
  case F =>
    intro w mg fa h KX G hmg
    refine' K63.all_mk KX G hmg ?qG ?qO ?ltO ?aA ?lA ?cA ?kA ?aVI ?lVI ?cVI ?kVI ?aRK ?lRK ?cRK ?kRK ?aC ?lC ?cC ?kC ?aN ?lN ?cN ?kN ?aF ?lF ?cF ?kF ?aS ?lS ?cS ?kS ?aW ?lW ?cW ?kW ?aV ?lV ?cV ?kV ?aL ?lL ?cL ?kL ?aP ?lP ?cP ?kP ?aZ ?lZ ?cZ ?kZ ?aR ?lR ?cR ?kR ?lTR ?aMI ?lMI ?cMI ?kMI ?iMI ?aMV ?lMV ?cMV ?kMV ?iMV ?aMW ?lMW ?cMW ?kMW ?iMW ?aMF ?lMF ?cMF ?kMF ?iMF ?aMC ?lMC ?cMC ?kMC ?iMC ?aMB ?lMB ?cMB ?kMB ?iMB ?aME ?lME ?cME ?kME ?iME ?aML ?lML ?cML ?kML ?iML ?mkC ?kcC ?pgC ?hdC ?poC ?saC ?n_fuel ?n_known ?n_tasks ?n_results ?n_ending ?z0 ?z1 ?z2 ?z3 ?z4 ?z5 ?z6 ?z7 ?z8
    (case qG => k_is); (case qO => k_is); (case ltO => k_is); (case aA => k_is); (case lA => k_is); (case cA => k_is)
    (case kA => k_is); (case aVI => k_is); (case lVI => k_is); (case cVI => k_is); (case kVI => k_is); (case aRK => k_is)
    (case lRK => k_is); (case cRK => k_is); (case kRK => k_is); (case aC => k_is); (case lC => k_is); (case cC => k_is)
    (case kC => k_is); (case aN => k_is); (case lN => k_is); (case cN => k_is); (case kN => k_is); (case aF => k_is)
    (case lF => k_is); (case cF => k_is); (case kF => k_is); (case aS => k_is); (case lS => k_is); (case cS => k_is)
    (case kS => k_is); (case aW => k_is); (case lW => k_is); (case cW => k_is); (case kW => k_is); (case aV => k_is)
    (case lV => k_is); (case cV => k_is); (case kV => k_is); (case aL => k_is); (case lL => k_is); (case cL => k_is)
    (case kL => k_is); (case aP => k_is); (case lP => k_is); (case cP => k_is); (case kP => k_is); (case aZ => k_is)
    (case lZ => k_is); (case cZ => k_is); (case kZ => k_is); (case aR => k_is); (case lR => k_is); (case cR => k_is)
    (case kR => k_is); (case lTR => k_is); (case aMI => k_is); (case lMI => k_is); (case cMI => k_is); (case kMI => k_is)
    (case iMI => k_is); (case aMV => k_is); (case lMV => k_is); (case cMV => k_is); (case kMV => k_is); (case iMV => k_is)
    (case aMW => k_is); (case lMW => k_is); (case cMW => k_is); (case kMW => k_is); (case iMW => k_is); (case aMF => k_is)
    (case lMF => k_is); (case cMF => k_is); (case kMF => k_is); (case iMF => k_is); (case aMC => k_is); (case lMC => k_is)
    (case cMC => k_is); (case kMC => k_is); (case iMC => k_is); (case aMB => k_is); (case lMB => k_is); (case cMB => k_is)
    (case kMB => k_is); (case iMB => k_is); (case aME => k_is); (case lME => k_is); (case cME => k_is); (case kME => k_is)
    (case iME => k_is); (case aML => k_is); (case lML => k_is); (case cML => k_is); (case kML => k_is); (case iML => k_is)
    (case mkC => k_is); (case kcC => k_is); (case pgC => k_is); (case hdC => k_is); (case poC => k_is); (case saC => k_is)
    (case n_fuel => k_is); (case n_known => k_is); (case n_tasks => k_is); (case n_results => k_is); (case n_ending => k_is); (case z0 => k_is)
    (case z1 => k_is); (case z2 => k_is); (case z3 => k_is); (case z4 => k_is); (case z5 => k_is); (case z6 => k_is)
    (case z7 => k_is); (case z8 => k_is)
#print axioms PySem.Challenge.cw_macrohouse_k63_stuck_or_on_holds
