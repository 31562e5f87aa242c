import PyProof.Rows.All
import PyProof.FactsAll.NoneType_1
import Wide.All
import OpenK.AllK
import Wide.FinOn
import Lean
import PyProof.EqAt
import PyProof.EqKinds
import PyProof.TupleCall
import PyProof.SetScanFacts
import PyProof.SetKind
import PyProof.DictStraight
import PyProof.DictIter
import PyProof.Seq
import PyProof.CollectWalk
import PyProof.MakeMany
import PyProof.Rows.SetFrom
import PyProof.Rows.SortShell
import PyProof.ListRange
import PyProof.SetRoads
import PyProof.NeKinds
import PyProof.SumAny
import PyProof.Rows.RuleM_int
import PyProof.ZipIter
import PyProof.EnumFor
import PyProof.EnumMake
import PyProof.EnumStmt
import PyProof.MinMaxWalk
import PyProof.Rows.CallKwBuiltin
import PyProof.ListMulAny
import PyProof.StrBlockH
import PyProof.StrWalks
import PyProof.StrLawsReplace
import PyProof.StrLawsTight
import PyProof.StrLawsChain
import PyProof.StrLawsIn
import PyProof.StrOps2
import PyProof.StrCalls6
import PyProof.ToksMono
import PyProof.Rows.StrNews
import PyProof.StrLawsJoin
import PyProof.DictUpdate
import PySem.Challenge.RW_macrohouse_k25_claims_kept
set_option Elab.async false
set_option linter.all false
set_option maxRecDepth 100000
/-! THE HAND LAYER, for ints, bools, texts, own classes, LISTS and tuples (index, slices, in, append, pop ..), calls, loops. Paste it whole ahead of your own text; what your proof does not reach may be deleted. -/
namespace L2
open PySem PySem.Spec PyProof.Rows

theorem hash_none {prog : Program} {w : World} {A : Around} {E : Value → Shared → Prop} {s : Shared} {Q : Int → Shared → Prop} (h : Q 0xFCA86420 { s with toks := s.toks + 1 }) : wpAny (model prog w) A (pyHash .none) Q E s := by
  have hT : s.TypeIs .none "NoneType" := rfl
  unfold pyHash
  have hv : [Value.none].any Value.onHeap = false := rfl
  refine wpAny_bind ?_
  rw [cRoomFor, if_neg (by rw [hv]; exact Bool.false_ne_true)]
  refine wpAny_pure ?_
  refine wpAny_bind (wpAny_specialOf hT PySem.F.slot_NoneType_hash.lookup ?_)
  show wpAny _ _ (if (some (Value.builtin "NoneType.__hash__") == some Value.none) = true then _ else _) Q E s
  rw [if_neg (by rw [beq_builtin_none]; exact Bool.false_ne_true)]
  refine wpAny_bind (wpAny_specialOf hT PySem.F.slot_NoneType_hash.lookup ?_)
  show wpAny _ _ (callSpecialIfBoundUnlessNone? .none "__hash__" _ >>= _) Q E s
  refine wpAny_bind (wpAny_callSpecialIfBoundUnlessNone?_slot hT PySem.F.slot_NoneType_hash (wpAny_call_entry PySem.F.slot_NoneType_hash hT PySem.F.entry_NoneType_hash (show wpAny _ _ (retInt 0xFCA86420) _ _ s from wpAny_ret_mkInt ?_) (PySem.F.args_NoneType_hash_1 _)))
  show wpAny _ _ (if (decide (-(2 : Int) ^ 63 ≤ 0xFCA86420) && decide ((0xFCA86420 : Int) < 2 ^ 63)) = true then _ else _) Q E _
  rw [if_pos (by decide)]
  exact wpAny_pure h
theorem eqb_none {prog : Program} {w : World} {A : Around} {E : Value → Shared → Prop} {s : Shared} {Q : Bool → Shared → Prop} (h : Q true s) : wpAny (model prog w) A (eqBool .none .none) Q E s := by
  exact SeqAt.EqAt.same _ _ _ _ _ h
/-- a key: None, an int or a str -/
abbrev Key := Sum (Option Int) Str
def keyIs : Key → Value → Bool
  | .inl none, v => v == Value.none
  | .inl (some k), v => Value.isInt k v
  | .inr x, v => Value.isStrOf x v
def keyH (w : World) : Key → Int
  | .inl none => 0xFCA86420
  | .inl (some k) => hashInt k
  | .inr x => hashStr w x
theorem keyIs_shape : ∀ {k : Key} {v : Value}, keyIs k v = true → (k = Sum.inl none ∧ v = Value.none) ∨ (∃ i t, k = Sum.inl (some i) ∧ v = Value.int i t) ∨ (∃ x t, k = Sum.inr x ∧ v = Value.str x t)
  | .inl none, v, h => .inl ⟨rfl, eq_of_beq h⟩
  | .inl (some i), v, h => by
    obtain ⟨t, e⟩ := Value.isInt_shape (k := i) (v := v) h
    exact .inr (.inl ⟨i, t, rfl, e⟩)
  | .inr x, v, h => by
    obtain ⟨t, e⟩ := Value.isStrOf_shape (x := x) (v := v) h
    exact .inr (.inr ⟨x, t, rfl, e⟩)
theorem keyIs_int (i : Int) (t : Tok) : keyIs (.inl (some i)) (.int i t) = true := by simp [keyIs, Value.isInt]
theorem keyIs_str (x : Str) (t : Tok) : keyIs (.inr x) (.str x t) = true := by simp [keyIs, Value.isStrOf]
theorem keyIs_none : keyIs (.inl none) .none = true := rfl
theorem key_ne {a b : Key} (h : a ≠ b) : decide (a = b) = false := decide_eq_false h
theorem key_ll (a b : Int) : decide ((Sum.inl (some a) : Key) = Sum.inl (some b)) = (a == b) := by
  by_cases e : a = b
  · subst e; simp
  · rw [key_ne fun q => e (Option.some.inj (Sum.inl.inj q))]
    exact (beq_eq_false_iff_ne.mpr e).symm
theorem key_rr (a b : Str) : decide ((Sum.inr a : Key) = Sum.inr b) = decide (a = b) := by
  by_cases e : a = b
  · subst e; simp
  · rw [key_ne fun q => e (Sum.inr.inj q), decide_eq_false e]
def mixKind (prog : Program) (w : World) : PySem.KeyKind prog w Key where
  is := keyIs
  hash := keyH w
  inj := fun v a b ha hb => by
    rcases keyIs_shape ha with ⟨rfl, rfl⟩ | ⟨i, t, rfl, rfl⟩ | ⟨x, t, rfl, rfl⟩ <;> rcases keyIs_shape hb with ⟨rfl, e⟩ | ⟨j, u, rfl, e⟩ | ⟨y, u, rfl, e⟩
    · rfl
    · exact nomatch e
    · exact nomatch e
    · exact nomatch e
    · injection e with e1 _; rw [e1]
    · exact nomatch e
    · exact nomatch e
    · exact nomatch e
    · injection e with e1 _; rw [e1]
  byValue := fun k v h => by
    rcases keyIs_shape h with ⟨rfl, rfl⟩ | ⟨i, t, rfl, rfl⟩ | ⟨x, t, rfl, rfl⟩ <;> rfl
  pyHash := fun hv h => by
    rcases keyIs_shape hv with ⟨rfl, rfl⟩ | ⟨i, t, rfl, rfl⟩ | ⟨x, t, rfl, rfl⟩
    · exact hash_none h
    · exact wpAny_pyHash_int h
    · exact wpAny_pyHash_str h
  eqBool := fun hu hv h => by
    rcases keyIs_shape hu with ⟨rfl, rfl⟩ | ⟨i, t, rfl, rfl⟩ | ⟨x, t, rfl, rfl⟩ <;> rcases keyIs_shape hv with ⟨rfl, rfl⟩ | ⟨j, u, rfl, rfl⟩ | ⟨y, u, rfl, rfl⟩
    · exact eqb_none h
    · rw [key_ne] at h
      · exact SeqAt.EqAt.none_int j u _ _ _ _ h
      · intro q; cases q
    · rw [key_ne] at h
      · exact SeqAt.EqAt.none_str y u _ _ _ _ h
      · intro q; cases q
    · rw [key_ne] at h
      · exact SeqAt.EqAt.int_none i t _ _ _ _ h
      · intro q; cases q
    · rw [key_ll] at h; exact wpAny_eqBool_int h
    · rw [key_ne] at h
      · exact SeqAt.EqAt.int_str i t y u _ _ _ _ h
      · intro q; cases q
    · rw [key_ne] at h
      · exact SeqAt.EqAt.str_none x t _ _ _ _ h
      · intro q; cases q
    · rw [key_ne] at h
      · exact SeqAt.EqAt.str_int x t j u _ _ _ _ h
      · intro q; cases q
    · rw [key_rr] at h; exact wpAny_eqBool_str h
  «strs» := fun k x t v h => by
    rcases keyIs_shape h with ⟨rfl, e⟩ | ⟨i, u, rfl, e⟩ | ⟨y, u, rfl, e⟩
    · exact nomatch e
    · exact nomatch e
    · injection e with e1 _
      subst e1
      cases v <;> rfl

theorem mixKind_none (prog : Program) (w : World) : (mixKind prog w).is (.inl none) .none = true := keyIs_none
theorem mixKind_int (prog : Program) (w : World) (i : Int) (t : Tok) : (mixKind prog w).is (.inl (some i)) (.int i t) = true := keyIs_int i t
theorem mixKind_str (prog : Program) (w : World) (x : Str) (t : Tok) : (mixKind prog w).is (.inr x) (.str x t) = true := keyIs_str x t
end L2

namespace L2
open PySem PySem.Spec PyProof.Rows

/-- a value, without the heap -/
inductive V where
  | non | bl (b : Bool) | int (i : Int) | str (x : Str) | byt (b : Array UInt8) | flt (b : UInt64) | ref (a : Addr) | ty (n : String)
  deriving DecidableEq

def RelV : V → Value → Prop
  | .non, u => u = Value.none
  | .bl b, u => u = Value.bool b
  | .int i, u => ∃ t, u = Value.int i t
  | .str x, u => ∃ t, u = Value.str x t
  | .byt b, u => ∃ t, u = Value.bytes b t
  | .flt b, u => ∃ t, u = Value.float b t
  | .ref a, u => u = Value.ref a
  | .ty n, u => u = Value.type n

abbrev Vals : List V → List Value → Prop := Paired RelV
theorem Vals.length {xs : List V} {us : List Value} (r : Vals xs us) : xs.length = us.length := Paired.length r
theorem Vals.get : ∀ {xs : List V} {us : List Value} {i : Nat} {x : V}, Vals xs us → xs[i]? = some x → ∃ u, us[i]? = some u ∧ RelV x u
  | _, _, _, _, .nil, e => by simp at e
  | _, _, 0, _, .cons r _, e => by simp at e; subst e; exact ⟨_, rfl, r⟩
  | _, _, i + 1, x, .cons _ t, e => by
    obtain ⟨u, h1, h2⟩ := Vals.get (i := i) (x := x) t (by simpa using e)
    exact ⟨u, by simpa using h1, h2⟩
theorem Vals.append : ∀ {xs ys : List V} {us ws : List Value}, Vals xs us → Vals ys ws → Vals (xs ++ ys) (us ++ ws)
  | _, _, _, _, .nil, s => s
  | _, _, _, _, .cons r t, s => .cons r (Vals.append t s)

def RelO : Option V → Option Value → Prop
  | some v, some u => RelV v u
  | none, none => True
  | _, _ => False
def KV {κ : Type} : List (κ × V) → List (κ × Value) → Prop := Paired fun (p : κ × V) (q : κ × Value) => p.1 = q.1 ∧ RelV p.2 q.2

/-- a key of a dict (00_mix): an int or a text -/
def kV : Key → V
  | .inl none => .non
  | .inl (some i) => .int i
  | .inr x => .str x

/-- what stands at a tracked address -/
inductive HO where
  /-- a list -/
  | lst (xs : List V)
  /-- a tuple (never changes) -/
  | tup (xs : List V)
  /-- a dict whose keys are ints and texts; one whose keys are tuples of ints and texts (the empty one is both) -/
  | dK (kvs : List (Key × V)) | dT (kvs : List (List Key × V))
  /-- a set of ints: its members, its size -/
  | set (S : Int → Bool) (n : Nat)
  /-- an instance of the class at C, its dict at dx, its attributes -/
  | ins (C dx : Addr) (fs : List (Str × V))
  /-- the dict of the instance at x -/
  | own (x : Addr)
  /-- the dict of an exception -/
  | xd (fs : List (Str × V))
  /-- a bound method, f of x -/
  | met (f x : Addr)
  /-- a range object lo, lo + 1, .. below hi -/
  | rng (lo hi : Int)
  /-- a thing that is known to the object (the script; a dict while a loop walks it): read, never written while it is so -/
  | frz (o : Obj) (u : HO)
  /-- a code object's table -/
  | tbl (ps : Array Value)
  /-- any other thing, by what is true of its one object (a def of one's own: SetO a S n := HO.ext fun h => ..) -/
  | ext (φ : Heap → Prop)

abbrev Hp := Addr → Option HO
def upd (H : Hp) (a : Addr) (o : HO) : Hp := fun b => if b = a then some o else H b
theorem upd_same {H : Hp} {a : Addr} {o : HO} : upd H a o a = some o := by unfold upd; rw [if_pos rfl]
theorem upd_ne {H : Hp} {a b : Addr} {o : HO} (h : b ≠ a) : upd H a o b = H b := by unfold upd; rw [if_neg h]
theorem upd_upd {H : Hp} {a : Addr} {o u : HO} : upd (upd H a o) a u = upd H a u := by
  funext b; unfold upd; split <;> rfl
theorem ne_of_none {H : Hp} {a b : Addr} {o : HO} (h : H a = some o) (h' : H b = none) : a ≠ b := by
  intro e; subst e; rw [h] at h'; cases h'

section
variable (P : Program) (w : World)
def ObjOk (H : Hp) (h : Heap) (a : Addr) : HO → Prop
  | .lst xs => xs.length ≤ sizeLine ∧ ∃ (its : List Value) (n : Nat), Vals xs its ∧ h.get? a = some { cls := .type "list", data := .seq its.toArray n }
  | .tup xs => xs.length ≤ sizeLine ∧ ∃ its : List Value, Vals xs its ∧ IsTup h a its.toArray
  | .dK kvs => kvs.length ≤ sizeLine ∧ (a == sysModules) = false ∧ ∃ vs, KV kvs vs ∧ h.DictOf (mixKind P w) a vs
  | .dT kvs => kvs.length ≤ sizeLine ∧ (a == sysModules) = false ∧ ∃ xs : List (List Key × Addr × Value),
      Paired (fun (p : List Key × V) (q : List Key × Addr × Value) => p.1 = q.1 ∧ H q.2.1 = some (.tup (p.1.map kV)) ∧ RelV p.2 q.2.2) kvs xs ∧
      ∃ o es ep, h.get? a = some o ∧ o.ExactDict ∧ o.data = .dict es ep ∧ es.toList = xs.map (entryOfKey (tupleKind (mixKind P w))) ∧ (xs.map (·.1)).Nodup
  | .set S n => h.SetOf (intKind P w) a S n
  | .ins C dx fs => H dx = some (.own a) ∧ fs.length ≤ 1000 ∧ dx ≠ a ∧ h.get? a = some (PySem.W.instObj C dx) ∧
      ∃ mA, h.Ns1 dx mA ∧ (∀ f, RelO (fs.lookup f) (mA f)) ∧ PySem.Within mA (fs.map (·.1))
  | .own _ => ∃ o, h.get? a = some o
  | .xd fs => ∃ mA, h.Ns1 a mA ∧ ∀ f, RelO (fs.lookup f) (mA f)
  | .rng lo hi => ∃ t u v, h.get? a = some { cls := .type "range", data := .fields #[.int lo t, .int hi u, .int 1 v] }
  | .frz o u => h.get? a = some o ∧ ObjOk H h a u
  | .tbl ps => h.get? a = some { cls := .none, data := .fields ps }
  | .met f x => h.get? a = some (PySem.W.methodObj (.ref f) (.ref x))
  | .ext φ => φ h ∧ (∃ o, h.get? a = some o) ∧ ∀ h1 h2 : Heap, φ h1 → (∀ o, h1.get? a = some o → h2.get? a = some o) → φ h2
/-- the abstract heap is held -/
def HOk (H : Hp) (h : Heap) : Prop := ∀ a o, H a = some o → ObjOk P w H h a o
end

section
variable {P : Program} {w : World} {H H' : Hp} {h h' : Heap} {a : Addr} {o : HO}
theorem ObjOk.lt (x : ObjOk P w H h a o) : a < h.objs.size := by
  cases o with
  | lst xs => obtain ⟨_, _, _, _, e⟩ := x; exact Heap.lt_size e
  | tup xs => obtain ⟨_, _, _, p⟩ := x; exact p.lt
  | dK kvs => obtain ⟨_, _, _, _, o, _, _, e, _⟩ := x; exact Heap.lt_size e
  | dT kvs => obtain ⟨_, _, _, _, o, _, _, e, _⟩ := x; exact Heap.lt_size e
  | set S n => obtain ⟨o, _, _, _, e, _⟩ := x; exact Heap.lt_size e
  | ins C dx fs => obtain ⟨_, _, _, e, _⟩ := x; exact Heap.lt_size e
  | own y => obtain ⟨_, e⟩ := x; exact Heap.lt_size e
  | xd fs => obtain ⟨_, ⟨_, _, _, e, _⟩, _⟩ := x; exact Heap.lt_size e
  | rng lo hi => obtain ⟨_, _, _, e⟩ := x; exact Heap.lt_size e
  | frz ob u => obtain ⟨e, _⟩ := x; exact Heap.lt_size e
  | tbl ps => exact Heap.lt_size (show h.get? a = some _ from x)
  | met f y => exact Heap.lt_size (show h.get? a = some _ from x)
  | ext φ => obtain ⟨_, ⟨_, e⟩, _⟩ := x; exact Heap.lt_size e
theorem Paired.mapP {α β : Type} {F G : α → β → Prop} : ∀ {l₁ : List α} {l₂ : List β}, Paired F l₁ l₂ → (∀ a b, F a b → G a b) → Paired G l₁ l₂
  | _, _, .nil, _ => .nil
  | _, _, .cons r t, f => .cons (f _ _ r) (Paired.mapP t f)
/-- what an object's description leans on: its own object, its own dict, the tuples -/
theorem ObjOk.stay (x : ObjOk P w H h a o) (k : ∀ b u, (b = a ∨ H b = some (.own a)) → h.get? b = some u → h'.get? b = some u)
    (ho : ∀ b, H b = some (.own a) → H' b = some (.own a)) (ht : ∀ b xs, H b = some (.tup xs) → H' b = some (.tup xs)) : ObjOk P w H' h' a o := by
  induction o with
  | lst xs => obtain ⟨z, its, n, r, e⟩ := x; exact ⟨z, its, n, r, k _ _ (.inl rfl) e⟩
  | tup xs => obtain ⟨z, its, r, ob, e, c⟩ := x; exact ⟨z, its, r, ob, k _ _ (.inl rfl) e, c⟩
  | dK kvs => obtain ⟨z, y, vs, r, ob, es, ep, e, c⟩ := x; exact ⟨z, y, vs, r, ob, es, ep, k _ _ (.inl rfl) e, c⟩
  | dT kvs =>
    obtain ⟨z, y, xs, r, ob, es, ep, e, c⟩ := x
    exact ⟨z, y, xs, Paired.mapP r fun p q z => ⟨z.1, ht _ _ z.2.1, z.2.2⟩, ob, es, ep, k _ _ (.inl rfl) e, c⟩
  | set S n => obtain ⟨ob, es, ep, t, e, c⟩ := x; exact ⟨ob, es, ep, t, k _ _ (.inl rfl) e, c⟩
  | ins C dx fs =>
    obtain ⟨d, z, ne, e, mA, ⟨od, es, ep, e2, c⟩, r⟩ := x
    exact ⟨ho _ d, z, ne, k _ _ (.inl rfl) e, mA, ⟨od, es, ep, k _ _ (.inr d) e2, c⟩, r⟩
  | own y => obtain ⟨ob, e⟩ := x; exact ⟨ob, k _ _ (.inl rfl) e⟩
  | xd fs => obtain ⟨mA, ⟨od, es, ep, e, c⟩, r⟩ := x; exact ⟨mA, ⟨od, es, ep, k _ _ (.inl rfl) e, c⟩, r⟩
  | rng lo hi => obtain ⟨t, u, v, e⟩ := x; exact ⟨t, u, v, k _ _ (.inl rfl) e⟩
  | frz ob u ih => obtain ⟨e, q⟩ := x; exact ⟨k _ _ (.inl rfl) e, ih q⟩
  | tbl ps =>
    have e : h.get? a = some { cls := .none, data := .fields ps } := x
    show h'.get? a = some { cls := .none, data := .fields ps }
    exact k a _ (.inl rfl) e
  | met f y =>
    have e : h.get? a = some (PySem.W.methodObj (.ref f) (.ref y)) := x
    show h'.get? a = some (PySem.W.methodObj (.ref f) (.ref y))
    exact k a _ (.inl rfl) e
  | ext φ => obtain ⟨p, ⟨o, e⟩, st⟩ := x; exact ⟨st _ _ p fun o q => k _ _ (.inl rfl) q, ⟨o, k _ _ (.inl rfl) e⟩, st⟩
theorem HOk.lt (x : HOk P w H h) (e : H a = some o) : a < h.objs.size := (x a o e).lt
theorem HOk.fresh (x : HOk P w H h) (e : h.objs.size ≤ a) : H a = none := by
  cases q : H a with
  | none => rfl
  | some u => exact absurd (Nat.lt_of_lt_of_le (x.lt q) e) (Nat.lt_irrefl _)
/-- every object of the heap is kept -/
theorem HOk.kept (x : HOk P w H h) (k : ∀ b u, h.get? b = some u → h'.get? b = some u) : HOk P w H h' := fun a o e =>
  (x a o e).stay (fun b u _ q => k b u q) (fun _ q => q) fun _ _ q => q
/-- a new object is laid and tracked -/
theorem HOk.laid (x : HOk P w H h) (k : ∀ b u, h.get? b = some u → h'.get? b = some u) (hp : h.objs.size ≤ a) (new : ObjOk P w (upd H a o) h' a o) : HOk P w (upd H a o) h' := fun b u e => by
  have hn := x.fresh hp
  by_cases hb : b = a
  · subst hb; rw [upd_same] at e; cases e; exact new
  · rw [upd_ne hb] at e
    exact (x b u e).stay (fun c v _ q => k c v q) (fun c q => by rw [upd_ne (ne_of_none q hn)]; exact q) fun c xs q => by rw [upd_ne (ne_of_none q hn)]; exact q
end

/-- what may be read as u: it is u, or a known u -/
def Rd (H : Hp) (a : Addr) (u : HO) : Prop := H a = some u ∨ ∃ o, H a = some (.frz o u)
theorem Rd.ok {P : Program} {w : World} {H : Hp} {h : Heap} {a : Addr} {u : HO} (r : Rd H a u) (x : HOk P w H h) : ObjOk P w H h a u := by
  rcases r with r | ⟨o, r⟩
  · exact x a u r
  · obtain ⟨_, q⟩ := x a _ r
    exact q
/-- what may be written -/
def Mut : Option HO → Prop
  | some (.lst _) => True
  | some (.dK _) => True
  | some (.dT _) => True
  | some (.set _ _) => True
  | some (.ins _ _ _) => True
  | some (.ext _) => True
  | _ => False
section
variable {P : Program} {w : World} {H : Hp} {h h' : Heap} {x e : Addr} {o' : HO}
/-- the object at e is changed: x itself, or the dict of the instance x -/
theorem HOk.write (ok : HOk P w H h) (mu : Mut (H x)) (he : e = x ∨ H e = some (.own x)) (k : ∀ b u, b ≠ e → h.get? b = some u → h'.get? b = some u) (heo : ∃ u, h'.get? e = some u)
    (new : ObjOk P w (upd H x o') h' x o') : HOk P w (upd H x o') h' := fun b u q => by
  have nown : ∀ c y, H c = some (.own y) → c ≠ x := fun c y r z => by subst z; rw [r] at mu; exact mu
  have ntup : ∀ c xs, H c = some (.tup xs) → c ≠ x := fun c xs r z => by subst z; rw [r] at mu; exact mu
  by_cases hb : b = x
  · subst hb; rw [upd_same] at q; cases q; exact new
  · rw [upd_ne hb] at q
    by_cases hbe : b = e
    · have q' : H b = some (.own x) := by
        rcases he with z | z
        · exact absurd (hbe.trans z) hb
        · rw [hbe]; exact z
      rw [q] at q'; cases q'
      obtain ⟨v, hv⟩ := heo
      exact ⟨v, by rw [hbe]; exact hv⟩
    · refine (ok b u q).stay (fun c v hc r => k c v ?_ r) (fun c r => by rw [upd_ne (nown c b r)]; exact r) fun c xs r => by rw [upd_ne (ntup c xs r)]; exact r
      rcases hc with rfl | hc
      · exact hbe
      · rintro rfl
        rcases he with z | z
        · exact nown c b hc z
        · rw [hc] at z; cases z; exact hb rfl
end

/-! ### kept unless tracked; of the frames at fs (the callers') the slots may change (an exception that passes writes there); of the records at ex (iterators) nothing is said -/
structure Un (fs ex : List Addr) (H H' : Hp) (h h' : Heap) : Prop where
  keep : ∀ b o, h.get? b = some o → H b = none → b ∉ fs → b ∉ ex → h'.get? b = some o
  slot : ∀ b o, h.get? b = some o → H b = none → b ∈ fs → b ∉ ex → ∃ sl, h'.get? b = some { o with slots := sl }
  free : ∀ b o, h.get? b = some o → H b = none → b ∉ ex → H' b = none
  there : ∀ b o, h.get? b = some o → b ∉ ex → ∃ o', h'.get? b = some o'
  tups : ∀ b xs, H b = some (.tup xs) → H' b = some (.tup xs)
  frzs : ∀ b o u, H b = some (.frz o u) → H' b = some (.frz o u)
  tbls : ∀ b ps, H b = some (.tbl ps) → ∃ more, H' b = some (.tbl (ps ++ more))
section
variable {fs fs' ex ex' : List Addr} {H H1 H2 : Hp} {h h1 h2 h' : Heap} {a x e : Addr} {o : HO}
theorem Un.any (u : Un fs ex H H1 h h1) {b : Addr} {ob : Obj} (q : h.get? b = some ob) (n : H b = none) (hx : b ∉ ex) : ∃ sl, h1.get? b = some { ob with slots := sl } := by
  by_cases hb : b ∈ fs
  · exact u.slot b ob q n hb hx
  · exact ⟨ob.slots, u.keep b ob q n hb hx⟩
theorem Un.kept (k : ∀ b u, h.get? b = some u → h'.get? b = some u) : Un fs ex H H h h' :=
  ⟨fun b ob q _ _ _ => k b ob q, fun b ob q _ _ _ => ⟨ob.slots, k b ob q⟩, fun _ _ _ n _ => n, fun b ob q _ => ⟨ob, k b ob q⟩, fun _ _ q => q, fun _ _ _ q => q, fun _ ps q => ⟨#[], by rw [q]; simp⟩⟩
theorem Un.refl : Un fs ex H H h h := Un.kept fun _ _ q => q
theorem Un.laid (k : ∀ b u, h.get? b = some u → h'.get? b = some u) (hp : h.objs.size ≤ a) (hn : H a = none) : Un fs ex H (upd H a o) h h' where
  keep := fun b u q _ _ _ => k b u q
  slot := fun b u q _ _ _ => ⟨u.slots, k b u q⟩
  free := fun b u q n _ => by rw [upd_ne (Nat.ne_of_lt (Nat.lt_of_lt_of_le (Heap.lt_size q) hp))]; exact n
  there := fun b u q _ => ⟨u, k b u q⟩
  tups := fun b xs q => by rw [upd_ne (ne_of_none q hn)]; exact q
  frzs := fun b u xs q => by rw [upd_ne (ne_of_none q hn)]; exact q
  tbls := fun b ps q => ⟨#[], by rw [upd_ne (ne_of_none q hn), q]; simp⟩
theorem Un.write (mu : Mut (H x)) (he : e = x ∨ H e = some (.own x)) (k : ∀ b u, b ≠ e → h.get? b = some u → h'.get? b = some u) (heo : ∃ u, h'.get? e = some u) : Un fs ex H (upd H x o) h h' := by
  have hx : ∀ b, H b = none → b ≠ x := fun b n z => by subst z; rw [n] at mu; exact mu
  have hb : ∀ b, H b = none → b ≠ e := fun b n z => by
    subst z
    rcases he with r | r
    · exact hx b n r
    · rw [n] at r; cases r
  have hm : ∀ b u, H b = some u → ¬ Mut (some u) → b ≠ x := fun b u q nm z => by subst z; rw [q] at mu; exact nm mu
  refine ⟨fun b u q n _ _ => k b u (hb b n) q, fun b u q n _ _ => ⟨u.slots, k b u (hb b n) q⟩, fun b u q n _ => by rw [upd_ne (hx b n)]; exact n, fun b u q _ => ?_,
    fun b xs q => by rw [upd_ne (hm b _ q fun z => z)]; exact q, fun b u xs q => by rw [upd_ne (hm b _ q fun z => z)]; exact q, fun b ps q => ⟨#[], by rw [upd_ne (hm b _ q fun z => z), q]; simp⟩⟩
  by_cases hbe : b = e
  · subst hbe; exact heo
  · exact ⟨u, k b u hbe q⟩
end

/-! ### the heap without what is tracked -/
def trk (h : Heap) (H : Hp) : List Addr := (List.range h.objs.size).filter fun a => (H a).isSome
def hidT (h : Heap) (H : Hp) : Heap := PySem.W.hideAll h (trk h H)
theorem hidT_size (h : Heap) (H : Hp) : (hidT h H).objs.size = h.objs.size := PySem.W.hideAll_size _ _
theorem hidT_get {h : Heap} {H : Hp} {b : Addr} {o : Obj} (e : h.get? b = some o) (n : H b = none) : (hidT h H).get? b = some o :=
  PySem.W.hideAll_get _ e fun hm => by
    have q : (H b).isSome = true := (List.mem_filter.mp hm).2
    rw [n] at q; simp at q
theorem of_hidT {h : Heap} {H : Hp} {b : Addr} {o : Obj} (e : (hidT h H).get? b = some o) : h.get? b = some o ∧ H b = none := by
  have e' : h.get? b = some o := PySem.W.of_hideAll (trk h H) e
  refine ⟨e', ?_⟩
  cases q : H b with
  | none => rfl
  | some x =>
    have hm : b ∈ trk h H := List.mem_filter.mpr ⟨List.mem_range.mpr (Heap.lt_size e'), by simp [q]⟩
    have z : (hidT h H).get? b = none := PySem.W.hideAll_none (trk h H) hm
    rw [z] at e; cases e

/-! ### OpenK's ledger, filled with every new object but one -/
def allNews (g h : Heap) (L : Addr) : List (Addr × Obj) := (List.range h.objs.size).filterMap fun a => if a = L ∨ (g.get? a).isSome = true then none else (h.get? a).map fun o => (a, o)
def rest (g h : Heap) (L d : Addr) : List (Addr × Obj) := (allNews g h L).filter fun p => decide (p.1 ≠ d)
end L2

namespace L2
open PySem PySem.Spec PyProof.Rows

/-- the module's facts, over the base: the heap at the law's entry without what is tracked there -/
structure Mod (K : PySem.W.Frag) (mg : Str → Option Value) (base : Heap) : Prop where
  kin : K.In base
  glob : base.Ns mainGlobals mg
  blt : ∃ mb, base.Ns builtinsNs mb ∧ ∀ x : Str, x ≠ "__name__" → mb x = bootBuiltins x
  nolimit : base.NoLimit

/-- the context: a def's body (or a comprehension's block) running. base: fixed through the whole law; s₀, H₀: the entry; outer: the frames whose slots others may change (a def's callers); stack: all frames that run;
   ex: iterators that were made ahead of the entry and are walked here (a comprehension's); fn: the names whose cells were made at the entry (a def: all; a comprehension's block: its own); calm: not within an except suite; pn: pins that every state bears; xe: what is wanted of an exception that leaves the code -/
structure Cx where
  prog : Program
  w : World
  K : PySem.W.Frag
  mg : Str → Option Value
  base : Heap
  A : Around
  N : List Str
  s₀ : Shared
  H₀ : Hp
  env : Env
  outer : List Env
  stack : List Env
  ex : List Addr
  fn : Str → Bool
  calm : Bool
  pn : List (Addr × Obj)
  xe : Value → Shared → Prop
/-- the callers' frames -/
def frs (l : List Env) : List Addr := l.filterMap (·.frame)
abbrev Cx.fs (X : Cx) : List Addr := frs X.outer

def Vis (sc : Scope) (x : Str) : Prop := sc.names.lookup x = some .local ∨ sc.names.lookup x = some .cell ∨ sc.names.lookup x = some .free
def Loc (sc : Scope) (x : Str) : Prop := sc.names.lookup x = some .local ∨ sc.names.lookup x = some .cell
def Look (env : Env) (h : Heap) (m : Str → Option Value) (x : Str) (u : Value) : Prop :=
  (env.kindOf x = some .local ∧ m x = some u) ∨ ((env.kindOf x = some .cell ∨ env.kindOf x = some .free) ∧ ∃ c, env.cells.lookup x = some c ∧ h.IsCell c (some u))

structure Cx.Ok (X : Cx) : Prop where
  mod : Mod X.K X.mg X.base
  kind : X.env.scope.kind = .function
  glob : X.env.globals = mainGlobals
  blt : X.env.builtins = builtinsNs
  above : X.s₀.heap.objs.size ≤ X.env.locals
  inj : ∀ x y c, X.env.cells.lookup x = some c → X.env.cells.lookup y = some c → x = y
  has : ∀ x, (X.env.kindOf x = some .cell ∨ X.env.kindOf x = some .free) → ∃ c, X.env.cells.lookup x = some c
  cab : ∀ x c, X.fn x = true → X.env.cells.lookup x = some c → X.s₀.heap.objs.size ≤ c
  hd : X.calm = true → X.A.handled = none
  frames : X.A.frames = some X.stack
  stk : X.stack = X.outer ∨ (X.stack = X.env :: X.outer ∧ X.env.frame = some X.env.locals)
  exf : ∀ b ∈ X.ex, b ≠ X.env.locals ∧ ∀ x c, X.env.cells.lookup x = some c → c ≠ b
  bs : ∀ b o, X.base.get? b = some o → X.s₀.heap.get? b = some o ∧ X.H₀ b = none
  bsz : X.base.objs.size ≤ X.s₀.heap.objs.size
  noex : ∀ b o, X.base.get? b = some o → b ∉ X.ex
  exfs : ∀ b ∈ X.ex, b ∉ X.fs
  funs : X.s₀.heap.FunFrames X.base X.outer
  frf : ∀ b ∈ X.fs, X.H₀ b = none

structure Inv (X : Cx) (pins : List (Addr × Obj)) (σ : List (Option V)) (H : Hp) (s : Shared) : Prop where
  ok : X.Ok
  os : s.os = X.s₀.os
  bare : AllBare s.gens
  base : Un X.fs X.ex X.H₀ H X.s₀.heap s.heap
  loc : ∃ m, s.heap.Ns X.env.locals m ∧ ∀ (i : Nat) (x : Str) (v : V), X.N[i]? = some x → σ[i]? = some (some v) → Vis X.env.scope x → ∃ u, RelV v u ∧ Look X.env s.heap m x u
  cell : ∀ x c, X.env.cells.lookup x = some c → ∃ v, s.heap.IsCell c v
  free : H X.env.locals = none
  freeC : ∀ x c, X.env.cells.lookup x = some c → H c = none
  pin : ∀ p ∈ X.pn ++ pins, s.heap.get? p.1 = some p.2 ∧ H p.1 = none ∧ p.1 ≠ X.env.locals ∧ p.1 ∉ X.fs ∧ ∀ v, p.2.data ≠ .cell v
  hok : HOk X.prog X.w H s.heap
  len : σ.length = X.N.length

section
variable {X : Cx} {pins : List (Addr × Obj)} {σ : List (Option V)} {H H' : Hp} {s : Shared} {h' : Heap}

theorem Cx.Ok.nofr (ok : X.Ok) {b : Addr} {o : Obj} (e : X.base.get? b = some o) : b ∉ X.fs := fun hb => by
  have := (ok.funs.mem hb).1
  rw [e] at this; cases this
theorem Inv.bs (I : Inv X pins σ H s) : ∀ b o, X.base.get? b = some o → s.heap.get? b = some o ∧ H b = none := fun b o e =>
  ⟨I.base.keep b o (I.ok.bs b o e).1 (I.ok.bs b o e).2 (I.ok.nofr e) (I.ok.noex b o e), I.base.free b o (I.ok.bs b o e).1 (I.ok.bs b o e).2 (I.ok.noex b o e)⟩
theorem Inv.bk (I : Inv X pins σ H s) : ∀ b o, X.base.get? b = some o → s.heap.get? b = some o := fun b o e => (I.bs b o e).1
theorem Inv.mod (I : Inv X pins σ H s) : Mod X.K X.mg X.base := I.ok.mod
theorem Inv.kIn (I : Inv X pins σ H s) : X.K.In s.heap := I.ok.mod.kin.keeps I.bk
theorem Inv.lt (I : Inv X pins σ H s) : X.env.locals < s.heap.objs.size := let ⟨_, hn, _⟩ := I.loc; hn.lt
theorem Inv.sz (I : Inv X pins σ H s) : X.s₀.heap.objs.size ≤ s.heap.objs.size := Nat.le_trans I.ok.above (Nat.le_of_lt I.lt)
theorem Inv.nofs (I : Inv X pins σ H s) {a : Addr} (h : s.heap.objs.size ≤ a) : a ∉ X.fs := fun hb => by
  obtain ⟨_, o, ho, _⟩ := I.ok.funs.mem hb
  exact absurd (Nat.lt_of_lt_of_le (Heap.lt_size ho) (Nat.le_trans I.sz h)) (Nat.lt_irrefl _)
theorem Inv.cne (I : Inv X pins σ H s) : ∀ x c, X.env.cells.lookup x = some c → c ≠ X.env.locals := fun x c e z => by
  obtain ⟨v, o, ho, hd⟩ := I.cell x c e
  obtain ⟨m, ⟨o', es, ep, ho', hd', _⟩, _⟩ := I.loc
  rw [z, ho'] at ho; cases ho; rw [hd'] at hd; cases hd
theorem Inv.funs (I : Inv X pins σ H s) : s.heap.FunFrames X.base X.outer := by
  have all : ∀ (l : List Env), (∀ b ∈ frs l, b ∈ X.fs) → X.s₀.heap.FunFrames X.base l → s.heap.FunFrames X.base l := by
    intro l
    induction l with
    | nil => intro _ _; trivial
    | cons env r ih =>
      intro hs hl
      obtain ⟨hk, ⟨L, o, hf, hn, ho, hd⟩, hr⟩ := hl
      have hL : L ∈ X.fs := hs L (by unfold frs; rw [List.filterMap_cons, hf]; exact List.mem_cons_self)
      obtain ⟨sl, e⟩ := I.base.slot L o ho (I.ok.frf L hL) hL fun z => I.ok.exfs L z hL
      exact ⟨hk, ⟨L, _, hf, hn, e, hd⟩, ih (fun b hb => hs b (by unfold frs; rw [List.filterMap_cons, hf]; exact List.mem_cons_of_mem _ hb)) hr⟩
  exact all X.outer (fun _ hb => hb) I.ok.funs

/-- the frames that run, for a call -/
theorem Inv.stack (I : Inv X pins σ H s) : s.heap.FunFrames X.base X.stack := by
  rcases I.ok.stk with e | ⟨e, hf⟩
  · rw [e]; exact I.funs
  · rw [e]
    obtain ⟨m, hn, _⟩ := I.loc
    refine .cons (by rw [I.ok.kind]; decide) hf hn ?_ I.funs
    exact Heap.get?_none_of_le (Nat.le_trans I.ok.bsz I.ok.above)
theorem Inv.stkSub (I : Inv X pins σ H s) : ∀ b ∈ frs X.stack, b ∈ X.env.locals :: X.fs := fun b hb => by
  rcases I.ok.stk with e | ⟨e, hf⟩
  · rw [e] at hb; exact List.mem_cons_of_mem _ hb
  · rw [e] at hb
    unfold frs at hb
    rw [List.filterMap_cons, hf] at hb
    exact hb
theorem Inv.stkFree (I : Inv X pins σ H s) : ∀ b ∈ frs X.stack, H b = none := fun b hb => by
  rcases List.mem_cons.mp (I.stkSub b hb) with e | hb
  · rw [e]; exact I.free
  · obtain ⟨_, o, ho, _⟩ := I.ok.funs.mem hb
    exact I.base.free b o ho (I.ok.frf b hb) fun z => I.ok.exfs b z hb

/-- THE STEP: the untracked objects but the frame and the records at ch are kept (the callers' frames up to slots), the frame's map is kept, the new abstract heap is held -/
theorem Inv.step {g' : Array GenState} {t' : Nat} {d' : Drawn} {ch : List Addr} (I : Inv X pins σ H s)
    (hch : ∀ b ∈ ch, (b ∈ X.ex ∨ X.s₀.heap.objs.size ≤ b) ∧ b ≠ X.env.locals ∧ (∀ x c, X.env.cells.lookup x = some c → c ≠ b) ∧ ∀ p ∈ X.pn ++ pins, p.1 ≠ b)
    (keep : ∀ b o, b ≠ X.env.locals → b ∉ X.fs → b ∉ ch → s.heap.get? b = some o → H b = none → h'.get? b = some o)
    (slot : ∀ b o, b ≠ X.env.locals → b ∈ X.fs → b ∉ ch → s.heap.get? b = some o → H b = none → ∃ sl, h'.get? b = some { o with slots := sl }) (free : ∀ b o, b ∉ ch → s.heap.get? b = some o → H b = none → H' b = none)
    (there : ∀ b o, b ∉ ch → s.heap.get? b = some o → ∃ o', h'.get? b = some o')
    (tups : ∀ b xs, H b = some (.tup xs) → H' b = some (.tup xs)) (frzs : ∀ b o u, H b = some (.frz o u) → H' b = some (.frz o u)) (tbls : ∀ b ps, H b = some (.tbl ps) → ∃ more, H' b = some (.tbl (ps ++ more)))
    (ns : ∀ m, s.heap.Ns X.env.locals m → h'.Ns X.env.locals m) (hok : HOk X.prog X.w H' h') (hg : AllBare g') :
    Inv X pins σ H' { s with heap := h', gens := g', drawn := d', toks := t' } := by
  have neL : ∀ b o, X.s₀.heap.get? b = some o → b ≠ X.env.locals := fun b o e => Nat.ne_of_lt (Nat.lt_of_lt_of_le (Heap.lt_size e) I.ok.above)
  have neC : ∀ b o, X.s₀.heap.get? b = some o → b ∉ X.ex → b ∉ ch := fun b o e hx hb => by
    rcases (hch b hb).1 with z | z
    · exact hx z
    · exact absurd (Nat.lt_of_lt_of_le (Heap.lt_size e) z) (Nat.lt_irrefl _)
  have cellK : ∀ x c, X.env.cells.lookup x = some c → ∀ v, s.heap.IsCell c v → h'.IsCell c v := fun x c e v ⟨o, ho, hd⟩ => by
    have nch : c ∉ ch := fun z => (hch c z).2.2.1 x c e rfl
    by_cases hc : c ∈ X.fs
    · obtain ⟨sl, q⟩ := slot c o (I.cne x c e) hc nch ho (I.freeC x c e)
      exact ⟨_, q, hd⟩
    · exact ⟨o, keep c o (I.cne x c e) hc nch ho (I.freeC x c e), hd⟩
  refine ⟨I.ok, I.os, hg, ⟨fun b o e n hb hx => ?_, fun b o e n hb hx => ?_, fun b o e n hx => ?_, fun b o e hx => ?_, fun b xs e => tups b xs (I.base.tups b xs e), fun b o xs e => frzs b o xs (I.base.frzs b o xs e), fun b ps e => ?_⟩, ?_, fun x c e => ?_, ?_, fun x c e => ?_, fun p hp => ?_, hok, I.len⟩
  · exact keep b o (neL b o e) hb (neC b o e hx) (I.base.keep b o e n hb hx) (I.base.free b o e n hx)
  · obtain ⟨sl, e1⟩ := I.base.slot b o e n hb hx
    obtain ⟨sl', e2⟩ := slot b _ (neL b o e) hb (neC b o e hx) e1 (I.base.free b o e n hx)
    exact ⟨sl', e2⟩
  · obtain ⟨o', e1⟩ := I.base.there b o e hx
    exact free b o' (neC b o e hx) e1 (I.base.free b o e n hx)
  · obtain ⟨o', e1⟩ := I.base.there b o e hx
    exact there b o' (neC b o e hx) e1
  · obtain ⟨m1, e1⟩ := I.base.tbls b ps e
    obtain ⟨m2, e2⟩ := tbls b _ e1
    exact ⟨m1 ++ m2, by rw [e2, Array.append_assoc]⟩
  · obtain ⟨m, hn, hl⟩ := I.loc
    refine ⟨m, ns m hn, fun i x v e1 e2 e3 => ?_⟩
    obtain ⟨u, r, l⟩ := hl i x v e1 e2 e3
    refine ⟨u, r, ?_⟩
    rcases l with l | ⟨k, c, e, z⟩
    · exact .inl l
    · exact .inr ⟨k, c, e, cellK x c e _ z⟩
  · obtain ⟨v, z⟩ := I.cell x c e
    exact ⟨v, cellK x c e v z⟩
  · obtain ⟨m, ⟨o, _, _, ho, _⟩, _⟩ := I.loc
    exact free _ o (fun z => (hch _ z).2.1 rfl) ho I.free
  · obtain ⟨v, o, ho, hd⟩ := I.cell x c e
    exact free c o (fun z => (hch c z).2.2.1 x c e rfl) ho (I.freeC x c e)
  · obtain ⟨e, n, ne, nf, d⟩ := I.pin p hp
    have nch : p.1 ∉ ch := fun z => (hch p.1 z).2.2.2 p hp rfl
    exact ⟨keep p.1 p.2 ne nf nch e n, free p.1 p.2 nch e n, ne, nf, d⟩
/-- .. where the frame's own object is kept too -/
theorem Inv.un {t' : Nat} (I : Inv X pins σ H s) (u : Un X.fs [] H H' s.heap h') (hok : HOk X.prog X.w H' h') : Inv X pins σ H' { s with heap := h', toks := t' } := by
  obtain ⟨m, ⟨o, es, ep, ho, r⟩, _⟩ := id I.loc
  obtain ⟨sl, hL⟩ := u.any ho I.free (by simp)
  exact I.step (g' := s.gens) (d' := s.drawn) (ch := []) (fun _ z => nomatch z) (fun b o _ hb _ e n => u.keep b o e n hb (by simp)) (fun b o _ hb _ e n => u.slot b o e n hb (by simp)) (fun b o _ e n => u.free b o e n (by simp)) (fun b o _ e => u.there b o e (by simp)) u.tups u.frzs u.tbls (fun m' hm => by
    obtain ⟨o', es', ep', ho', r'⟩ := hm
    rw [ho] at ho'; cases ho'
    exact ⟨_, es', ep', hL, r'⟩) hok I.bare
/-- behind a call (or a comprehension's block): the slots of this frame may have changed too, the records at ch may have turned -/
theorem Inv.call {g' : Array GenState} {t' : Nat} {d' : Drawn} {ch : List Addr} (I : Inv X pins σ H s) (u : Un (frs X.stack) ch H H' s.heap h') (hok : HOk X.prog X.w H' h') (hg : AllBare g')
    (hch : ∀ b ∈ ch, (b ∈ X.ex ∨ X.s₀.heap.objs.size ≤ b) ∧ b ≠ X.env.locals ∧ (∀ x c, X.env.cells.lookup x = some c → c ≠ b) ∧ ∀ p ∈ X.pn ++ pins, p.1 ≠ b) :
    Inv X pins σ H' { s with heap := h', gens := g', drawn := d', toks := t' } := by
  obtain ⟨m, ⟨o, es, ep, ho, r⟩, _⟩ := id I.loc
  obtain ⟨sl, hL⟩ := u.any ho I.free fun z => (hch _ z).2.1 rfl
  exact I.step (ch := ch) hch (fun b o hL hb hc e n => u.keep b o e n (fun z => (List.mem_cons.mp (I.stkSub b z)).elim hL hb) hc) (fun b o _ _ hc e n => u.any e n hc) (fun b o hc e n => u.free b o e n hc) (fun b o hc e => u.there b o e hc) u.tups u.frzs u.tbls (fun m' hm => by
    obtain ⟨o', es', ep', ho', r'⟩ := hm
    rw [ho] at ho'; cases ho'
    exact ⟨_, es', ep', hL, r'⟩) hok hg
/-- an untracked record of ours (an iterator) has turned -/
theorem Inv.turned {t' : Nat} {it : Addr} (I : Inv X pins σ H s) (k : ∀ b o, b ≠ it → s.heap.get? b = some o → h'.get? b = some o) (hn : H it = none) (hL : it ≠ X.env.locals)
    (h1 : it ∈ X.ex ∨ X.s₀.heap.objs.size ≤ it) (h2 : ∀ x c, X.env.cells.lookup x = some c → c ≠ it) (h3 : ∀ p ∈ X.pn ++ pins, p.1 ≠ it) : Inv X pins σ H { s with heap := h', toks := t' } := by
  have nit : ∀ b u, H b = some u → b ≠ it := fun b u e z => by rw [z, hn] at e; cases e
  refine I.step (g' := s.gens) (d' := s.drawn) (ch := [it]) (fun b hb => ?_) (fun b o _ _ hc e _ => k b o (fun z => hc (by simp [z])) e) (fun b o _ _ hc e _ => ⟨o.slots, k b o (fun z => hc (by simp [z])) e⟩) (fun _ _ _ _ n => n)
    (fun b o hc e => ⟨o, k b o (fun z => hc (by simp [z])) e⟩) (fun _ _ e => e) (fun _ _ _ e => e) (fun b ps e => ⟨#[], by rw [e]; simp⟩) (fun m hm => ?_) (fun b u e => ?_) I.bare
  · have e : b = it := by simpa using hb
    subst e
    exact ⟨h1, hL, h2, h3⟩
  · obtain ⟨o, es, ep, ho, r⟩ := hm
    exact ⟨o, es, ep, k _ o (Ne.symm hL) ho, r⟩
  · refine (I.hok b u e).stay (fun c v hc q => k c v ?_ q) (fun _ q => q) fun _ _ q => q
    rcases hc with z | z
    · rw [z]; exact nit b u e
    · exact nit c _ z
theorem Inv.tok (I : Inv X pins σ H s) (t : Nat) : Inv X pins σ H { s with toks := t } := I.un (h' := s.heap) (t' := t) Un.refl I.hok
/-- all objects kept -/
theorem Inv.kept {t' : Nat} (I : Inv X pins σ H s) (k : ∀ b u, s.heap.get? b = some u → h'.get? b = some u) : Inv X pins σ H { s with heap := h', toks := t' } := I.un (Un.kept k) (I.hok.kept k)
/-- a new object laid and tracked -/
theorem Inv.laid {a : Addr} {o : HO} {t' : Nat} (I : Inv X pins σ H s) (k : ∀ b u, s.heap.get? b = some u → h'.get? b = some u) (hp : s.heap.objs.size ≤ a) (new : ObjOk X.prog X.w (upd H a o) h' a o) :
    Inv X pins σ (upd H a o) { s with heap := h', toks := t' } := I.un (Un.laid k hp (I.hok.fresh hp)) (I.hok.laid k hp new)
/-- an object written -/
theorem Inv.write {x e : Addr} {o : HO} {t' : Nat} (I : Inv X pins σ H s) (mu : Mut (H x)) (he : e = x ∨ H e = some (.own x)) (k : ∀ b u, b ≠ e → s.heap.get? b = some u → h'.get? b = some u) (heo : ∃ u, h'.get? e = some u)
    (new : ObjOk X.prog X.w (upd H x o) h' x o) : Inv X pins σ (upd H x o) { s with heap := h', toks := t' } := I.un (Un.write mu he k heo) (I.hok.write mu he k heo new)
theorem Inv.pins_of {pins' : List (Addr × Obj)} (I : Inv X pins σ H s) (h : ∀ p ∈ pins', s.heap.get? p.1 = some p.2 ∧ H p.1 = none ∧ p.1 ≠ X.env.locals ∧ p.1 ∉ X.fs ∧ ∀ v, p.2.data ≠ .cell v) : Inv X pins' σ H s :=
  ⟨I.ok, I.os, I.bare, I.base, I.loc, I.cell, I.free, I.freeC, fun p hp => (List.mem_append.mp hp).elim (fun z => I.pin p (List.mem_append_left _ z)) (h p), I.hok, I.len⟩

theorem nodup_ix {N : List Str} (hN : N.Nodup) {i j : Nat} {x : Str} (a : N[i]? = some x) (b : N[j]? = some x) : i = j := by
  obtain ⟨h1, e1⟩ := List.getElem?_eq_some_iff.mp a
  obtain ⟨h2, e2⟩ := List.getElem?_eq_some_iff.mp b
  exact (List.getElem_inj hN).mp (e1.trans e2.symm)

/-- a name is stored; what changed -/
theorem store_ok2 {M : Model} {A : Around} {E : Value → Shared → Prop} {i : Nat} {x : Str} {v : V} {u : Value} {Q : Unit → Shared → Prop} (I : Inv X pins σ H s) (hN : X.N.Nodup) (hi : X.N[i]? = some x) (hx : Loc X.env.scope x) (r : RelV v u)
    (h : ∀ s', Inv X pins (σ.set i (some v)) H s' → (∃ a, Heap.SameBut a s.heap s'.heap ∧ (a = X.env.locals ∨ X.env.cells.lookup x = some a)) → Q () s') (hf : X.fn x = true ∨ X.env.scope.names.lookup x = some .local := by first | exact .inl rfl | exact .inr rfl | assumption) : wpAny M A (storeName X.env x u) Q E s := by
  obtain ⟨m, hn, hl⟩ := id I.loc
  have hcls : (X.env.scope.kind == .class || (X.env.scope.kind == .module && X.env.locals != X.env.globals)) = false := by rw [I.ok.kind]; rfl
  have hiσ : i < σ.length := by rw [I.len]; exact (List.getElem?_eq_some_iff.mp hi).1
  have cne := I.cne
  have tracked : ∀ {a : Addr} {h' : Heap}, (∃ o, s.heap.get? a = some o ∧ H a = none) → Heap.SameBut a s.heap h' → HOk X.prog X.w H h' := fun {a h'} ha hs b ob e => by
    obtain ⟨_, _, hfree⟩ := ha
    refine (I.hok b ob e).stay (fun c w' hc q => (hs.2 c ?_).trans q) (fun _ q => q) fun _ _ q => q
    rintro rfl
    rcases hc with rfl | hc
    · rw [hfree] at e; cases e
    · rw [hfree] at hc; cases hc
  rcases hx with hk | hk
  · refine wpAny_storeName_local hk hn (fun h' hn' hs => ?_) hcls
    obtain ⟨oL, _, _, hoL, _⟩ := id hn
    refine h _ ⟨I.ok, I.os, I.bare, ⟨fun b o e n hb hx => ?_, fun b o e n hb hx => ?_, I.base.free, fun b o e hx => ?_, I.base.tups, I.base.frzs, I.base.tbls⟩, ⟨_, hn', fun j y v' e1 e2 e3 => ?_⟩, fun y c e => ?_, I.free, I.freeC, fun p hp => ?_, tracked ⟨oL, hoL, I.free⟩ hs, by simpa using I.len⟩ ⟨_, hs, .inl rfl⟩
    · exact (hs.2 b (Nat.ne_of_lt (Nat.lt_of_lt_of_le (Heap.lt_size e) I.ok.above))).trans (I.base.keep b o e n hb hx)
    · obtain ⟨sl, e1⟩ := I.base.slot b o e n hb hx
      exact ⟨sl, (hs.2 b (Nat.ne_of_lt (Nat.lt_of_lt_of_le (Heap.lt_size e) I.ok.above))).trans e1⟩
    · obtain ⟨o', e1⟩ := I.base.there b o e hx
      exact ⟨o', (hs.2 b (Nat.ne_of_lt (Nat.lt_of_lt_of_le (Heap.lt_size e) I.ok.above))).trans e1⟩
    · by_cases hj : j = i
      · subst hj
        rw [hi] at e1; cases e1
        rw [List.getElem?_set_self hiσ] at e2
        cases e2
        exact ⟨u, r, .inl ⟨hk, by simp⟩⟩
      · rw [List.getElem?_set_ne (Ne.symm hj)] at e2
        obtain ⟨u', r', q⟩ := hl j y v' e1 e2 e3
        refine ⟨u', r', ?_⟩
        rcases q with ⟨k, e⟩ | ⟨k, c, e, z⟩
        · refine .inl ⟨k, ?_⟩
          have : y ≠ x := fun e => hj (nodup_ix hN e1 (e ▸ hi))
          simp [this, e]
        · exact .inr ⟨k, c, e, z.sameBut hs (cne y c e)⟩
    · obtain ⟨w', z⟩ := I.cell y c e
      exact ⟨w', z.sameBut hs (cne y c e)⟩
    · obtain ⟨e, n, ne, nf, d⟩ := I.pin p hp
      exact ⟨(hs.2 p.1 ne).trans e, n, ne, nf, d⟩
  · have hfn : X.fn x = true := by
      rcases hf with z | z
      · exact z
      · rw [z] at hk; cases hk
    obtain ⟨c, hc⟩ := I.ok.has x (.inl hk)
    obtain ⟨w', z⟩ := I.cell x c hc
    refine wpAny_storeName_cell I.ok.kind hk hc z (fun h' hc' hs => ?_)
    obtain ⟨oc, hoc, hocd⟩ := id z
    refine h { s with heap := h' } ⟨I.ok, I.os, I.bare, ⟨fun b o e n hb hx => ?_, fun b o e n hb hx => ?_, I.base.free, fun b o e hx => ?_, I.base.tups, I.base.frzs, I.base.tbls⟩, ⟨m, hn.sameBut hs (Ne.symm (cne x c hc)), fun j y v' e1 e2 e3 => ?_⟩, fun y c' e => ?_, I.free, I.freeC, fun p hp => ?_, tracked ⟨oc, hoc, I.freeC x c hc⟩ hs, by simpa using I.len⟩ ⟨c, hs, .inr hc⟩
    · exact (hs.2 b (Nat.ne_of_lt (Nat.lt_of_lt_of_le (Heap.lt_size e) (I.ok.cab x c hfn hc)))).trans (I.base.keep b o e n hb hx)
    · obtain ⟨sl, e1⟩ := I.base.slot b o e n hb hx
      exact ⟨sl, (hs.2 b (Nat.ne_of_lt (Nat.lt_of_lt_of_le (Heap.lt_size e) (I.ok.cab x c hfn hc)))).trans e1⟩
    · obtain ⟨o', e1⟩ := I.base.there b o e hx
      exact ⟨o', (hs.2 b (Nat.ne_of_lt (Nat.lt_of_lt_of_le (Heap.lt_size e) (I.ok.cab x c hfn hc)))).trans e1⟩
    · by_cases hj : j = i
      · subst hj
        rw [hi] at e1; cases e1
        rw [List.getElem?_set_self hiσ] at e2
        cases e2
        exact ⟨u, r, .inr ⟨.inl hk, c, hc, hc'⟩⟩
      · rw [List.getElem?_set_ne (Ne.symm hj)] at e2
        obtain ⟨u', r', q⟩ := hl j y v' e1 e2 e3
        refine ⟨u', r', ?_⟩
        rcases q with q | ⟨k, c', e, z'⟩
        · exact .inl q
        · refine .inr ⟨k, c', e, z'.sameBut hs ?_⟩
          rintro rfl
          exact hj (nodup_ix hN e1 (I.ok.inj _ _ _ e hc ▸ hi))
    · by_cases hcc : c' = c
      · subst hcc; exact ⟨_, hc'⟩
      · obtain ⟨w2, z2⟩ := I.cell y c' e
        exact ⟨w2, z2.sameBut hs hcc⟩
    · obtain ⟨e, n, ne, nf, d⟩ := I.pin p hp
      refine ⟨(hs.2 p.1 ?_).trans e, n, ne, nf, d⟩
      intro q
      rw [q, hoc] at e
      have q' : oc = p.2 := Option.some.inj e
      exact d w' (by rw [← q']; exact hocd)
theorem store_ok {M : Model} {A : Around} {E : Value → Shared → Prop} {i : Nat} {x : Str} {v : V} {u : Value} {Q : Unit → Shared → Prop} (I : Inv X pins σ H s) (hN : X.N.Nodup) (hi : X.N[i]? = some x) (hx : Loc X.env.scope x) (r : RelV v u)
    (h : ∀ s', Inv X pins (σ.set i (some v)) H s' → Q () s') (hf : X.fn x = true ∨ X.env.scope.names.lookup x = some .local := by first | exact .inl rfl | exact .inr rfl | assumption) : wpAny M A (storeName X.env x u) Q E s :=
  store_ok2 I hN hi hx r (fun s' I' _ => h s' I') hf
/-- behind a call or a block, the state as it is -/
theorem Inv.call' {s' : Shared} {ch : List Addr} (I : Inv X pins σ H s) (ho : s'.os = s.os) (u : Un (frs X.stack) ch H H' s.heap s'.heap) (hok : HOk X.prog X.w H' s'.heap) (hg : AllBare s'.gens)
    (hch : ∀ b ∈ ch, (b ∈ X.ex ∨ X.s₀.heap.objs.size ≤ b) ∧ b ≠ X.env.locals ∧ (∀ x c, X.env.cells.lookup x = some c → c ≠ b) ∧ ∀ p ∈ X.pn ++ pins, p.1 ≠ b) : Inv X pins σ H' s' := by
  obtain ⟨h', g', d', t', o'⟩ := s'
  have e : o' = s.os := ho
  subst e
  exact I.call (g' := g') (t' := t') (d' := d') u hok hg hch
end

/-! ### the judgements -/
/-- an exception: its class, its own dict's address (where it has one), the abstract heap behind it -/
abbrev XK := Value → Option Addr → Hp → Prop
abbrev St := List (Option V)
abbrev VK := V → Hp → Prop
/-- an expression's reading; a test's; an argument list's -/
abbrev TE := St → Hp → VK → Prop
abbrev TT := St → Hp → (Bool → Hp → Prop) → Prop
abbrev TA := St → Hp → (List V → Hp → Prop) → Prop
/-- what is wanted behind a statement -/
structure Ends where
  nx : St → Hp → Prop
  rt : VK
  bk : St → Hp → Prop := fun _ _ => False
  ct : St → Hp → Prop := fun _ _ => False
abbrev TS := Ends → St → Hp → Prop

def EP (X : Cx) (pins : List (Addr × Obj)) (σ : St) (Q : VK) (u : Value) (s' : Shared) : Prop := ∃ v H', Inv X pins σ H' s' ∧ RelV v u ∧ Q v H'
def TP (X : Cx) (pins : List (Addr × Obj)) (σ : St) (Q : Bool → Hp → Prop) (b : Bool) (s' : Shared) : Prop := ∃ H', Inv X pins σ H' s' ∧ Q b H'
def AP (X : Cx) (pins : List (Addr × Obj)) (σ : St) (Q : List V → Hp → Prop) (us : List Value) (s' : Shared) : Prop := ∃ vs H', Inv X pins σ H' s' ∧ Vals vs us ∧ Q vs H'
def SP (X : Cx) (pins : List (Addr × Obj)) (D : Ends) (f : Flow) (s' : Shared) : Prop :=
  match f with
  | .next => ∃ σ' H', Inv X pins σ' H' s' ∧ D.nx σ' H'
  | .brk => ∃ σ' H', Inv X pins σ' H' s' ∧ D.bk σ' H'
  | .cont => ∃ σ' H', Inv X pins σ' H' s' ∧ D.ct σ' H'
  | .ret u => ∃ v σ' H', Inv X pins σ' H' s' ∧ RelV v u ∧ D.rt v H'

def PE (X : Cx) (e : Expr) (t : TE) : Prop :=
  ∀ (pins : List (Addr × Obj)) (s : Shared) (σ : St) (H : Hp) (Q : VK), Inv X pins σ H s → t σ H Q → wpAny (model X.prog X.w) X.A (eval e X.env) (EP X pins σ Q) X.xe s
def PT (X : Cx) (e : Expr) (t : TT) : Prop :=
  ∀ (pins : List (Addr × Obj)) (s : Shared) (σ : St) (H : Hp) (Q : Bool → Hp → Prop), Inv X pins σ H s → t σ H Q → wpAny (model X.prog X.w) X.A (isTrue e X.env (eval e X.env)) (TP X pins σ Q) X.xe s
/-- a test whatever its 'whole' is (and, or) -/
def PW (X : Cx) (e : Expr) (t : TT) : Prop :=
  ∀ (whole : Sem Value) (pins : List (Addr × Obj)) (s : Shared) (σ : St) (H : Hp) (Q : Bool → Hp → Prop), Inv X pins σ H s → t σ H Q → wpAny (model X.prog X.w) X.A (isTrue e X.env whole) (TP X pins σ Q) X.xe s
theorem PW.pt {X : Cx} {e : Expr} {t : TT} (h : PW X e t) : PT X e t := h _
/-- an argument list (no star), from the left -/
def PA (X : Cx) (es : List Expr) (t : TA) : Prop :=
  ∀ (pos : Pos) (pins : List (Addr × Obj)) (s : Shared) (σ : St) (H : Hp) (Q : List V → Hp → Prop), Inv X pins σ H s → t σ H Q → wpAny (model X.prog X.w) X.A (spliced (backTo pos (starEach es X.env))) (AP X pins σ Q) X.xe s
def PS (X : Cx) (st : Stmt) (t : TS) : Prop :=
  ∀ (pins : List (Addr × Obj)) (s : Shared) (σ : St) (H : Hp) (D : Ends), Inv X pins σ H s → t D σ H → wpAny (model X.prog X.w) X.A (exec st X.env) (SP X pins D) X.xe s
def PSs (X : Cx) (st : List Stmt) (t : TS) : Prop :=
  ∀ (pins : List (Addr × Obj)) (s : Shared) (σ : St) (H : Hp) (D : Ends), Inv X pins σ H s → t D σ H → wpAny (model X.prog X.w) X.A (execs st X.env) (SP X pins D) X.xe s
/-- weaken the end -/
theorem thn {α : Type} {t : Sem α} {Q Q' : α → Shared → Prop} {M : Model} {A : Around} {E : Value → Shared → Prop} {s : Shared} (h : wpAny M A t Q E s) (hQ : ∀ a s, Q a s → Q' a s) : wpAny M A t Q' E s := wpAny_mono h hQ fun _ _ x => x
end L2

namespace L2
open PySem PySem.Spec PyProof.Rows
section
variable {X : Cx}


/-! ### names and constants -/
def tVar (i : Nat) : TE := fun σ H Q => ∃ v, σ[i]? = some (some v) ∧ Q v H
def tC (v : V) : TE := fun _ H Q => Q v H
theorem pe_var {i : Nat} {x : Str} {pos : Pos} (hN : X.N[i]? = some x) (hv : Vis X.env.scope x) (hd : (x == ("__debug__" : Str)) = false := by decide) (hcd : (x == ("__classdict__" : Str)) = false := by decide) : PE X (.Name x pos) (tVar i) := by
  intro pins s σ H Q I h
  obtain ⟨v, e, h⟩ := h
  obtain ⟨m, hn, hl⟩ := I.loc
  obtain ⟨u, r, l⟩ := hl i x v hN e hv
  have fin : EP X pins σ Q u s := ⟨v, H, I, r, h⟩
  rcases l with ⟨hk, hm⟩ | ⟨hk, c, hc, hcell⟩
  · exact wpAny_Name (wpAny_loadName_local I.ok.kind hk hn hm fin) hd
  · rcases hk with hk | hk
    · exact wpAny_Name (wpAny_loadName_cell I.ok.kind hk hc hcell fin) hd
    · exact wpAny_Name (wpAny_loadName_free I.ok.kind hk hc hcell fin hcd) hd
theorem pe_int {i j pos} : PE X (.Constant (.int i) j pos) (tC (.int i)) := fun _ _ _ H _ I h => wpAny_Constant_int ⟨.int i, H, I.tok _, ⟨_, rfl⟩, h⟩
theorem pe_bl {b j pos} : PE X (.Constant (.bool b) j pos) (tC (.bl b)) := fun _ _ _ H _ I h => Constant_bool ⟨.bl b, H, I, rfl, h⟩
theorem pe_non {j pos} : PE X (.Constant .none j pos) (tC .non) := fun _ _ _ H _ I h => Constant_none ⟨.non, H, I, rfl, h⟩
theorem pe_str {x j pos} : PE X (.Constant (.str x) j pos) (tC (.str x)) := fun _ _ _ H _ I h => Calls.Constant_str ⟨.str x, H, I.tok _, ⟨_, rfl⟩, h⟩

/-- a global name of the def -/
def Gl (X : Cx) (x : Str) : Prop := X.env.kindOf x = some .globalImplicit
theorem ld_glob {E : Value → Shared → Prop} {pins : List (Addr × Obj)} {s : Shared} {σ : St} {H : Hp} {x : Str} {u : Value} {pos : Pos} {Q : Value → Shared → Prop} (I : Inv X pins σ H s) (hg : Gl X x) (hm : X.mg x = some u) (h : Q u s)
    (hd : (x == ("__debug__" : Str)) = false := by decide) : wpAny (model X.prog X.w) X.A (eval (.Name x pos) X.env) Q E s :=
  Calls.Name_function_global I.ok.kind hg (Calls.loadGlobal_global (by rw [I.ok.glob]; exact I.mod.glob.keeps I.bk) hm h) hd
theorem ld_blt {E : Value → Shared → Prop} {pins : List (Addr × Obj)} {s : Shared} {σ : St} {H : Hp} {x : Str} {u : Value} {pos : Pos} {Q : Value → Shared → Prop} (I : Inv X pins σ H s) (hg : Gl X x) (hm : X.mg x = none) (hv : bootBuiltins x = some u) (h : Q u s)
    (hn : x ≠ "__name__" := by decide) (hd : (x == ("__debug__" : Str)) = false := by decide) : wpAny (model X.prog X.w) X.A (eval (.Name x pos) X.env) Q E s := by
  obtain ⟨mb, h1, h2⟩ := I.mod.blt
  exact Calls.Name_function_global I.ok.kind hg (Calls.loadGlobal_builtin (by rw [I.ok.glob]; exact I.mod.glob.keeps I.bk) hm (by rw [I.ok.blt]; exact h1.keeps I.bk) ((h2 x hn).trans hv) h) hd
theorem pe_bltn {x : Str} {v : V} {u : Value} {pos : Pos} (hg : Gl X x) (hm : X.mg x = none) (hv : bootBuiltins x = some u) (r : RelV v u) (hn : x ≠ "__name__" := by decide) (hd : (x == ("__debug__" : Str)) = false := by decide) : PE X (.Name x pos) (tC v) :=
  fun _ _ _ H _ I h => ld_blt I hg hm hv ⟨v, H, I, r, h⟩ hn hd

/-! ### arithmetic -/
variable {a b : Expr} {ta tb : TE} {pos : Pos}

/-! ### comparisons -/
def PC (X : Cx) (op : CmpOp) (a b : Expr) (t : TE) : Prop :=
  ∀ (pins : List (Addr × Obj)) (s : Shared) (σ : St) (H : Hp) (Q : VK), Inv X pins σ H s → t σ H Q →
    wpAny (model X.prog X.w) X.A (eval a X.env) (fun v s₁ => wpAny (model X.prog X.w) X.A (eval b X.env) (fun u s₂ => wpAny (model X.prog X.w) X.A (compareOp op v u) (EP X pins σ Q) X.xe s₂) X.xe s₁) X.xe s
/-- a comparison as a value, as a test -/
def tB (t : TE) : TT := fun σ H Q => t σ H fun x H1 => ∃ c, x = .bl c ∧ Q c H1
theorem pt_cmp {op : CmpOp} {t : TE} (h : PC X op a b t) (h1 : behindInMarks op b = false := by first | exact nobehind _ (by decide) (by decide) | rfl) : PT X (.Compare a [op] [b] pos) (tB t) := by
  intro pins s σ H Q I hw
  refine wpAny_isTrue_Compare1 (thn (h pins s σ H _ I hw) fun v s1 h1 => thn h1 fun u s2 h2 => thn h2 fun c s3 ⟨x, H1, I1, r1, q1⟩ => ?_) h1
  obtain ⟨d, rfl, q⟩ := q1
  cases r1
  exact wpAny_truthy_bool ⟨H1, I1, q⟩
/-- an expression whose value is a bool, as a test -/
theorem pt_val {e : Expr} {t : TE} (h : PE X e t) (he : ∀ whole, isTrue e X.env whole = (do let v ← whole; standAt e.pos; holding [v] (truthy v)) := by intro _; rfl) : PT X e (tB t) := by
  intro pins s σ H Q I hw
  refine isTrue_plain (thn (h pins s σ H _ I hw) fun v s1 ⟨x, H1, I1, r1, q1⟩ => ?_) (he _)
  obtain ⟨d, rfl, q⟩ := q1
  cases r1
  exact wpAny_truthy_bool ⟨H1, I1, q⟩

/-! ### and, or, not -/
variable {tA tB' : TT} {rest : List Expr}
def tAnd (t u : TT) : TT := fun σ H Q => t σ H fun c H1 => if c = true then u σ H1 Q else Q false H1
def tOr (t u : TT) : TT := fun σ H Q => t σ H fun c H1 => if c = true then Q true H1 else u σ H1 Q
def tNot (t : TT) : TT := fun σ H Q => t σ H fun c H1 => Q (!c) H1
theorem pw_and1 (ha : PT X a tA) : PW X (.BoolOp .And [a] pos) tA := by
  intro wh pins s σ H Q I h
  refine isTrue_and (thn (ha pins s σ H Q I h) fun c s1 e => ?_)
  cases c with
  | true => exact isTrue_and_nil e
  | false => exact e
theorem pw_or1 (ha : PT X a tA) : PW X (.BoolOp .Or [a] pos) tA := by
  intro wh pins s σ H Q I h
  refine isTrue_or (thn (ha pins s σ H Q I h) fun c s1 e => ?_)
  cases c with
  | false => exact isTrue_or_nil e
  | true => exact e
theorem pw_and (ha : PT X a tA) (hb : PW X (.BoolOp .And (b :: rest) pos) tB') : PW X (.BoolOp .And (a :: b :: rest) pos) (tAnd tA tB') := by
  intro wh pins s σ H Q I h
  refine isTrue_and (thn (ha pins s σ H _ I h) fun c s1 ⟨H1, I1, q1⟩ => ?_)
  cases c with
  | true => exact hb wh pins s1 σ H1 Q I1 q1
  | false => exact ⟨H1, I1, q1⟩
theorem pw_or (ha : PT X a tA) (hb : PW X (.BoolOp .Or (b :: rest) pos) tB') : PW X (.BoolOp .Or (a :: b :: rest) pos) (tOr tA tB') := by
  intro wh pins s σ H Q I h
  refine isTrue_or (thn (ha pins s σ H _ I h) fun c s1 ⟨H1, I1, q1⟩ => ?_)
  cases c with
  | true => exact ⟨H1, I1, q1⟩
  | false => exact hb wh pins s1 σ H1 Q I1 q1
theorem pt_not (ha : PT X a tA) : PT X (.UnaryOp .Not a pos) (tNot tA) := by
  intro pins s σ H Q I h
  exact isTrue_not (ha pins s σ H (fun c H1 => Q (!c) H1) I h)
/-- .. as values (bools) -/
def tAndV (ta tb : TE) : TE := fun σ H Q => ta σ H fun x H1 => ∃ c, x = .bl c ∧ if c = true then tb σ H1 Q else Q (.bl false) H1
def tNotV (ta : TE) : TE := fun σ H Q => ta σ H fun x H1 => ∃ c, x = .bl c ∧ Q (.bl (!c)) H1
theorem pe_one {op} {t : TE} (h : PE X a t) : PE X (.BoolOp op [a] pos) t := fun pins s σ H Q I hw => BoolOp_one (h pins s σ H Q I hw)
theorem pe_and (ha : PE X a ta) (hb : PE X (.BoolOp .And (b :: rest) pos) tb) : PE X (.BoolOp .And (a :: b :: rest) pos) (tAndV ta tb) := by
  intro pins s σ H Q I h
  refine BoolOp_and (thn (ha pins s σ H _ I h) fun v s1 ⟨x, H1, I1, r1, q1⟩ => ?_)
  obtain ⟨c, rfl, q1⟩ := q1
  cases r1
  refine wpAny_truthy_bool ?_
  cases c with
  | true => exact hb pins s1 σ H1 Q I1 q1
  | false => exact ⟨.bl false, H1, I1, rfl, q1⟩
theorem pe_not (ha : PE X a ta) : PE X (.UnaryOp .Not a pos) (tNotV ta) := by
  intro pins s σ H Q I h
  refine UnaryOp_ (thn (ha pins s σ H _ I h) fun v s1 ⟨x, H1, I1, r1, q1⟩ => ?_)
  obtain ⟨c, rfl, q1⟩ := q1
  cases r1
  exact not_of (wpAny_truthy_bool ⟨.bl (!c), H1, I1, rfl, q1⟩)
/-- a if t else b -/
def tIf (t : TT) (ta tb : TE) : TE := fun σ H Q => t σ H fun c H1 => if c = true then ta σ H1 Q else tb σ H1 Q
theorem pe_ifExp {c : Expr} (hc : PT X c tA) (ha : PE X a ta) (hb : PE X b tb) : PE X (.IfExp c a b pos) (tIf tA ta tb) := by
  intro pins s σ H Q I h
  refine wpAny_IfExp (thn (hc pins s σ H _ I h) fun d s1 ⟨H1, I1, q1⟩ => ?_)
  cases d with
  | true => exact ha pins s1 σ H1 Q I1 q1
  | false => exact hb pins s1 σ H1 Q I1 q1
end
end L2

namespace L2
open PySem PySem.Spec PyProof.Rows

/-! ### a list, a tuple that is read: tracked, frozen, or an object of the module -/
def SqL (K : PySem.W.Frag) (H : Hp) (a : Addr) (xs : List V) : Prop :=
  Rd H a (.lst xs) ∨
    ∃ (o : Obj) (its : Array Value) (n : Nat), K.lookup a = some o ∧ o.cls = .type "list" ∧ o.dict = none ∧ o.data = .seq its n ∧ its.size ≤ sizeLine ∧ Vals xs its.toList
def SqT (K : PySem.W.Frag) (H : Hp) (a : Addr) (xs : List V) : Prop :=
  Rd H a (.tup xs) ∨
    ∃ (o : Obj) (its : Array Value) (n : Nat), K.lookup a = some o ∧ o.cls = .type "tuple" ∧ o.data = .seq its n ∧ its.size ≤ sizeLine ∧ Vals xs its.toList
def absV : Value → Option V
  | .none => some .non
  | .bool b => some (.bl b)
  | .int i _ => some (.int i)
  | .str x _ => some (.str x)
  | .bytes b _ => some (.byt b)
  | .float b _ => some (.flt b)
  | .ref a => some (.ref a)
  | .type n => some (.ty n)
  | _ => none
theorem RelV.abs {x : V} {u : Value} (r : RelV x u) : absV u = some x := by
  cases x with
  | non => cases r; rfl
  | bl _ => cases r; rfl
  | int _ => obtain ⟨t, rfl⟩ := r; rfl
  | str _ => obtain ⟨t, rfl⟩ := r; rfl
  | byt _ => obtain ⟨t, rfl⟩ := r; rfl
  | flt _ => obtain ⟨t, rfl⟩ := r; rfl
  | ref _ => cases r; rfl
  | ty _ => cases r; rfl
theorem RelV.inj {x y : V} {u : Value} (r : RelV x u) (q : RelV y u) : x = y := Option.some.inj (r.abs.symm.trans q.abs)
theorem Vals.inj : ∀ {xs ys : List V} {us : List Value}, Vals xs us → Vals ys us → xs = ys
  | _, _, _, .nil, .nil => rfl
  | _, _, _, .cons r t, .cons r' t' => by rw [r.inj r', Vals.inj t t']
section
variable {X : Cx} {pins : List (Addr × Obj)} {σ : St} {H : Hp} {s : Shared} {a : Addr} {xs ys : List V}
theorem SqL.of {K : PySem.W.Frag} (h : H a = some (.lst xs)) : SqL K H a xs := .inl (.inl h)
theorem SqT.of {K : PySem.W.Frag} (h : H a = some (.tup xs)) : SqT K H a xs := .inl (.inl h)
theorem Inv.list (I : Inv X pins σ H s) (h : SqL X.K H a xs) : ∃ its : List Value, Vals xs its ∧ PlainL s.heap a its.toArray ∧ xs.length ≤ sizeLine := by
  rcases h with h | ⟨o, its, n, hk, hc, hd, hs, hz, r⟩
  · obtain ⟨z, its, n, r, e⟩ := h.ok I.hok
    exact ⟨its, r, ⟨_, n, e, rfl, rfl, rfl⟩, z⟩
  · refine ⟨its.toList, r, ⟨o, n, I.kIn a o hk, hc, hd, by simpa using hs⟩, ?_⟩
    have e := r.length
    simp only [Array.length_toList] at e
    omega
theorem Inv.tuple (I : Inv X pins σ H s) (h : SqT X.K H a xs) : ∃ its : List Value, Vals xs its ∧ IsTup s.heap a its.toArray ∧ xs.length ≤ sizeLine := by
  rcases h with h | ⟨o, its, n, hk, hc, hs, hz, r⟩
  · obtain ⟨z, its, r, p⟩ := h.ok I.hok
    exact ⟨its, r, p, z⟩
  · refine ⟨its.toList, r, ⟨o, I.kIn a o hk, hc, n, by simpa using hs⟩, ?_⟩
    have e := r.length
    simp only [Array.length_toList] at e
    omega
theorem Inv.list_inj (I : Inv X pins σ H s) (h : SqL X.K H a xs) (h' : SqL X.K H a ys) : xs = ys := by
  obtain ⟨its, r, ⟨o, n, e, _, _, d⟩, _⟩ := I.list h
  obtain ⟨its', r', ⟨o', n', e', _, _, d'⟩, _⟩ := I.list h'
  rw [e] at e'; cases e'
  rw [d] at d'
  injection d' with d1 _
  have : its = its' := by simpa using congrArg Array.toList d1
  subst this
  exact r.inj r'
end

/-! ### another wish about exceptions -/
abbrev Cx.wish (X : Cx) (E : Value → Shared → Prop) : Cx := { X with xe := E }
/-- no exception leaves -/
abbrev Cx.nox (X : Cx) : Cx := X.wish fun _ _ => False
theorem Cx.Ok.wish {X : Cx} (ok : X.Ok) (E : Value → Shared → Prop) : (X.wish E).Ok :=
  ⟨ok.mod, ok.kind, ok.glob, ok.blt, ok.above, ok.inj, ok.has, ok.cab, ok.hd, ok.frames, ok.stk, ok.exf, ok.bs, ok.bsz, ok.noex, ok.exfs, ok.funs, ok.frf⟩
theorem Cx.Ok.unwish {X : Cx} {E : Value → Shared → Prop} (ok : (X.wish E).Ok) : X.Ok :=
  ⟨ok.mod, ok.kind, ok.glob, ok.blt, ok.above, ok.inj, ok.has, ok.cab, ok.hd, ok.frames, ok.stk, ok.exf, ok.bs, ok.bsz, ok.noex, ok.exfs, ok.funs, ok.frf⟩
section
variable {X : Cx} {pins : List (Addr × Obj)} {σ : St} {H : Hp} {s : Shared} {E : Value → Shared → Prop}
theorem Inv.wish (I : Inv X pins σ H s) (E : Value → Shared → Prop) : Inv (X.wish E) pins σ H s := ⟨I.ok.wish E, I.os, I.bare, I.base, I.loc, I.cell, I.free, I.freeC, I.pin, I.hok, I.len⟩
theorem Inv.unwish (I : Inv (X.wish E) pins σ H s) : Inv X pins σ H s := ⟨I.ok.unwish, I.os, I.bare, I.base, I.loc, I.cell, I.free, I.freeC, I.pin, I.hok, I.len⟩
theorem SP.unwish {D : Ends} {f : Flow} {s' : Shared} (h : SP (X.wish E) pins D f s') : SP X pins D f s' := by
  cases f with
  | next => obtain ⟨σ', H', I, q⟩ := h; exact ⟨σ', H', I.unwish, q⟩
  | brk => obtain ⟨σ', H', I, q⟩ := h; exact ⟨σ', H', I.unwish, q⟩
  | cont => obtain ⟨σ', H', I, q⟩ := h; exact ⟨σ', H', I.unwish, q⟩
  | ret u => obtain ⟨v, σ', H', I, r, q⟩ := h; exact ⟨v, σ', H', I.unwish, r, q⟩
theorem PSs.nox {st : List Stmt} {t : TS} (h : PSs X.nox st t) : PSs X st t := fun pins s σ H D I hw =>
  wpAny_mono (h pins s σ H D (I.wish _) hw) (fun _ _ q => q.unwish) fun _ _ z => False.elim z
end

/-! ### blocks and small statements -/
section
variable {X : Cx} {st : Stmt} {rest : List Stmt} {t u : TS} {e : Expr} {te : TE} {pos : Pos}
def tNext : TS := fun D σ H => D.nx σ H
def tSeq (t u : TS) : TS := fun D σ H => t { D with nx := u D } σ H
theorem pss_nil : PSs X [] tNext := fun _ _ σ H _ I h => wpAny_execs_nil ⟨σ, H, I, h⟩
theorem pss_cons (h1 : PS X st t) (h2 : PSs X rest u) : PSs X (st :: rest) (tSeq t u) := by
  intro pins s σ H D I h
  refine wpAny_execs_cons (thn (h1 pins s σ H { D with nx := u D } I h) fun f s1 q => ?_)
  cases f with
  | next =>
    obtain ⟨σ', H', I', q⟩ := q
    exact h2 pins s1 σ' H' D I' q
  | ret v => exact q
  | brk => exact q
  | cont => exact q
theorem pss_one (h1 : PS X st t) : PSs X [st] t := by
  intro pins s σ H D I h
  refine wpAny_execs_cons (thn (h1 pins s σ H D I h) fun f s1 q => ?_)
  cases f with
  | next => exact wpAny_execs_nil q
  | ret v => exact q
  | brk => exact q
  | cont => exact q
/-- in a def's body nothing is shown -/
theorem Inv.quiet {pins : List (Addr × Obj)} {σ : St} {H : Hp} {s : Shared} (I : Inv X pins σ H s) : interactive X.env = false := by simp [interactive, I.ok.kind]
/-- an expression whose value is dropped -/
def tDrop (te : TE) : TS := fun D σ H => te σ H fun _ H1 => D.nx σ H1
theorem ps_expr (he : PE X e te) (hs : swapsWith e none pos.line X.env = pure false := by rfl) : PS X (.Expr e pos) (tDrop te) := by
  intro pins s σ H D I h
  exact wpAny_Expr_any (thn (he pins s σ H _ I h) fun v s1 ⟨x, H1, I1, r1, q1⟩ => ⟨σ, H1, I1, q1⟩) I.quiet hs
def tRet (te : TE) : TS := fun D σ H => te σ H D.rt
theorem ps_ret (he : PE X e te) : PS X (.Return (some e) pos) (tRet te) := by
  intro pins s σ H D I h
  exact wpAny_Return_some (thn (he pins s σ H _ I h) fun v s1 ⟨x, H1, I1, r1, q1⟩ => ⟨x, σ, H1, I1, r1, q1⟩)
def tIfS (c : TT) (t u : TS) : TS := fun D σ H => c σ H fun b H1 => if b = true then t D σ H1 else u D σ H1
theorem ps_if {c : Expr} {a b : List Stmt} {tc : TT} (hc : PT X c tc) (ha : PSs X a t) (hb : PSs X b u) : PS X (.If c a b pos) (tIfS tc t u) := by
  intro pins s σ H D I h
  refine wpAny_If (thn (hc pins s σ H _ I h) fun d s1 ⟨H1, I1, q1⟩ => ?_)
  cases d with
  | true => exact ha pins s1 σ H1 D I1 q1
  | false => exact hb pins s1 σ H1 D I1 q1
/-- code that the proof never comes to -/
def tNever : TS := fun _ _ _ => False
theorem ps_never : PS X st tNever := fun _ _ _ _ _ _ h => h.elim
end

/-! ### targets -/
abbrev TG := V → St → Hp → (St → Hp → Prop) → Prop
def PG (X : Cx) (target : Expr) (t : TG) : Prop :=
  ∀ (pins : List (Addr × Obj)) (s : Shared) (σ : St) (H : Hp) (v : V) (u : Value) (Q : St → Hp → Prop), Inv X pins σ H s → RelV v u → t v σ H Q →
    wpAny (model X.prog X.w) X.A (assign target X.env u) (fun _ s' => ∃ σ' H', Inv X pins σ' H' s' ∧ Q σ' H') X.xe s
section
variable {X : Cx} {pos : Pos}
def gName (i : Nat) : TG := fun v σ H Q => Q (σ.set i (some v)) H
theorem pg_name {i : Nat} {x : Str} (hN : X.N.Nodup) (hi : X.N[i]? = some x) (hx : Loc X.env.scope x) (hf : X.fn x = true ∨ X.env.scope.names.lookup x = some .local := by first | exact .inl rfl | exact .inr rfl | assumption) : PG X (.Name x pos) (gName i) := by
  intro pins s σ H v u Q I r h
  exact wpAny_assign_Name (store_ok I hN hi hx r (fun s' I' => ⟨_, H, I', h⟩) hf)
/-- target = value -/
def tAsg (te : TE) (g : TG) : TS := fun D σ H => te σ H fun x H1 => g x σ H1 D.nx
/-- name = value -/
theorem ps_set {i : Nat} {x : Str} {e : Expr} {te : TE} {pos' : Pos} (hN : X.N.Nodup) (hi : X.N[i]? = some x) (hx : Loc X.env.scope x) (he : PE X e te) (hs : swapsWith e (some (.Name x pos')) pos.line X.env = pure false := by rfl) (hf : X.fn x = true ∨ X.env.scope.names.lookup x = some .local := by first | exact .inl rfl | exact .inr rfl | assumption) :
    PS X (.Assign [.Name x pos'] e pos) (tAsg te (gName i)) := by
  intro pins s σ H D I h
  refine wpAny_Assign_Name (thn (he pins s σ H _ I h) fun v s1 ⟨y, H1, I1, r1, q1⟩ => ?_) hs
  exact store_ok I1 hN hi hx r1 (fun s2 I2 => ⟨_, H1, I2, q1⟩) hf
end

/-! ### while -/
section
variable {X : Cx} {pos : Pos}
/-- the invariant W with its measure -/
def tWhile (c : TT) (tb : TS) : TS := fun D σ H => ∃ W : Nat → St → Hp → Prop, (∃ m, W m σ H) ∧ ∀ m σ H, W m σ H →
  c σ H fun b H1 => if b = true then ∃ N : St → Hp → Prop, (∀ σ' H', N σ' H' → ∃ m', m' < m ∧ W m' σ' H') ∧ tb { D with nx := N, ct := N, bk := D.nx } σ H1 else D.nx σ H1
theorem ps_while {c : Expr} {body : List Stmt} {tc : TT} {tb : TS} (hp : PassesOwn (model X.prog X.w) X.A X.env X.xe) (hc : PT X c tc) (hb : PSs X body tb) : PS X (.While c body [] pos) (tWhile tc tb) := by
  intro pins s σ H D I h
  obtain ⟨W, ⟨m0, w0⟩, turn⟩ := h
  refine wpAny_While (codeAny_whileLoop (fun n s' => ∃ σ' H', Inv X pins σ' H' s' ∧ W n σ' H') ?_ m0 ⟨σ, H, I, w0⟩)
  rintro n s1 ⟨σ1, H1, I1, w1⟩
  refine wpAny_passesOwn hp (thn (hc pins s1 σ1 H1 _ I1 (turn n σ1 H1 w1)) fun b s2 ⟨H2, I2, q2⟩ => ?_)
  cases b with
  | true =>
    obtain ⟨N, hN, q2⟩ := q2
    rw [if_pos rfl]
    refine wpAny_passesOwn hp (thn (hb pins s2 σ1 H2 _ I2 q2) fun f s3 q3 => ?_)
    cases f with
    | next =>
      obtain ⟨σ3, H3, I3, n3⟩ := q3
      obtain ⟨m', hm, w3⟩ := hN σ3 H3 n3
      exact ⟨m', hm, σ3, H3, I3, w3⟩
    | cont =>
      obtain ⟨σ3, H3, I3, n3⟩ := q3
      obtain ⟨m', hm, w3⟩ := hN σ3 H3 n3
      exact ⟨m', hm, σ3, H3, I3, w3⟩
    | brk => exact q3
    | ret v => exact q3
  | false =>
    rw [if_neg Bool.false_ne_true]
    exact wpAny_execs_nil ⟨σ1, H2, I2, q2⟩
end

/-! ### what a loop or a comprehension walks -/
/-- at turn i: it yields x (the heap may grow), or it stops -/
structure It where
  go : Nat → Hp → Prop
  yld : Nat → Hp → V → Hp → Prop
  stop : Nat → Hp → Prop
/-- the iterator's own objects may turn: they are not the frame's, not pinned, younger than the entry (or a comprehension's own) -/
def FpOk (X : Cx) (pins : List (Addr × Obj)) (H : Hp) (b : Addr) : Prop :=
  H b = none ∧ b ≠ X.env.locals ∧ b ∉ X.fs ∧ (b ∈ X.ex ∨ X.s₀.heap.objs.size ≤ b) ∧ (∀ x c, X.env.cells.lookup x = some c → c ≠ b) ∧ ∀ p ∈ X.pn ++ pins, p.1 ≠ b
theorem Inv.fpOk {X : Cx} {pins : List (Addr × Obj)} {σ : St} {H H' : Hp} {s : Shared} {b : Addr} (I : Inv X pins σ H s) (hb : s.heap.objs.size ≤ b) (hn : H' b = none) : FpOk X pins H' b := by
  refine ⟨hn, Nat.ne_of_gt (Nat.lt_of_lt_of_le I.lt hb), I.nofs hb, .inr (Nat.le_trans I.sz hb), fun x c e z => ?_, fun p hp z => ?_⟩
  · obtain ⟨v, q⟩ := I.cell x c e
    exact absurd (Nat.lt_of_lt_of_le q.lt (by rw [z]; exact hb)) (Nat.lt_irrefl _)
  · exact absurd (Nat.lt_of_lt_of_le (Heap.lt_size (I.pin p hp).1) (by rw [z]; exact hb)) (Nat.lt_irrefl _)
structure Turn (P : Program) (w : World) (K : PySem.W.Frag) (tg : Expr) (J : It) (fp : List Addr) (it : Addr) (tn : Nat → Heap → Prop) : Prop where
  mem : it ∈ fp
  obj : ∀ i h, tn i h → ∀ b ∈ fp, ∃ o, h.get? b = some o ∧ ∀ v, o.data ≠ .cell v
  keep : ∀ i h h', tn i h → (∀ b ∈ fp, ∀ o, h.get? b = some o → h'.get? b = some o) → tn i h'
  item : ∀ (X : Cx), X.prog = P → X.w = w → X.K = K → X.calm = true → ∀ (i : Nat) (pins : List (Addr × Obj)) (s : Shared) (σ : St) (H : Hp) (E : Value → Shared → Prop), Inv X pins σ H s → (∀ b ∈ fp, FpOk X pins H b) → tn i s.heap → J.go i H →
    wpAny (model P w) X.A (pyNext (.ref it)) (fun r s1 => ∃ u, r = some u ∧
      wpAny (model P w) X.A (letOwnedTupleGo tg (.ref it) u) (fun _ s2 => ∃ x H', Inv X pins σ H' s2 ∧ RelV x u ∧ J.yld i H x H' ∧ tn (i + 1) s2.heap ∧ ∀ b ∈ fp, H' b = none) E s1) E s
  done : ∀ (X : Cx), X.prog = P → X.w = w → X.K = K → X.calm = true → ∀ (i : Nat) (pins : List (Addr × Obj)) (s : Shared) (σ : St) (H : Hp) (E : Value → Shared → Prop), Inv X pins σ H s → (∀ b ∈ fp, FpOk X pins H b) → tn i s.heap → J.stop i H →
    wpAny (model P w) X.A (pyNext (.ref it)) (fun r s1 => r = none ∧ Inv X pins σ H s1) E s
  self : ∀ (A : Around) (i : Nat) (s : Shared) (Q : Value → Shared → Prop) (E : Value → Shared → Prop), tn i s.heap → Q (.ref it) s → wpAny (model P w) A (pyIter (.ref it)) Q E s
abbrev TI := St → Hp → (It → Hp → Prop) → Prop
/-- an iterator has come -/
def PIE (X : Cx) (pins : List (Addr × Obj)) (σ : St) (tg : Expr) (R : It → Hp → Prop) (itv : Value) (s2 : Shared) : Prop :=
  ∃ (it : Addr) (fp : List Addr) (tn : Nat → Heap → Prop) (J : It) (H' : Hp), itv = .ref it ∧ Inv X pins σ H' s2 ∧ Turn X.prog X.w X.K tg J fp it tn ∧ tn 0 s2.heap ∧ (∀ b ∈ fp, FpOk X pins H' b) ∧ R J H'
def PI (X : Cx) (tg iter : Expr) (wi : TI) : Prop :=
  ∀ (pins : List (Addr × Obj)) (s : Shared) (σ : St) (H : Hp) (R : It → Hp → Prop), Inv X pins σ H s → wi σ H R →
    wpAny (model X.prog X.w) X.A (eval iter X.env) (fun v s1 => wpAny (model X.prog X.w) X.A (pyIter v) (PIE X pins σ tg R) X.xe s1) X.xe s

/-- the step ahead of the store is nothing for an iterator that keeps no tuple -/
theorem go_of {M : Model} {A : Around} {E : Value → Shared → Prop} {s : Shared} {tg : Expr} {it : Addr} {u : Value} {o : Obj} {n : String} {vs : Array Value} {Q : Unit → Shared → Prop} (ho : s.heap.get? it = some o) (hc : o.cls = .type n) (hd : o.data = .fields vs)
    (hn : ["enumerate", "zip", "dict_itemiterator", "dict_reverseitemiterator", "odict_iterator", "itertools.zip_longest", "itertools.pairwise"].contains n = false) (hQ : Q () s) : wpAny M A (letOwnedTupleGo tg (.ref it) u) Q E s := by
  unfold letOwnedTupleGo
  cases tg <;> first
    | exact wpAny_pure hQ
    | (cases u <;> first
        | exact wpAny_pure hQ
        | (refine wpAny_bind (wpAny_load ho ?_)
           rw [hc, hd]
           show wpAny M A (if (["enumerate", "zip", "dict_itemiterator", "dict_reverseitemiterator", "odict_iterator", "itertools.zip_longest", "itertools.pairwise"].contains n && vs[0]? == some (rawInt _)) = true then _ else _) Q E s
           rw [if_neg (by intro h; rw [hn, Bool.false_and] at h; cases h)]
           exact wpAny_pure hQ))

/-- the list at a, as it stands at each turn (a loop may append to it) -/
def Itl (K : PySem.W.Frag) (a : Addr) : It :=
  ⟨fun i H => ∃ xs x, SqL K H a xs ∧ xs[i]? = some x, fun i H x H' => H' = H ∧ ∀ xs, SqL K H a xs → xs[i]? = some x, fun i H => ∃ xs, SqL K H a xs ∧ xs.length ≤ i⟩
/-- lo, lo + 1, .. (n of them) -/
def Itr (lo : Int) (n : Nat) : It := ⟨fun i _ => i < n, fun i H x H' => H' = H ∧ x = .int (lo + i), fun i _ => n ≤ i⟩
theorem turn_list {P : Program} {w : World} {K : PySem.W.Frag} {tg : Expr} (a it : Addr) : Turn P w K tg (Itl K a) [it] it (fun i h => h.IsListIter it a i) where
  mem := by simp
  obj := fun i h st b hb => by
    have e : b = it := by simpa using hb
    subst e
    obtain ⟨o, e, c, d⟩ := st
    exact ⟨o, e, fun v z => by rw [d] at z; cases z⟩
  keep := fun i h h' st k => st.at fun o e => k it (by simp) o e
  item := by
    intro X hP hw hK hc i pins s σ H E I hf st hg
    subst hP hw hK
    obtain ⟨xs, x, hq, hx⟩ := hg
    obtain ⟨its, rv, p, hz⟩ := I.list hq
    obtain ⟨u, hu, ru⟩ := rv.get hx
    obtain ⟨f0, f1, f2, f3, f4, f5⟩ := hf it (by simp)
    refine wpAny_pyNext_list_item st p.isList (x := u) (by simpa using hu) fun h' st' sb => ?_
    have I1 : Inv X pins σ H { s with heap := h' } := I.turned (t' := s.toks) (fun b o hb e => (sb.2 b hb).trans e) f0 f1 f3 f4 f5
    obtain ⟨o, e, c, d⟩ := id st'
    exact ⟨u, rfl, go_of (s := { s with heap := h' }) e c d (by decide) ⟨x, H, I1, ru, ⟨rfl, fun ys hy => by rw [I.list_inj hy hq]; exact hx⟩, st', fun b hb => (hf b hb).1⟩⟩
  done := by
    intro X hP hw hK hc i pins s σ H E I hf st hg
    subst hP hw hK
    obtain ⟨xs, hq, hx⟩ := hg
    obtain ⟨its, rv, p, hz⟩ := I.list hq
    obtain ⟨f0, f1, f2, f3, f4, f5⟩ := hf it (by simp)
    have hl := rv.length
    exact wpAny_pyNext_list_end (I.ok.hd hc) st p.isList (by simp; omega) fun h' eb => ⟨rfl, I.turned (t' := s.toks) (fun b o hb e => eb b o hb e) f0 f1 f3 f4 f5⟩
  self := fun _ _ _ _ _ st h => wpAny_pyIter_listiter st h
theorem turn_range {P : Program} {w : World} {K : PySem.W.Frag} {tg : Expr} (it : Addr) (lo : Int) (n : Nat) : Turn P w K tg (Itr lo n) [it] it (fun i h => IsRangeIter h it (lo + (i : Nat) * 1) ((n : Int) - (i : Nat)) 1) where
  mem := by simp
  obj := fun i h st b hb => by
    have e : b = it := by simpa using hb
    subst e
    exact ⟨_, st, fun v z => by
      have z' : Data.fields _ = Data.cell v := z
      cases z'⟩
  keep := fun i h h' st k => k it (by simp) _ st
  item := by
    intro X hP hw hK hc i pins s σ H E I hf st hg
    subst hP hw hK
    obtain ⟨f0, f1, f2, f3, f4, f5⟩ := hf it (by simp)
    have W := Walks.range (prog := X.prog) (w := X.w) (I.ok.hd hc) it lo 1 n
    refine W.item i s _ _ hg st fun v h' tk hv st' kk => ?_
    obtain ⟨t, rfl⟩ := hv
    have I1 : Inv X pins σ H { s with heap := h', toks := tk } := I.turned (fun b o hb e => kk b o (by simpa using hb) e) f0 f1 f3 f4 f5
    refine ⟨_, rfl, go_of (s := { s with heap := h', toks := tk }) (n := "range_iterator") st' rfl rfl (by decide) ⟨.int (lo + i), H, I1, ⟨t, ?_⟩, ⟨rfl, rfl⟩, st', fun b hb => (hf b hb).1⟩⟩
    rw [Int.mul_one]
  done := by
    intro X hP hw hK hc i pins s σ H E I hf st hg
    subst hP hw hK
    obtain ⟨f0, f1, f2, f3, f4, f5⟩ := hf it (by simp)
    exact wpAny_pyNext_range_end (I.ok.hd hc) st (by have : n ≤ i := hg; omega) fun h' eb => ⟨rfl, I.turned (t' := s.toks) (fun b o hb e => eb b o hb e) f0 f1 f3 f4 f5⟩
  self := fun _ _ _ _ _ st h => wpAny_pyIter_rangeiter st h
end L2

namespace L2
open PySem PySem.Spec PyProof.Rows
section
variable {X : Cx} {tg : Expr}
def iList (K : PySem.W.Frag) (tl : TE) : TI := fun σ H R => tl σ H fun x H1 => ∃ a, x = .ref a ∧ (∃ xs, SqL K H1 a xs) ∧ R (Itl K a) H1
theorem pi_list {l : Expr} {tl : TE} (hl : PE X l tl) : PI X tg l (iList X.K tl) := by
  intro pins s σ H R I h
  refine thn (hl pins s σ H _ I h) fun v s1 ⟨x, H1, I1, r1, q1⟩ => ?_
  obtain ⟨a, e, ⟨xs, hq⟩, q⟩ := q1
  subst e
  cases r1
  obtain ⟨its, rv, p, hz⟩ := I1.list hq
  refine wpAny_pyIter_list p.isList ?_
  refine ⟨s1.heap.objs.size, [s1.heap.objs.size], _, _, H1, rfl, I1.kept (t' := s1.toks) fun b o e => Heap.get?_push_of_some _ e, turn_list a _, ⟨_, Heap.get?_push_size _ rfl, rfl, rfl⟩, fun b hb => ?_, q⟩
  have e : b = s1.heap.objs.size := by simpa using hb
  subst e
  exact I1.fpOk (Nat.le_refl _) (I1.hok.fresh (Nat.le_refl _))
/-- a range object just made, walked -/
theorem range_it {pins : List (Addr × Obj)} {σ : St} {H : Hp} {s : Shared} {R : It → Hp → Prop} {E : Value → Shared → Prop} {lo hi : Int} {t u v : Tok} {tk : Nat} (I : Inv X pins σ H s) (h1 : -(2 ^ 62) ≤ lo) (h2 : lo < 2 ^ 62) (h3 : -(2 ^ 62) ≤ hi) (h4 : hi < 2 ^ 62)
    (q : R (Itr lo (hi - lo).toNat) H) : wpAny (model X.prog X.w) X.A (pyIter (.ref s.heap.objs.size)) (PIE X pins σ tg R) E { s with heap := s.heap.push { cls := .type "range", data := .fields #[.int lo t, .int hi u, .int 1 v] }, toks := tk } := by
  refine wpAny_pyIter_range (IsRange.new ..) (small_one h1 h2 h3 h4) ?_
  have I1 : Inv X pins σ H { s with heap := s.heap.push { cls := .type "range", data := .fields #[.int lo t, .int hi u, .int 1 v] }, toks := tk } := I.kept fun b o e => Heap.get?_push_of_some _ e
  refine ⟨(s.heap.push { cls := .type "range", data := .fields #[.int lo t, .int hi u, .int 1 v] }).objs.size, [(s.heap.push { cls := .type "range", data := .fields #[.int lo t, .int hi u, .int 1 v] }).objs.size], _, _, H, rfl,
    I1.kept (t' := tk) fun b o e => Heap.get?_push_of_some _ e, turn_range _ lo (hi - lo).toNat, ?_, fun b hb => ?_, q⟩
  · have e1 : lo + ((0 : Nat) : Int) * 1 = lo := by simp
    have e2 : (((hi - lo).toNat : Nat) : Int) - ((0 : Nat) : Int) = Builtin.Range.rangeSize lo hi 1 := by rw [rangeSize_one]; split <;> omega
    show IsRangeIter _ _ (lo + ((0 : Nat) : Int) * 1) ((((hi - lo).toNat : Nat) : Int) - ((0 : Nat) : Int)) 1
    rw [e1, e2]
    exact Heap.get?_push_size _ rfl
  · have e : b = (s.heap.push { cls := .type "range", data := .fields #[.int lo t, .int hi u, .int 1 v] }).objs.size := by simpa using hb
    subst e
    exact I1.fpOk (Nat.le_refl _) (I1.hok.fresh (Nat.le_refl _))
def iRng1 (ta : TA) : TI := fun σ H R => ta σ H fun vs H1 => ∃ j : Int, vs = [.int j] ∧ -(2 ^ 62) ≤ j ∧ j < 2 ^ 62 ∧ R (Itr 0 j.toNat) H1
theorem pi_range1 {a : Expr} {ta : TA} {p pos : Pos} (hg : Gl X "range") (hm : X.mg "range" = none) (ha : PA X [a] ta) (hs : starEach [a] X.env = [(false, eval a X.env)] := by rfl) : PI X tg (.Call (.Name "range" p) [a] [] pos) (iRng1 ta) := by
  intro pins s σ H R I h
  refine Call_ (ld_blt I hg hm boot_range (PyProof.Rows.callWith_type1 (thn (ha pos pins s σ H _ I h) fun us s1 ⟨vs, H1, I1, r1, q1⟩ => ?_) hs rfl))
  obtain ⟨j, e, q1, q2, q⟩ := q1
  subst e
  cases r1 with
  | cons r rr =>
    cases rr
    obtain ⟨t, rfl⟩ := r
    exact call_range_1 (range_it I1 (by omega) (by omega) q1 q2 (by simpa using q))

/-! ### for -/
/-- W: the invariant by the turn and a measure; N: what the body is to reach -/
def tFor (wi : TI) (g : TG) (tb : TS) : TS := fun D σ H => wi σ H fun J H1 => ∃ W : Nat → Nat → St → Hp → Prop, (∃ m, W 0 m σ H1) ∧ ∀ i m σ H, W i m σ H →
  (J.stop i H ∧ D.nx σ H) ∨ (J.go i H ∧ ∃ N : St → Hp → Prop, (∀ σ' H', N σ' H' → ∃ m', m' < m ∧ W (i + 1) m' σ' H') ∧ ∀ x H', J.yld i H x H' → g x σ H' fun σ2 H2 => tb { D with nx := N, ct := N, bk := D.nx } σ2 H2)
/-- the records at fp as they stand -/
def pinsAt (fp : List Addr) (h : Heap) : List (Addr × Obj) := fp.filterMap fun b => (h.get? b).map fun o => (b, o)
theorem mem_pinsAt {fp : List Addr} {h : Heap} {b : Addr} {o : Obj} (hb : b ∈ fp) (e : h.get? b = some o) : (b, o) ∈ pinsAt fp h := List.mem_filterMap.mpr ⟨b, hb, by rw [e]; rfl⟩
theorem of_pinsAt {fp : List Addr} {h : Heap} {p : Addr × Obj} (hp : p ∈ pinsAt fp h) : p.1 ∈ fp ∧ h.get? p.1 = some p.2 := by
  obtain ⟨b, hb, e⟩ := List.mem_filterMap.mp hp
  cases q : h.get? b with
  | none => rw [q] at e; cases e
  | some o =>
    rw [q] at e
    have e' : (b, o) = p := Option.some.inj e
    subst e'
    exact ⟨hb, q⟩
theorem Inv.pinned {pins : List (Addr × Obj)} {σ : St} {H : Hp} {s : Shared} {fp : List Addr} (I : Inv X pins σ H s) (hf : ∀ b ∈ fp, FpOk X pins H b) (ho : ∀ b ∈ fp, ∃ o, s.heap.get? b = some o ∧ ∀ v, o.data ≠ .cell v) : Inv X (pins ++ pinsAt fp s.heap) σ H s :=
  I.pins_of fun p hp => (List.mem_append.mp hp).elim (fun z => I.pin p (List.mem_append_right _ z)) fun z => by
    obtain ⟨hb, e⟩ := of_pinsAt z
    obtain ⟨f0, f1, f2, _⟩ := hf p.1 hb
    obtain ⟨o, e', d⟩ := ho p.1 hb
    rw [e] at e'; cases e'
    exact ⟨e, f0, f1, f2, d⟩
theorem Inv.unpinned {pins pl : List (Addr × Obj)} {σ : St} {H : Hp} {s : Shared} (I : Inv X (pins ++ pl) σ H s) : Inv X pins σ H s := I.pins_of fun p hp => I.pin p (List.mem_append_right _ (List.mem_append_left _ hp))
theorem ps_for {iter : Expr} {body : List Stmt} {wi : TI} {g : TG} {tb : TS} {pos : Pos} (hp : PassesOwn (model X.prog X.w) X.A X.env X.xe) (hc : X.calm = true) (hi : PI X tg iter wi) (hg : PG X tg g) (hb : PSs X body tb)
    (hs : ∀ x, foldedSetIterable iter X.env x = pure x := by intro _; rfl) : PS X (.For tg iter body [] pos) (tFor wi g tb) := by
  intro pins s σ H D I h
  refine wpAny_For (thn (hi pins s σ H _ I h) fun v s1 h1 => thn h1 fun itv s2 h2 => ?_) hs
  obtain ⟨it, fp, tn, J, H2, e, I2, T, st2, f2, W, ⟨m0, w0⟩, turn⟩ := h2
  subst e
  -- what stays true of the iterator's objects through the loop
  have stat : ∀ {H' : Hp}, (∀ b ∈ fp, H' b = none) → ∀ b ∈ fp, FpOk X pins H' b := fun hn b hb => ⟨hn b hb, (f2 b hb).2⟩
  refine codeAny_forLoop_any (fun n s' => ∃ i σ' H', Inv X pins σ' H' s' ∧ tn i s'.heap ∧ (∀ b ∈ fp, H' b = none) ∧ W i n σ' H') ?_ m0 ⟨0, σ, H2, I2, st2, fun b hb => (f2 b hb).1, w0⟩
  rintro n s3 ⟨i, σ3, H3, I3, st3, fr3, w3⟩
  rcases turn i n σ3 H3 w3 with ⟨stop, qn⟩ | ⟨go, N, hN, step⟩
  · refine wpAny_passesOwn hp (thn (T.done X rfl rfl rfl hc i pins s3 σ3 H3 X.xe I3 (stat fr3) st3 stop) fun r s4 ⟨hr, I4⟩ => ?_)
    subst hr
    exact wpAny_execs_nil ⟨σ3, H3, I4, qn⟩
  · refine wpAny_passesOwn hp (thn (T.item X rfl rfl rfl hc i pins s3 σ3 H3 X.xe I3 (stat fr3) st3 go) fun r s4 ⟨u, hr, h4⟩ => ?_)
    subst hr
    refine wpAny_passesOwn hp (thn h4 fun _ s5 ⟨x, H5, I5, r5, y5, st5, fr5⟩ => ?_)
    have I5' := I5.pinned (stat fr5) (T.obj _ _ st5)
    refine wpAny_passesOwn hp (thn (hg _ s5 σ3 H5 x u _ I5' r5 (step x H5 y5)) fun _ s6 ⟨σ6, H6, I6, q6⟩ => ?_)
    refine wpAny_passesOwn hp (thn (hb _ s6 σ6 H6 _ I6 q6) fun f s7 q7 => ?_)
    have again : ∀ {σ7 : St} {H7 : Hp}, Inv X (pins ++ pinsAt fp s5.heap) σ7 H7 s7 → N σ7 H7 → ∃ m, m < n ∧ ∃ i σ' H', Inv X pins σ' H' s7 ∧ tn i s7.heap ∧ (∀ b ∈ fp, H' b = none) ∧ W i m σ' H' := fun {σ7 H7} I7 n7 => by
      obtain ⟨m', hm, w7⟩ := hN σ7 H7 n7
      refine ⟨m', hm, i + 1, σ7, H7, I7.unpinned, T.keep _ _ _ st5 fun b hb o e => (I7.pin (b, o) (List.mem_append_right _ (List.mem_append_right _ (mem_pinsAt hb e)))).1, fun b hb => ?_, w7⟩
      obtain ⟨o, e, d⟩ := T.obj _ _ st5 b hb
      exact (I7.pin (b, o) (List.mem_append_right _ (List.mem_append_right _ (mem_pinsAt hb e)))).2.1
    cases f with
    | next => obtain ⟨σ7, H7, I7, n7⟩ := q7; exact again I7 n7
    | cont => obtain ⟨σ7, H7, I7, n7⟩ := q7; exact again I7 n7
    | brk => obtain ⟨σ7, H7, I7, q7⟩ := q7; exact ⟨σ7, H7, I7.unpinned, q7⟩
    | ret v => obtain ⟨x7, σ7, H7, I7, r7, q7⟩ := q7; exact ⟨x7, σ7, H7, I7.unpinned, r7, q7⟩
end

/-! ### the forms one uses -/
/-- over a list that the body leaves as it is -/
theorem for_list {K : PySem.W.Frag} {a : Addr} {xs : List V} {g : TG} {tb : TS} {D : Ends} {σ : St} {H : Hp} (Pv : Nat → St → Hp → Prop) (h0 : Pv 0 σ H) (hl : ∀ i σ H, i ≤ xs.length → Pv i σ H → SqL K H a xs)
    (hs : ∀ i x σ H, xs[i]? = some x → Pv i σ H → g x σ H fun σ2 H2 => tb { D with nx := Pv (i + 1), ct := Pv (i + 1), bk := D.nx } σ2 H2) (hd : ∀ σ H, Pv xs.length σ H → D.nx σ H) :
    ∃ W : Nat → Nat → St → Hp → Prop, (∃ m, W 0 m σ H) ∧ ∀ i m σ H, W i m σ H →
      ((Itl K a).stop i H ∧ D.nx σ H) ∨ ((Itl K a).go i H ∧ ∃ N : St → Hp → Prop, (∀ σ' H', N σ' H' → ∃ m', m' < m ∧ W (i + 1) m' σ' H') ∧ ∀ x H', (Itl K a).yld i H x H' → g x σ H' fun σ2 H2 => tb { D with nx := N, ct := N, bk := D.nx } σ2 H2) := by
  refine ⟨fun i m σ H => m = xs.length - i ∧ i ≤ xs.length ∧ Pv i σ H, ⟨xs.length, by simp, Nat.zero_le _, h0⟩, ?_⟩
  rintro i m σ H ⟨rfl, hi, p⟩
  have q := hl i σ H hi p
  by_cases hlt : i < xs.length
  · refine .inr ⟨⟨xs, xs[i], q, by simp [hlt]⟩, Pv (i + 1), fun σ' H' p' => ⟨xs.length - (i + 1), by omega, rfl, hlt, p'⟩, fun x H' y => ?_⟩
    obtain ⟨e, y⟩ := y
    subst e
    exact hs i x σ _ (y xs q) p
  · have e : i = xs.length := by omega
    subst e
    exact .inl ⟨⟨xs, q, Nat.le_refl _⟩, hd σ H p⟩
theorem for_range {lo : Int} {n : Nat} {g : TG} {tb : TS} {D : Ends} {σ : St} {H : Hp} (Pv : Nat → St → Hp → Prop) (h0 : Pv 0 σ H)
    (hs : ∀ i σ H, i < n → Pv i σ H → g (.int (lo + i)) σ H fun σ2 H2 => tb { D with nx := Pv (i + 1), ct := Pv (i + 1), bk := D.nx } σ2 H2) (hd : ∀ σ H, Pv n σ H → D.nx σ H) :
    ∃ W : Nat → Nat → St → Hp → Prop, (∃ m, W 0 m σ H) ∧ ∀ i m σ H, W i m σ H →
      ((Itr lo n).stop i H ∧ D.nx σ H) ∨ ((Itr lo n).go i H ∧ ∃ N : St → Hp → Prop, (∀ σ' H', N σ' H' → ∃ m', m' < m ∧ W (i + 1) m' σ' H') ∧ ∀ x H', (Itr lo n).yld i H x H' → g x σ H' fun σ2 H2 => tb { D with nx := N, ct := N, bk := D.nx } σ2 H2) := by
  refine ⟨fun i m σ H => m = n - i ∧ i ≤ n ∧ Pv i σ H, ⟨n, by simp, Nat.zero_le _, h0⟩, ?_⟩
  rintro i m σ H ⟨rfl, hi, p⟩
  by_cases hlt : i < n
  · refine .inr ⟨hlt, Pv (i + 1), fun σ' H' p' => ⟨n - (i + 1), by omega, rfl, hlt, p'⟩, fun x H' y => ?_⟩
    obtain ⟨e, y⟩ := y
    subst e y
    exact hs i σ _ hlt p
  · have e : i = n := by omega
    subst e
    exact .inl ⟨Nat.le_refl _, hd σ H p⟩
/-- while, by a word and a measure of the state -/
theorem while_by {c : TT} {tb : TS} {D : Ends} {σ : St} {H : Hp} (Pv : St → Hp → Prop) (μ : St → Hp → Nat) (h0 : Pv σ H)
    (hs : ∀ σ H, Pv σ H → c σ H fun b H1 => if b = true then tb { D with nx := fun σ' H' => Pv σ' H' ∧ μ σ' H' < μ σ H, ct := fun σ' H' => Pv σ' H' ∧ μ σ' H' < μ σ H, bk := D.nx } σ H1 else D.nx σ H1)
    (mono : ∀ σ H Q Q', (∀ b H1, Q b H1 → Q' b H1) → c σ H Q → c σ H Q') : tWhile c tb D σ H := by
  refine ⟨fun m σ H => m = μ σ H ∧ Pv σ H, ⟨_, rfl, h0⟩, ?_⟩
  rintro m σ H ⟨rfl, p⟩
  refine mono σ H _ _ (fun b H1 q => ?_) (hs σ H p)
  cases b with
  | true => exact ⟨_, fun σ' H' ⟨p', l⟩ => ⟨_, l, rfl, p'⟩, q⟩
  | false => exact q
end L2

namespace L2
open PySem PySem.Spec PyProof.Rows

abbrev R2 := V → V → Hp → VK → Prop
/-- a two-place operation on values: f is binaryOp op, inplaceOp op or compareOp op -/
def OpR (X : Cx) (f : Value → Value → Sem Value) (r : R2) : Prop :=
  ∀ (pins : List (Addr × Obj)) (s : Shared) (σ : St) (H : Hp) (x y : V) (v u : Value) (Q : VK), Inv X pins σ H s → RelV x v → RelV y u → r x y H Q →
    wpAny (model X.prog X.w) X.A (f v u) (EP X pins σ Q) X.xe s
/-- a one-place operation -/
def UnR (X : Cx) (f : Value → Sem Value) (r : V → Hp → VK → Prop) : Prop :=
  ∀ (pins : List (Addr × Obj)) (s : Shared) (σ : St) (H : Hp) (x : V) (v : Value) (Q : VK), Inv X pins σ H s → RelV x v → r x H Q →
    wpAny (model X.prog X.w) X.A (f v) (EP X pins σ Q) X.xe s
/-- a call of a value that is known (a builtin, a type) with values -/
def CallR (X : Cx) (f : Value) (r : List V → Hp → VK → Prop) : Prop :=
  ∀ (pins : List (Addr × Obj)) (s : Shared) (σ : St) (H : Hp) (xs : List V) (us : List Value) (Q : VK), Inv X pins σ H s → Vals xs us → r xs H Q →
    wpAny (model X.prog X.w) X.A (call f us) (EP X pins σ Q) X.xe s

def tOp (r : R2) (ta tb : TE) : TE := fun σ H Q => ta σ H fun x H1 => tb σ H1 fun y H2 => r x y H2 Q
def tUn (r : V → Hp → VK → Prop) (ta : TE) : TE := fun σ H Q => ta σ H fun x H1 => r x H1 Q
/-- ints in, under C, and a value out -/
def rI (C : Int → Int → Prop) (g : Int → Int → V) : R2 := fun x y H Q => ∃ i j, x = .int i ∧ y = .int j ∧ C i j ∧ Q (g i j) H
def rI0 (g : Int → Int → V) : R2 := fun x y H Q => ∃ i j, x = .int i ∧ y = .int j ∧ Q (g i j) H
def rU (g : Int → V) : V → Hp → VK → Prop := fun x H Q => ∃ i, x = .int i ∧ Q (g i) H

section
variable {X : Cx} {a b c : Expr} {ta tb tc : TE} {pos : Pos}

theorem binT (ha : PE X a ta) (hb : PE X b tb) {pins : List (Addr × Obj)} {s : Shared} {σ : St} {H : Hp} {R : V → V → Hp → Prop} (I : Inv X pins σ H s)
    (h : ta σ H fun x H1 => tb σ H1 fun y H2 => R x y H2) {Q : Value → Shared → Prop} {f : Value → Value → Sem Value}
    (hf : ∀ v u s2 x y H2, Inv X pins σ H2 s2 → RelV x v → RelV y u → R x y H2 → wpAny (model X.prog X.w) X.A (f v u) Q X.xe s2) :
    wpAny (model X.prog X.w) X.A (eval a X.env) (fun v s₁ => wpAny (model X.prog X.w) X.A (eval b X.env) (fun u s₂ => wpAny (model X.prog X.w) X.A (f v u) Q X.xe s₂) X.xe s₁) X.xe s := by
  refine thn (ha pins s σ H _ I h) fun v s1 ⟨x, H1, I1, r1, q1⟩ => ?_
  refine thn (hb pins s1 σ H1 _ I1 q1) fun u s2 ⟨y, H2, I2, r2, q2⟩ => ?_
  exact hf v u s2 x y H2 I2 r1 r2 q2

theorem pe_op {op : Operator} {r : R2} (ho : OpR X (binaryOp op) r) (ha : PE X a ta) (hb : PE X b tb) : PE X (.BinOp a op b pos) (tOp r ta tb) := by
  intro pins s σ H Q I h
  exact wpAny_BinOp (binT ha hb I h fun v u s2 x y H2 I2 rx ry q => ho pins s2 σ H2 x y v u Q I2 rx ry q)
theorem pe_un {op : UnaryOp} {r : V → Hp → VK → Prop} (ho : UnR X (unaryOp op) r) (ha : PE X a ta) : PE X (.UnaryOp op a pos) (tUn r ta) := by
  intro pins s σ H Q I h
  exact UnaryOp_ (thn (ha pins s σ H _ I h) fun v s1 ⟨x, H1, I1, r1, q1⟩ => ho pins s1 σ H1 x v Q I1 r1 q1)

/-! ### ints -/
theorem opI {f : Value → Value → Sem Value} {C : Int → Int → Prop} {g : Int → Int → Int}
    (rule : ∀ (i j : Int) (t u : Tok) (s : Shared) (Q : Value → Shared → Prop) (E : Value → Shared → Prop), C i j → Q (.int (g i j) s.toks) { s with toks := s.toks + 1 } → wpAny (model X.prog X.w) X.A (f (.int i t) (.int j u)) Q E s) :
    OpR X f (rI C fun i j => .int (g i j)) := by
  intro pins s σ H x y v u Q I rx ry h
  obtain ⟨i, j, rfl, rfl, hc, q⟩ := h
  obtain ⟨t, rfl⟩ := rx
  obtain ⟨t', rfl⟩ := ry
  exact rule i j t t' s _ _ hc ⟨.int (g i j), H, I.tok _, ⟨_, rfl⟩, q⟩
theorem opI0 {f : Value → Value → Sem Value} {g : Int → Int → Int}
    (rule : ∀ (i j : Int) (t u : Tok) (s : Shared) (Q : Value → Shared → Prop) (E : Value → Shared → Prop), Q (.int (g i j) s.toks) { s with toks := s.toks + 1 } → wpAny (model X.prog X.w) X.A (f (.int i t) (.int j u)) Q E s) :
    OpR X f (rI0 fun i j => .int (g i j)) := by
  intro pins s σ H x y v u Q I rx ry h
  obtain ⟨i, j, rfl, rfl, q⟩ := h
  obtain ⟨t, rfl⟩ := rx
  obtain ⟨t', rfl⟩ := ry
  exact rule i j t t' s _ _ ⟨.int (g i j), H, I.tok _, ⟨_, rfl⟩, q⟩
theorem opB0 {f : Value → Value → Sem Value} {g : Int → Int → Bool}
    (rule : ∀ (i j : Int) (t u : Tok) (s : Shared) (Q : Value → Shared → Prop) (E : Value → Shared → Prop), Q (.bool (g i j)) s → wpAny (model X.prog X.w) X.A (f (.int i t) (.int j u)) Q E s) :
    OpR X f (rI0 fun i j => .bl (g i j)) := by
  intro pins s σ H x y v u Q I rx ry h
  obtain ⟨i, j, rfl, rfl, q⟩ := h
  obtain ⟨t, rfl⟩ := rx
  obtain ⟨t', rfl⟩ := ry
  exact rule i j t t' s _ _ ⟨.bl (g i j), H, I, rfl, q⟩

def CDiv (i j : Int) : Prop := 0 < j ∧ j < 1073741824
def CPow (i j : Int) : Prop := 0 ≤ j ∧ j ≤ 1000000 ∧ i.natAbs < 2 ^ 64
def CMul (i j : Int) : Prop := (-(2 ^ 64) < i ∧ i < 2 ^ 64) ∨ (-(2 ^ 64) < j ∧ j < 2 ^ 64)
theorem CMul.ok {i j : Int} (h : CMul i j) : IntMulOk i j := by
  rcases h with ⟨h1, h2⟩ | ⟨h1, h2⟩
  · exact .of_left (intBits_le_64 h1 h2)
  · exact .of_right (intBits_le_64 h1 h2)

theorem op_add : OpR X (binaryOp .Add) (rI0 fun i j => .int (i + j)) := opI0 fun _ _ _ _ _ _ _ q => add_int q
theorem op_sub : OpR X (binaryOp .Sub) (rI0 fun i j => .int (i - j)) := opI0 fun _ _ _ _ _ _ _ q => sub_int q
theorem op_mul : OpR X (binaryOp .Mult) (rI CMul fun i j => .int (i * j)) := opI fun _ _ _ _ _ _ _ hc q => mul_int q hc.ok
/-- // by a positive divisor -/
theorem op_fdiv : OpR X (binaryOp .FloorDiv) (rI CDiv fun i j => .int (i / j)) := opI fun i j _ _ _ _ _ hc q => by
  have h1 : (0 : Int) < j := hc.1
  have h2 : j < 1073741824 := hc.2
  exact floordiv_int (by omega) (by rw [Int.fdiv_eq_ediv_of_nonneg i (by omega)]; exact q) (.inl (PyProof.noPylong_small (by omega)))
/-- % by a positive divisor of any size -/
theorem op_mod : OpR X (binaryOp .Mod) (rI (fun _ j => 0 < j) fun i j => .int (i % j)) := opI fun i j _ _ _ _ _ hc q => by
  have h1 : (0 : Int) < j := hc
  exact mod_int' (by omega) (by rw [Int.fmod_eq_emod_of_nonneg i (by omega)]; exact q)
theorem op_pow : OpR X (binaryOp .Pow) (rI CPow fun i j => .int (i ^ j.toNat)) := opI fun _ _ _ _ _ _ _ hc q => pow_int_small hc.1 hc.2.1 hc.2.2 q
theorem op_shl : OpR X (binaryOp .LShift) (rI CPow fun i j => .int (i * 2 ^ j.toNat)) := opI fun _ _ _ _ _ _ _ hc q => lshift_int_small hc.1 hc.2.1 hc.2.2 q
theorem op_and : OpR X (binaryOp .BitAnd) (rI0 fun i j => .int (Builtin.bitAnd i j)) := opI0 fun _ _ _ _ _ _ _ q => and_int q
theorem op_or : OpR X (binaryOp .BitOr) (rI0 fun i j => .int (Builtin.bitOr i j)) := opI0 fun _ _ _ _ _ _ _ q => or_int q
theorem op_xor : OpR X (binaryOp .BitXor) (rI0 fun i j => .int (Builtin.bitXor i j)) := opI0 fun _ _ _ _ _ _ _ q => xor_int q


theorem unI {f : Value → Sem Value} {g : Int → Int}
    (rule : ∀ (i : Int) (t : Tok) (s : Shared) (Q : Value → Shared → Prop) (E : Value → Shared → Prop), Q (.int (g i) s.toks) { s with toks := s.toks + 1 } → wpAny (model X.prog X.w) X.A (f (.int i t)) Q E s) :
    UnR X f (rU fun i => .int (g i)) := by
  intro pins s σ H x v Q I rx h
  obtain ⟨i, rfl, q⟩ := h
  obtain ⟨t, rfl⟩ := rx
  exact rule i t s _ _ ⟨.int (g i), H, I.tok _, ⟨_, rfl⟩, q⟩
theorem un_neg : UnR X (unaryOp .USub) (rU fun i => .int (-i)) := unI fun _ _ _ _ _ q => neg_int q

/-! ### bools among ints: n += (a < b) -/
end

/-! ### comparisons -/
/-- the scalars that == tells apart as data does -/
def scal : V → V → Bool
  | .non, .non => true | .non, .int _ => true | .int _, .non => true | .non, .bl _ => true | .bl _, .non => true | .non, .str _ => true | .str _, .non => true
  | .int _, .int _ => true | .bl _, .bl _ => true | .str _, .str _ => true | .byt _, .byt _ => true
  | .int _, .str _ => true | .str _, .int _ => true | .bl _, .str _ => true | .str _, .bl _ => true
  | _, _ => false
def rEq : R2 := fun x y H Q => scal x y = true ∧ Q (.bl (decide (x = y))) H
def rNe : R2 := fun x y H Q => scal x y = true ∧ Q (.bl (!decide (x = y))) H

theorem dec_int {i j : Int} : decide (V.int i = V.int j) = (i == j) := by
  rw [Bool.eq_iff_iff]
  simp
theorem dec_bl {i j : Bool} : decide (V.bl i = V.bl j) = (i == j) := by
  rw [Bool.eq_iff_iff]
  simp
theorem dec_str {i j : Str} : decide (V.str i = V.str j) = (i == j) := by
  rw [Bool.eq_iff_iff]
  simp
theorem dec_byt {i j : Array UInt8} : decide (V.byt i = V.byt j) = (i.toList == j.toList) := by
  rw [Bool.eq_iff_iff]
  cases i
  cases j
  simp

section
variable {X : Cx} {a b c : Expr} {ta tb tc : TE} {pos : Pos}
theorem fin_bl {pins : List (Addr × Obj)} {σ : St} {H : Hp} {s : Shared} {Q : VK} {k k' : Bool} (I : Inv X pins σ H s) (q : Q (.bl k) H) (e : k = k') : EP X pins σ Q (.bool k') s := by
  subst e
  exact ⟨.bl k, H, I, rfl, q⟩
theorem op_eq : OpR X (compareOp .Eq) rEq := by
  intro pins s σ H x y v u Q I rx ry h
  obtain ⟨hs, q⟩ := h
  cases x with
  | non =>
    cases rx
    cases y with
    | non => cases ry; exact PySem.EqNone.eq_none_none (fin_bl I q (by simp))
    | bl j => cases ry; exact PySem.EqNone.eq_none_bool (fin_bl I q (by simp))
    | int j => obtain ⟨t', rfl⟩ := ry; exact PySem.EqNone.eq_none_int (fin_bl I q (by simp))
    | str j => obtain ⟨t', rfl⟩ := ry; exact PySem.EqNone.eq_none_str (fin_bl I q (by simp))
    | _ => exact absurd (show false = true from hs) Bool.false_ne_true
  | bl i =>
    cases rx
    cases y with
    | non => cases ry; exact PySem.EqNone.eq_bool_none (fin_bl I q (by simp))
    | bl j => cases ry; exact eq_bool (fin_bl I q dec_bl)
    | str j => obtain ⟨t', rfl⟩ := ry; exact PySem.EqMixed.eq_bool_str (fin_bl I q (by simp))
    | _ => exact absurd (show false = true from hs) Bool.false_ne_true
  | int i =>
    obtain ⟨t, rfl⟩ := rx
    cases y with
    | non => cases ry; exact PySem.EqNone.eq_int_none (fin_bl I q (by simp))
    | int j => obtain ⟨t', rfl⟩ := ry; exact eq_int (fin_bl I q dec_int)
    | str j => obtain ⟨t', rfl⟩ := ry; exact PySem.EqMixed.eq_int_str (fin_bl I q (by simp))
    | _ => exact absurd (show false = true from hs) Bool.false_ne_true
  | str i =>
    obtain ⟨t, rfl⟩ := rx
    cases y with
    | non => cases ry; exact PySem.EqNone.eq_str_none (fin_bl I q (by simp))
    | bl j => cases ry; exact PySem.EqMixed.eq_str_bool (fin_bl I q (by simp))
    | int j => obtain ⟨t', rfl⟩ := ry; exact PySem.EqMixed.eq_str_int (fin_bl I q (by simp))
    | str j => obtain ⟨t', rfl⟩ := ry; exact eq_str (fin_bl I q dec_str)
    | _ => exact absurd (show false = true from hs) Bool.false_ne_true
  | byt i =>
    obtain ⟨t, rfl⟩ := rx
    cases y with
    | byt j => obtain ⟨t', rfl⟩ := ry; exact PySem.W.eq_bytes (fin_bl I q dec_byt)
    | _ => exact absurd (show false = true from hs) Bool.false_ne_true
  | _ => cases y <;> exact absurd (show false = true from hs) Bool.false_ne_true
theorem op_ne : OpR X (compareOp .NotEq) rNe := by
  intro pins s σ H x y v u Q I rx ry h
  obtain ⟨hs, q⟩ := h
  cases x with
  | non =>
    cases rx
    cases y with
    | non => cases ry; exact PySem.EqNone.ne_none_none (fin_bl I q (by simp))
    | bl j => cases ry; exact PySem.EqNone.ne_none_bool (fin_bl I q (by simp))
    | int j => obtain ⟨t', rfl⟩ := ry; exact PySem.EqNone.ne_none_int (fin_bl I q (by simp))
    | str j => obtain ⟨t', rfl⟩ := ry; exact PySem.EqNone.ne_none_str (fin_bl I q (by simp))
    | _ => exact absurd (show false = true from hs) Bool.false_ne_true
  | bl i =>
    cases rx
    cases y with
    | non => cases ry; exact PySem.EqNone.ne_bool_none (fin_bl I q (by simp))
    | bl j => cases ry; exact ne_bool (fin_bl I q (congrArg not dec_bl))
    | str j => obtain ⟨t', rfl⟩ := ry; exact PySem.EqMixed.ne_bool_str (fin_bl I q (by simp))
    | _ => exact absurd (show false = true from hs) Bool.false_ne_true
  | int i =>
    obtain ⟨t, rfl⟩ := rx
    cases y with
    | non => cases ry; exact PySem.EqNone.ne_int_none (fin_bl I q (by simp))
    | int j => obtain ⟨t', rfl⟩ := ry; exact ne_int (fin_bl I q (congrArg not dec_int))
    | str j => obtain ⟨t', rfl⟩ := ry; exact PySem.EqMixed.ne_int_str (fin_bl I q (by simp))
    | _ => exact absurd (show false = true from hs) Bool.false_ne_true
  | str i =>
    obtain ⟨t, rfl⟩ := rx
    cases y with
    | non => cases ry; exact PySem.EqNone.ne_str_none (fin_bl I q (by simp))
    | bl j => cases ry; exact PySem.EqMixed.ne_str_bool (fin_bl I q (by simp))
    | int j => obtain ⟨t', rfl⟩ := ry; exact PySem.EqMixed.ne_str_int (fin_bl I q (by simp))
    | str j => obtain ⟨t', rfl⟩ := ry; exact ne_str (fin_bl I q (congrArg not dec_str))
    | _ => exact absurd (show false = true from hs) Bool.false_ne_true
  | byt i =>
    obtain ⟨t, rfl⟩ := rx
    cases y with
    | byt j => obtain ⟨t', rfl⟩ := ry; exact PySem.W.ne_bytes (fin_bl I q (congrArg not dec_byt))
    | _ => exact absurd (show false = true from hs) Bool.false_ne_true
  | _ => cases y <;> exact absurd (show false = true from hs) Bool.false_ne_true

theorem op_lt : OpR X (compareOp .Lt) (rI0 fun i j => .bl (decide (i < j))) := opB0 fun _ _ _ _ _ _ _ q => lt_int q
theorem op_le : OpR X (compareOp .LtE) (rI0 fun i j => .bl (decide (i ≤ j))) := opB0 fun _ _ _ _ _ _ _ q => le_int q
theorem op_gt : OpR X (compareOp .Gt) (rI0 fun i j => .bl (decide (j < i))) := opB0 fun _ _ _ _ _ _ _ q => gt_int q

/-- is None, is not None: the right side a value none -/
theorem op_isN : OpR X (compareOp .Is) (fun x y H Q => y = .non ∧ Q (.bl (decide (x = .non))) H) := by
  intro pins s σ H x y v u Q I rx ry h
  obtain ⟨rfl, q⟩ := h
  cases ry
  refine is_none_gen (fin_bl I q ?_)
  cases x <;> first
    | (cases rx; rfl)
    | (obtain ⟨t, rfl⟩ := rx; rfl)
theorem op_notN : OpR X (compareOp .IsNot) (fun x y H Q => y = .non ∧ Q (.bl (!decide (x = .non))) H) := by
  intro pins s σ H x y v u Q I rx ry h
  obtain ⟨rfl, q⟩ := h
  cases ry
  refine isnot_none_gen (fin_bl I q ?_)
  cases x <;> first
    | (cases rx; rfl)
    | (obtain ⟨t, rfl⟩ := rx; rfl)



theorem nomark (b : Expr) {op : CmpOp} (h : op ≠ .In := by decide) (h2 : op ≠ .NotIn := by decide) : behindInMarks op b = false := by
  have e1 : (op == CmpOp.In) = false := by cases op <;> first | rfl | exact absurd rfl h
  have e2 : (op == CmpOp.NotIn) = false := by cases op <;> first | rfl | exact absurd rfl h2
  cases b <;> simp [behindInMarks, e1, e2]
/-- a comparison as a value; hm: nomark b, or (for in, not in) by with_unfolding_all rfl -/
theorem pe_cmpR {op : CmpOp} {r : R2} (ho : OpR X (compareOp op) r) (ha : PE X a ta) (hb : PE X b tb) (hm : behindInMarks op b = false) : PE X (.Compare a [op] [b] pos) (tOp r ta tb) := by
  intro pins s σ H Q I h
  exact wpAny_Compare1 (binT ha hb I h fun v u s2 x y H2 I2 rx ry q => ho pins s2 σ H2 x y v u Q I2 rx ry q) hm
/-- a reading of a value as a test -/
def tTest (t : TE) : TT := fun σ H Q => t σ H fun x H' => ∃ k, x = .bl k ∧ Q k H'
theorem pt_cmpR {op : CmpOp} {r : R2} (ho : OpR X (compareOp op) r) (ha : PE X a ta) (hb : PE X b tb) (hm : behindInMarks op b = false) : PT X (.Compare a [op] [b] pos) (tTest (tOp r ta tb)) := by
  intro pins s σ H Q I h
  refine wpAny_isTrue_Compare1 (thn (ha pins s σ H _ I h) fun v s1 ⟨x, H1, I1, r1, q1⟩ => thn (hb pins s1 σ H1 _ I1 q1) fun u s2 ⟨y, H2, I2, r2, q2⟩ =>
    thn (ho pins s2 σ H2 x y v u _ I2 r1 r2 q2) fun c s3 ⟨z, H3, I3, r3, k, e, q3⟩ => ?_) hm
  subst e
  cases r3
  exact wpAny_truthy_bool ⟨H3, I3, q3⟩
/-- a op1 b op2 c -/
def tChain (r r' : R2) (ta tb tc : TE) : TE := fun σ H Q => ta σ H fun x H1 => tb σ H1 fun y H2 => r x y H2 fun z H3 => ∃ k, z = .bl k ∧
  (if k = true then tc σ H3 fun w' H4 => r' y w' H4 Q else Q (.bl false) H3)
theorem pt_chain {op op' : CmpOp} {r r' : R2} (ho : OpR X (compareOp op) r) (ho' : OpR X (compareOp op') r') (ha : PE X a ta) (hb : PE X b tb) (hc : PE X c tc)
    (hm : lastMarks [op, op'] [b, c] = false := by with_unfolding_all rfl) : PT X (.Compare a [op, op'] [b, c] pos) (tTest (tChain r r' ta tb tc)) := by
  intro pins s σ H Q I h
  refine isTrue_chain (thn (ha pins s σ H _ I h) fun v s1 ⟨x, H1, I1, r1, q1⟩ => test_link (thn (hb pins s1 σ H1 _ I1 q1) fun u s2 ⟨y, H2, I2, r2, q2⟩ =>
    thn (ho pins s2 σ H2 x y v u _ I2 r1 r2 q2) fun d s3 ⟨z, H3, I3, r3, k, e, q3⟩ => ?_)) hm
  subst e
  cases r3
  refine wpAny_truthy_bool ?_
  cases k with
  | false =>
    obtain ⟨k', e', q'⟩ := q3
    cases e'
    exact ite_ff ⟨H3, I3, q'⟩
  | true =>
    refine ite_tt (test_last (thn (hc pins s3 σ H3 _ I3 q3) fun w' s4 ⟨z', H4, I4, r4, q4⟩ => thn (ho' pins s4 σ H4 y z' u w' _ I4 r2 r4 q4) fun d' s5 ⟨z2, H5, I5, r5, k2, e2, q5⟩ => ?_))
    subst e2
    cases r5
    exact wpAny_truthy_bool ⟨H5, I5, q5⟩

/-! ### truth -/
theorem line63 : (sizeLine : Nat) < 2 ^ 63 := by rw [sizeLine_eq]; decide

/-! ### strs and bytes -/
theorem op_add_str : OpR X (binaryOp .Add) (fun x y H Q => ∃ i j, x = .str i ∧ y = .str j ∧ i.length + j.length ≤ sizeLine ∧ Q (.str (i ++ j)) H) := by
  intro pins s σ H x y v u Q I rx ry h
  obtain ⟨i, j, rfl, rfl, hz, q⟩ := h
  obtain ⟨t, rfl⟩ := rx
  obtain ⟨t', rfl⟩ := ry
  exact add_str (fun t' tk => ⟨.str (i ++ j), H, I.tok _, ⟨_, rfl⟩, q⟩) hz


/-! ### scalar builtins, by CallR -/
theorem vals1 {x : V} {us : List Value} (r : Vals [x] us) : ∃ u, us = [u] ∧ RelV x u := by
  cases r with
  | cons r1 r2 => cases r2; exact ⟨_, rfl, r1⟩
theorem vals2 {x y : V} {us : List Value} (r : Vals [x, y] us) : ∃ u w', us = [u, w'] ∧ RelV x u ∧ RelV y w' := by
  cases r with
  | cons r1 r2 =>
    cases r2 with
    | cons r3 r4 => cases r4; exact ⟨_, _, rfl, r1, r3⟩
end
end L2

namespace L2
open PySem PySem.Spec PyProof.Rows

/-! ### an instance, its attributes a map -/
structure ObjM (h : Heap) (x dx C : Addr) (mA : Str → Option Value) : Prop where
  obj : h.get? x = some (PySem.W.instObj C dx)
  ns : h.Ns1 dx mA
  ne : dx ≠ x

theorem lookIn_ns {h : Heap} {dx : Addr} {mA : Str → Option Value} (n : h.Ns1 dx mA) : ∃ od, h.get? dx = some od ∧ ∀ name, PySem.W.lookIn name od = some (mA name) := by
  obtain ⟨o, es, ep, ho, hd, hk, _, hm⟩ := n
  refine ⟨o, ho, fun name => ?_⟩
  have e := hm name
  unfold nsFind findBy at e
  rw [← Array.find?_toList] at e
  unfold PySem.W.lookIn
  rw [hd]
  dsimp only
  split
  · rename_i y q
    rw [q] at e
    exact congrArg some e
  · rename_i q
    rw [q] at e
    have a : es.toList.any (·.refKey) = false := by
      rw [List.any_eq_false]
      intro y hy
      obtain ⟨z, t, hkey⟩ := hk y (Array.mem_toList_iff.mp hy)
      simp [DictEntry.refKey, hkey]
    have a' : ¬ es.toList.any (·.refKey) = true := by rw [a]; exact Bool.false_ne_true
    rw [if_neg a']
    exact congrArg some e

theorem ObjM.look {h : Heap} {x dx C : Addr} {mA : Str → Option Value} (I : ObjM h x dx C mA) : ∃ od, PySem.W.InstAt h x (PySem.W.instObj C dx) C (some od) ∧ ∀ name, PySem.W.lookIn name od = some (mA name) :=
  let ⟨od, ho, hl⟩ := lookIn_ns I.ns
  ⟨od, ⟨I.obj, rfl, rfl, ho⟩, hl⟩

section
variable {prog : Program} {w : World} {A : Around} {E : Value → Shared → Prop} {s : Shared} {K : PySem.W.Frag} {x dx C f : Addr} {mA : Str → Option Value} {name : Str} {v : Value}

theorem get_map {expr : Bool} {Q : Value → Shared → Prop} (X : K.In s.heap) (I : ObjM s.heap x dx C mA) (hg : PySem.W.plainGet K C name = true) (hh : PySem.W.hasDictIn K C = true)
    (ha : PySem.W.findIn K (.ref C) name = some none) (hv : mA name = some v) (hv' : PySem.W.handedIn v = true) (h : Q v { s with toks := s.toks + 1 }) :
    wpAny (model prog w) A (getAttr (.ref x) name expr) Q E s := by
  obtain ⟨od, J, hl⟩ := I.look
  exact PySem.W.get_value X J (PySem.W.plainGet_of hg).1 (PySem.W.findObj_own hh ha rfl (by rw [hl, hv])) hv' h


theorem get_meth {pl : Sem Bool} {Q : Value × List Value → Shared → Prop} (X : K.In s.heap) (I : ObjM s.heap x dx C mA) (hg : PySem.W.plainGet K C name = true)
    (hf : PySem.W.findIn K (.ref C) name = some (some (.ref f))) (ht : PySem.W.isFn K (.ref f) = true) (hv : mA name = none) (h : Q (.ref f, [.ref x]) s) :
    wpAny (model prog w) A (getMethod (.ref x) name pl) Q E s := by
  obtain ⟨od, J, hl⟩ := I.look
  exact PySem.W.method_fn X J (PySem.W.plainGet_of hg).1 (PySem.W.plainGet_of hg).2 hf (beq_iff_eq.mp ht) (by show (PySem.W.lookIn name od).map (·.isSome) = some false; rw [hl, hv]; rfl) h

theorem set_map {ns : List Str} {Q : Unit → Shared → Prop} (X : K.In s.heap) (I : ObjM s.heap x dx C mA)
    (hs : PySem.W.findIn K (.ref C) "__setattr__" = some (some (.builtin "object.__setattr__"))) (hp : PySem.W.plainOver K C = true) (ht : PySem.W.takerIn K C name = some none) (hh : PySem.W.hasDictIn K C = true)
    (hw : PySem.Within mA ns) (hsz : ns.length ≤ sizeLine)
    (h : ∀ h', ObjM h' x dx C (fun y => if y = name then some v else mA y) → Heap.SameBut dx s.heap h' → Q () { s with heap := h', toks := s.toks + 2 }) :
    wpAny (model prog w) A (setAttr (.ref x) name v) Q E s := by
  obtain ⟨od, J, hl⟩ := I.look
  refine PySem.W.set_plain X J hs (PySem.W.osa_open (s := { s with toks := s.toks + 1 }) (r := none) X J hp ht fun b => ?_)
  obtain ⟨cd, hc, hd'⟩ := PySem.W.any_some hh
  have hx : s.heap.get? x = some ⟨.ref C, some dx, .plain, #[]⟩ := I.obj
  refine wpAny_bind (wpAny_pure (wpAny_bind (wpAny_bind (wpAny_loadPart hx (wpAny_bind (PySem.W.Looks.here (s := { s with toks := s.toks + 1 }) (PySem.W.looks_clsIn X hc) ?_))))))
  rw [hd']
  refine wpAny_pure (a := some dx) (wpAny_bind (wpAny_pure (wpAny_bind ?_)))
  refine wpAny_nsSet1 (s := { s with toks := s.toks + 1 }) I.ns fun h' hn2 hs2 => ?_
  obtain ⟨oD, esD, epD, hoD, hdD, hcD⟩ := hn2.count (PySem.Within.cons name v hw)
  refine wpAny_bind (wpAny_lookBehind hoD (by rw [hdD]; exact pastItsLine_dict (Nat.le_trans hcD (by rw [List.length_cons]; omega))) ?_)
  exact wpAny_pure (h _ ⟨(hs2.2 _ (Ne.symm I.ne)).trans I.obj, hn2, I.ne⟩ hs2)

/-- C(..): the dict at the heap's end, the instance behind it; then its __init__ -/
theorem make_map {R : Result → Shared → Prop} {vs : List Value} {kw : List (Str × Value)} (X : K.In s.heap) (hm : PySem.W.makesIn K C = true)
    (hi : PySem.W.findIn K (.ref C) "__init__" = some (some (.ref f))) (hf : PySem.W.typeIn K (.ref f) = some (.type "function"))
    (h : codeAny (model prog w) (A.under (.builtin "type.__call__" ⟨.ref C :: vs, kw⟩)) (.call (.ref f) ⟨.ref (s.heap.objs.size + 1) :: vs, kw⟩) (PySem.W.InitBack (s.heap.objs.size + 1) R)
      { s with heap := (s.heap.push PySem.W.emptyDict).push (PySem.W.instObj C s.heap.objs.size) }) :
    codeAny (model prog w) A (.call (.ref C) ⟨vs, kw⟩) R s := by
  obtain ⟨hh, g, d, t, os⟩ := s
  exact PySem.W.make_core (PySem.W.makes_of X hm) (PySem.W.looks_findIn X hi) (fun self => PySem.W.bind_fn X self hf) (.inl rfl) h
end

/-! ### the attributes as a list of pairs -/
def putF (f : Str) (v : V) : List (Str × V) → List (Str × V)
  | [] => [(f, v)]
  | (g, x) :: r => if g = f then (g, v) :: r else (g, x) :: putF f v r
theorem lookup_putF (f g : Str) (v : V) : ∀ fs : List (Str × V), (putF f v fs).lookup g = if g = f then some v else fs.lookup g
  | [] => by
    show List.lookup g [(f, v)] = _
    by_cases h : g = f
    · have hb : (g == f) = true := beq_iff_eq.mpr h
      simp only [List.lookup, hb, if_pos h]
    · have hb : (g == f) = false := beq_eq_false_iff_ne.mpr h
      simp only [List.lookup, hb, if_neg h]
  | (k, x) :: r => by
    have ih := lookup_putF f g v r
    rw [show putF f v ((k, x) :: r) = (if k = f then (k, v) :: r else (k, x) :: putF f v r) from rfl]
    by_cases hk : k = f
    · rw [if_pos hk]
      by_cases h : g = k
      · have hb : (g == k) = true := beq_iff_eq.mpr h
        simp only [List.lookup, hb, if_pos (h.trans hk)]
      · have hb : (g == k) = false := beq_eq_false_iff_ne.mpr h
        simp only [List.lookup, hb, if_neg (fun e : g = f => h (e.trans hk.symm))]
    · rw [if_neg hk]
      by_cases h : g = k
      · have hb : (g == k) = true := beq_iff_eq.mpr h
        simp only [List.lookup, hb, if_neg (fun e : g = f => hk (h.symm.trans e))]
      · have hb : (g == k) = false := beq_eq_false_iff_ne.mpr h
        simp only [List.lookup, hb]
        exact ih
theorem keys_putF (f : Str) (v : V) : ∀ fs : List (Str × V), f ∈ (putF f v fs).map (·.1) ∧ ∀ g, g ∈ fs.map (·.1) → g ∈ (putF f v fs).map (·.1)
  | [] => ⟨by simp [putF], fun g h => by simp at h⟩
  | (k, x) :: r => by
    obtain ⟨i1, i2⟩ := keys_putF f v r
    rw [show putF f v ((k, x) :: r) = (if k = f then (k, v) :: r else (k, x) :: putF f v r) from rfl]
    by_cases hk : k = f
    · rw [if_pos hk]
      subst hk
      exact ⟨by simp, fun g h => by simpa using h⟩
    · rw [if_neg hk]
      refine ⟨?_, fun g h => ?_⟩
      · rw [List.map_cons]
        exact List.mem_cons_of_mem _ i1
      · rw [List.map_cons] at h ⊢
        rcases List.mem_cons.mp h with e | e
        · exact List.mem_cons.mpr (.inl e)
        · exact List.mem_cons_of_mem _ (i2 g e)
theorem length_putF (f : Str) (v : V) : ∀ fs : List (Str × V), (putF f v fs).length ≤ fs.length + 1
  | [] => by simp [putF]
  | (k, x) :: r => by
    have ih := length_putF f v r
    rw [show putF f v ((k, x) :: r) = (if k = f then (k, v) :: r else (k, x) :: putF f v r) from rfl]
    by_cases hk : k = f
    · rw [if_pos hk, List.length_cons, List.length_cons]; omega
    · rw [if_neg hk, List.length_cons, List.length_cons]; omega

theorem RelO.some_of {v : V} {o : Option Value} (r : RelO (some v) o) : ∃ u, o = some u ∧ RelV v u := by
  cases o with
  | none => exact (show False from r).elim
  | some u => exact ⟨u, rfl, r⟩
theorem RelO.none_of {o : Option Value} (r : RelO none o) : o = none := by
  cases o with
  | none => rfl
  | some u => exact (show False from r).elim
theorem handed_of {v : V} {u : Value} (r : RelV v u) : PySem.W.handedIn u = true := by
  cases v with
  | non => cases (show u = Value.none from r); rfl
  | bl b => cases (show u = Value.bool b from r); rfl
  | int i => obtain ⟨t, e⟩ := (show ∃ t, u = Value.int i t from r); cases e; rfl
  | str x => obtain ⟨t, e⟩ := (show ∃ t, u = Value.str x t from r); cases e; rfl
  | byt b => obtain ⟨t, e⟩ := (show ∃ t, u = Value.bytes b t from r); cases e; rfl
  | flt b => obtain ⟨t, e⟩ := (show ∃ t, u = Value.float b t from r); cases e; rfl
  | ref a => cases (show u = Value.ref a from r); rfl
  | ty n => cases (show u = Value.type n from r); rfl

section
variable {P : Program} {w : World} {H H' : Hp} {h h' : Heap} {a C dx : Addr} {fs fs' : List (Str × V)}
theorem ins_get (hok : HOk P w H h) (e : H a = some (.ins C dx fs)) : ∃ mA, ObjM h a dx C mA ∧ (∀ f, RelO (fs.lookup f) (mA f)) ∧ PySem.Within mA (fs.map (·.1)) ∧ fs.length ≤ 1000 ∧ H dx = some (.own a) := by
  obtain ⟨d, z, ne, ob, mA, n, r, q⟩ := (show ObjOk P w H h a (.ins C dx fs) from hok a _ e)
  exact ⟨mA, ⟨ob, n, ne⟩, r, q, z, d⟩
end

/-! ### what of the text a class must have -/
structure Cls (K : PySem.W.Frag) (C : Addr) : Prop where
  pg : PySem.W.plainGet K C Str.empty = true
  hd : PySem.W.hasDictIn K C = true
  po : PySem.W.plainOver K C = true
  sa : PySem.W.findIn K (.ref C) "__setattr__" = some (some (.builtin "object.__setattr__"))
theorem Cls.get {K : PySem.W.Frag} {C : Addr} (c : Cls K C) (f : Str) : PySem.W.plainGet K C f = true := c.pg
/-- no class of it has the name -/
def NoAttr (K : PySem.W.Frag) (C : Addr) (f : Str) : Prop := PySem.W.findIn K (.ref C) f = some none
theorem NoAttr.taker {K : PySem.W.Frag} {C : Addr} {f : Str} (n : NoAttr K C f) : PySem.W.takerIn K C f = some none := by
  unfold PySem.W.takerIn
  rw [show PySem.W.findIn K (.ref C) f = some none from n]
  rfl
/-- a method: a plain def of the class or of one above it -/
structure Meth (K : PySem.W.Frag) (C : Addr) (m : Str) (f : Addr) : Prop where
  at_ : PySem.W.findIn K (.ref C) m = some (some (.ref f))
  fn : PySem.W.isFn K (.ref f) = true
  kp : PySem.W.keepIn K (.ref f) = true

section
variable {X : Cx} {pins : List (Addr × Obj)} {σ : St} {H : Hp} {s : Shared} {a C dx : Addr} {fs : List (Str × V)} {f : Str} {v : V} {A : Around} {E : Value → Shared → Prop}

theorem getattr_ok {b : Bool} {Q : Value → Shared → Prop} (I : Inv X pins σ H s) (e : H a = some (.ins C dx fs)) (c : Cls X.K C) (n : NoAttr X.K C f) (l : fs.lookup f = some v)
    (h : ∀ u s', Inv X pins σ H s' → RelV v u → Q u s') : wpAny (model X.prog X.w) A (getAttr (.ref a) f b) Q E s := by
  obtain ⟨mA, O, r, _, _, _⟩ := ins_get I.hok e
  obtain ⟨u, hu, ru⟩ := RelO.some_of (v := v) (o := mA f) (by rw [← l]; exact r f)
  exact get_map I.kIn O (c.get f) c.hd n hu (handed_of ru) (h u _ (I.tok _) ru)


theorem getmeth_ok {m : Str} {g : Addr} {pl : Sem Bool} {Q : Value × List Value → Shared → Prop} (I : Inv X pins σ H s) (e : H a = some (.ins C dx fs)) (c : Cls X.K C) (k : Meth X.K C m g) (l : fs.lookup m = none)
    (h : Q (.ref g, [.ref a]) s) : wpAny (model X.prog X.w) A (getMethod (.ref a) m pl) Q E s := by
  obtain ⟨mA, O, r, _, _, _⟩ := ins_get I.hok e
  have hn : mA m = none := RelO.none_of (by rw [← l]; exact r m)
  exact get_meth I.kIn O (c.get m) k.at_ k.fn hn h

theorem setattr_ok {y : V} {u : Value} {Q : Unit → Shared → Prop} (I : Inv X pins σ H s) (e : H a = some (.ins C dx fs)) (c : Cls X.K C) (n : NoAttr X.K C f) (hl : fs.length < 1000) (ry : RelV y u)
    (h : ∀ s', Inv X pins σ (upd H a (.ins C dx (putF f y fs))) s' → Q () s') : wpAny (model X.prog X.w) A (setAttr (.ref a) f u) Q E s := by
  obtain ⟨mA, O, r, wi, _, ho⟩ := ins_get I.hok e
  have hz : (fs.map (·.1)).length ≤ sizeLine := by rw [List.length_map, sizeLine_eq]; omega
  refine set_map I.kIn O c.sa c.po n.taker c.hd wi hz fun h' O' sb => h _ ?_
  have hd : ∃ o, h'.get? dx = some o := let ⟨o, _, _, e', _⟩ := O'.ns; ⟨o, e'⟩
  refine I.write (x := a) (e := dx) (by rw [e]; exact True.intro) (.inr ho) (fun b q hb z => (sb.2 b hb).trans z) hd ?_
  refine ⟨by rw [upd_ne O.ne]; exact ho, ?_, O.ne, O'.obj, _, O'.ns, fun g => ?_, fun g hg => ?_⟩
  · have := length_putF f y fs; omega
  · show RelO ((putF f y fs).lookup g) (if g = f then some u else mA g)
    rw [lookup_putF]
    by_cases q : g = f
    · rw [if_pos q, if_pos q]; exact ry
    · rw [if_neg q, if_neg q]; exact r g
  · by_cases q : g = f
    · rw [q]; exact (keys_putF f y fs).1
    · refine (keys_putF f y fs).2 g (wi g fun z => hg ?_)
      show (if g = f then some u else mA g) = none
      rw [if_neg q]; exact z

/-- a new instance, tracked, without attributes -/
theorem Inv.made (I : Inv X pins σ H s) : Inv X pins σ (upd (upd H s.heap.objs.size (.own (s.heap.objs.size + 1))) (s.heap.objs.size + 1) (.ins C s.heap.objs.size []))
    { s with heap := (s.heap.push PySem.W.emptyDict).push (PySem.W.instObj C s.heap.objs.size) } := by
  have e1 : (s.heap.push PySem.W.emptyDict).get? s.heap.objs.size = some PySem.W.emptyDict := Heap.get?_push_size s.heap rfl
  have e2 : ((s.heap.push PySem.W.emptyDict).push (PySem.W.instObj C s.heap.objs.size)).get? (s.heap.objs.size + 1) = some (PySem.W.instObj C s.heap.objs.size) := by
    have := Heap.get?_push_size (s.heap.push PySem.W.emptyDict) (o := PySem.W.instObj C s.heap.objs.size) rfl
    rwa [Heap.size_push] at this
  have e3 : (s.heap.push PySem.W.emptyDict).Ns s.heap.objs.size (fun _ => none) := ⟨PySem.W.emptyDict, #[], _, e1, rfl, (fun e he => absurd he (by simp)), fun _ => rfl⟩
  have I1 := I.laid (a := s.heap.objs.size) (o := .own (s.heap.objs.size + 1)) (h' := s.heap.push PySem.W.emptyDict) (t' := s.toks) (fun b u q => Heap.get?_push_of_some _ q) (Nat.le_refl _) ⟨_, e1⟩
  refine I1.laid (a := s.heap.objs.size + 1) (o := .ins C s.heap.objs.size []) (t' := s.toks) (fun b u q => Heap.get?_push_of_some _ q) (Nat.le_of_eq (Heap.size_push _ _)) ?_
  have ne : s.heap.objs.size ≠ s.heap.objs.size + 1 := Nat.ne_of_lt (Nat.lt_succ_self _)
  refine ⟨by rw [upd_ne ne, upd_same], Nat.zero_le _, ne, e2, fun _ => none, (Heap.Ns1.of_empty e3).at fun o q => Heap.get?_push_of_some _ q, fun _ => True.intro, fun y hy => absurd rfl hy⟩

/-- e.f where nothing but the object is asked: through attributeBase (super) and the last hold -/
theorem attr_of {prog : Program} {w : World} {env : Env} {e : Expr} {f : Str} {pos : Pos} {s : Shared} {Q : Value → Shared → Prop} (hb : attributeBase e f env (eval e env) = eval e env)
    (h : wpAny (model prog w) A (eval e env) (fun o s₁ => wpAny (model prog w) A (getAttr o f true) Q E s₁) E s) : wpAny (model prog w) A (eval (.Attribute e f pos) env) Q E s :=
  Attribute_any_ h (by rw [arm_eval_Attribute, hb])
end

/-! ### readings and rules -/
/-- e.f, an attribute of the instance -/
def tFld (K : PySem.W.Frag) (ta : TE) (f : Str) : TE := fun σ H Q => ta σ H fun x H1 => ∃ a C dx fs v, x = .ref a ∧ H1 a = some (.ins C dx fs) ∧ Cls K C ∧ NoAttr K C f ∧ fs.lookup f = some v ∧ Q v H1
/-- e.f = value -/
def sFld (K : PySem.W.Frag) (ta tv : TE) (f : Str) : TS := fun D σ H => tv σ H fun y H1 => ta σ H1 fun x H2 => ∃ a C dx fs, x = .ref a ∧ H2 a = some (.ins C dx fs) ∧ Cls K C ∧ NoAttr K C f ∧ fs.length < 1000 ∧
  D.nx σ (upd H2 a (.ins C dx (putF f y fs)))

section
variable {X : Cx} {o e value : Expr} {f : Str} {pos pos' tpos : Pos} {ta tv : TE}
theorem pe_fld (he : PE X e ta) (hb : attributeBase e f X.env (eval e X.env) = eval e X.env) : PE X (.Attribute e f pos) (tFld X.K ta f) := by
  intro pins s σ H Q I h
  refine attr_of hb (thn (he pins s σ H _ I h) fun u s1 ⟨x, H1, I1, rx, a, C, dx, fs, v, ex, ea, c, n, l, q⟩ => ?_)
  subst ex
  obtain rfl : u = Value.ref a := rx
  exact getattr_ok I1 ea c n l fun u' s2 I2 ru => ⟨v, H1, I2, ru, q⟩
theorem ps_fld (ha : PE X o ta) (hv : PE X value tv) (hs : swapsWith value (some (.Attribute o f pos')) pos.line X.env = pure false) : PS X (.Assign [.Attribute o f pos'] value pos) (sFld X.K ta tv f) := by
  intro pins s σ H D I h
  refine plainObj_wpAny_Assign_Attribute (thn (hv pins s σ H _ I h) fun u s1 ⟨y, H1, I1, ry, q⟩ => thn (ha pins s1 σ H1 _ I1 q) fun ov s2 ⟨x, H2, I2, rx, a, C, dx, fs, ex, ea, c, n, l, q2⟩ => ?_) hs
  subst ex
  obtain rfl : ov = Value.ref a := rx
  exact setattr_ok I2 ea c n l ry fun s3 I3 => ⟨σ, _, I3, q2⟩

end

/-! ### isinstance -/
section
variable {X : Cx} {pins : List (Addr × Obj)} {σ : St} {H : Hp} {s : Shared} {A : Around} {E : Value → Shared → Prop} {Q : Value → Shared → Prop} {c : Value} {b : Bool}
/-- the type of a value, as the fragment's deciders take it; for an instance its class -/
inductive TyOf (K : PySem.W.Frag) (H : Hp) : V → Value → Prop where
  | non : TyOf K H .non (.type "NoneType")
  | bl (x : Bool) : TyOf K H (.bl x) (.type "bool")
  | int (i : Int) : TyOf K H (.int i) (.type "int")
  | str (x : Str) : TyOf K H (.str x) (.type "str")
  | flt (x : UInt64) : TyOf K H (.flt x) (.type "float")
  | lst {a : Addr} {xs : List V} (e : H a = some (.lst xs)) : TyOf K H (.ref a) (.type "list")
  | frz {a : Addr} {o : Obj} {xs : List V} (e : H a = some (.frz o (.lst xs))) : TyOf K H (.ref a) (.type "list")
  | tup {a : Addr} {xs : List V} (e : H a = some (.tup xs)) : TyOf K H (.ref a) (.type "tuple")
  | dK {a : Addr} {kvs : List (Key × V)} (e : H a = some (.dK kvs)) : TyOf K H (.ref a) (.type "dict")
  | dT {a : Addr} {kvs : List (List Key × V)} (e : H a = some (.dT kvs)) : TyOf K H (.ref a) (.type "dict")
  | ins {a C dx : Addr} {fs : List (Str × V)} (e : H a = some (.ins C dx fs)) (cl : Cls K C) (ha : PySem.W.findIn K (.ref C) "__class__" = some (some (.builtin "object.__class__")))
      (hn : PySem.W.specialIn K (.builtin "object.__class__") "__get__" = some (some (.builtin "getset_descriptor.__get__"))) (htk : PySem.W.takesIn K (.builtin "object.__class__") = some true)
      (hm : PySem.W.mroIn K C (.type "object") = some true) : TyOf K H (.ref a) (.ref C)
/-- isinstance(x, c) for one class c, a built-in or an own one: kitOne's answer -/
theorem isinst_ok {x : V} {u t : Value} (I : Inv X pins σ H s) (rx : RelV x u) (ty : TyOf X.K H x t) (e : PySem.W.kitOne X.K t c = some b) (h : ∀ tk, Q (.bool b) { s with toks := tk }) :
    wpAny (model X.prog X.w) A (call (.builtin "isinstance") [u, c]) Q E s := by
  cases ty with
  | non => cases (show u = Value.none from rx); exact PySem.W.kia_one PySem.W.kitx_none I.kIn True.intro e (fun z => nomatch z) h
  | bl y => cases (show u = Value.bool y from rx); exact PySem.W.kia_one PySem.W.kitx_bool I.kIn True.intro e (fun z => nomatch z) h
  | int i => obtain ⟨t, q⟩ := (show ∃ t, u = Value.int i t from rx); cases q; exact PySem.W.kia_one PySem.W.kitx_int I.kIn True.intro e (fun z => nomatch z) h
  | str y => obtain ⟨t, q⟩ := (show ∃ t, u = Value.str y t from rx); cases q; exact PySem.W.kia_one PySem.W.kitx_str I.kIn True.intro e (fun z => nomatch z) h
  | flt y => obtain ⟨t, q⟩ := (show ∃ t, u = Value.float y t from rx); cases q; exact PySem.W.kia_one PySem.W.kitx_float I.kIn True.intro e (fun z => nomatch z) h
  | @lst a xs ea =>
    cases (show u = Value.ref a from rx)
    obtain ⟨_, _, n, _, h1⟩ := (show ObjOk X.prog X.w H s.heap a (.lst xs) from I.hok a _ ea)
    exact PySem.W.kia_one PySem.W.kitx_list I.kIn ⟨_, h1, rfl⟩ e (fun z => nomatch z) h
  | @frz a ob xs ea =>
    cases (show u = Value.ref a from rx)
    obtain ⟨_, _, _, n, _, h1⟩ := (show ObjOk X.prog X.w H s.heap a (.frz ob (.lst xs)) from I.hok a _ ea)
    exact PySem.W.kia_one PySem.W.kitx_list I.kIn ⟨_, h1, rfl⟩ e (fun z => nomatch z) h
  | @tup a xs ea =>
    cases (show u = Value.ref a from rx)
    obtain ⟨_, _, _, p⟩ := (show ObjOk X.prog X.w H s.heap a (.tup xs) from I.hok a _ ea)
    obtain ⟨o, h1, h2, _⟩ := p
    exact PySem.W.kia_one PySem.W.kitx_tuple I.kIn ⟨o, h1, h2⟩ e (fun z => nomatch z) h
  | @dK a kvs ea =>
    cases (show u = Value.ref a from rx)
    obtain ⟨_, _, vs, _, p⟩ := (show ObjOk X.prog X.w H s.heap a (.dK kvs) from I.hok a _ ea)
    obtain ⟨o, es, ep, h1, h2, _⟩ := p
    exact PySem.W.kia_one PySem.W.kitx_dict I.kIn ⟨o, h1, h2.1⟩ e (fun z => nomatch z) h
  | @dT a kvs ea =>
    cases (show u = Value.ref a from rx)
    obtain ⟨_, _, xs, _, o, es, ep, h1, h2, _⟩ := (show ObjOk X.prog X.w H s.heap a (.dT kvs) from I.hok a _ ea)
    exact PySem.W.kia_one PySem.W.kitx_dict I.kIn ⟨o, h1, h2.1⟩ e (fun z => nomatch z) h
  | @ins a C dx fs ea cl ha hn htk hm =>
    cases (show u = Value.ref a from rx)
    obtain ⟨mA, O, _⟩ := ins_get I.hok ea
    obtain ⟨od, J, _⟩ := O.look
    exact PySem.W.kia_one (PySem.W.kitx_own (cl.get _) cl.hd ha hn htk hm) I.kIn J e (fun z => nomatch z) h
end
end L2

namespace L2
open PySem PySem.Spec PyProof.Rows

/-! ### room -/
structure Room (k : Nat) (A : Around) : Prop where
  hd : A.handled = none
  dp : A.depth + 3 * k + 5 < recursionLimit
  un : A.units + 16 * k + 200 < cLine
theorem Room.mono {j k : Nat} {A : Around} (r : Room k A) (h : j ≤ k) : Room j A := ⟨r.hd, by have := r.dp; omega, by have := r.un; omega⟩
theorem Room.deeper {k : Nat} {A : Around} (r : Room (k + 1) A) (env : Env) : Room k (A.deeper env) :=
  ⟨r.hd, by have := r.dp; show A.depth + 1 + 3 * k + 5 < _; omega, by have := r.un; show A.units + 3 + 16 * k + 200 < _; omega⟩
theorem make_depth {A : Around} {C : Addr} {us : List Value} {kw : List (Str × Value)} : (A.under (.builtin "type.__call__" ⟨.ref C :: us, kw⟩)).depth = A.depth + 1 := by
  first | rfl | simp [Around.under, Code.weight, Code.isCreation, Code.isGuard, Code.isCaller, Code.frames, Code.isFrame, guardIds]
theorem make_units {A : Around} {C : Addr} {us : List Value} {kw : List (Str × Value)} : (A.under (.builtin "type.__call__" ⟨.ref C :: us, kw⟩)).units = A.units + 1 := by
  first | rfl | simp [Around.under, Code.cUnits, Code.frames, Code.isFrame]
theorem Room.make {k : Nat} {A : Around} (r : Room (k + 1) A) (C : Addr) (us : List Value) (kw : List (Str × Value)) : Room k (A.under (.builtin "type.__call__" ⟨.ref C :: us, kw⟩)) :=
  ⟨r.hd, by have := r.dp; rw [make_depth]; omega, by have := r.un; rw [make_units]; omega⟩
theorem Room.depth {k : Nat} {A : Around} (r : Room k A) : A.depth < recursionLimit := by have := r.dp; omega
theorem Room.units {k : Nat} {A : Around} (r : Room k A) : A.units + 64 < cLine := by have := r.un; omega

/-! ### argument lists and displays -/
def tNil : TA := fun _ H Q => Q [] H
def tCons (ta : TE) (tr : TA) : TA := fun σ H Q => ta σ H fun x H1 => tr σ H1 fun xs H2 => Q (x :: xs) H2
section
variable {X : Cx} {e : Expr} {es : List Expr} {te : TE} {t : TA} {pos : Pos}
theorem pa_nil : PA X [] tNil := fun _ _ _ _ H Q I h => Calls.spliced_nil ⟨[], H, I, .nil, h⟩
theorem pa_cons (ha : PE X e te) (hr : PA X es t) (hs : starEach (e :: es) X.env = (false, eval e X.env) :: starEach es X.env := by rfl) : PA X (e :: es) (tCons te t) := by
  intro pos pins s σ H Q I h
  rw [hs]
  show wpAny _ _ (spliced ((false, eval e X.env) :: backTo pos (starEach es X.env))) _ _ s
  refine Calls.spliced_cons (thn (ha pins s σ H _ I h) fun u s1 ⟨x, H1, I1, r1, q1⟩ => ?_)
  exact thn (hr pos pins s1 σ H1 _ I1 q1) fun us s2 ⟨xs, H2, I2, r2, q2⟩ => ⟨x :: xs, H2, I2, .cons r1 r2, q2⟩

/-- a tuple, a list of written items -/
def tTup (t : TA) : TE := fun σ H Q => t σ H fun xs H1 => xs.length ≤ sizeLine ∧ ∀ p, H1 p = none → Q (.ref p) (upd H1 p (.tup xs))
def tLst (t : TA) : TE := fun σ H Q => t σ H fun xs H1 => xs.length ≤ sizeLine ∧ ∀ p, H1 p = none → Q (.ref p) (upd H1 p (.lst xs))
theorem pe_tup {x1} (h : PA X es t) : PE X (.Tuple es x1 pos) (tTup t) := by
  intro pins s σ H Q I hq
  refine wpAny_Tuple_spliced (thn (h pos pins s σ H _ I hq) fun us s1 ⟨xs, H1, I1, r, z, q⟩ => ⟨by rw [← r.length]; exact z, ?_⟩)
  have hf : H1 s1.heap.objs.size = none := I1.hok.fresh (Nat.le_refl _)
  refine ⟨.ref s1.heap.objs.size, upd H1 s1.heap.objs.size (.tup xs), I1.laid (t' := s1.toks) (fun b u e => Heap.get?_push_of_some _ e) (Nat.le_refl _) ?_, rfl, q _ hf⟩
  exact ⟨z, us, r, ⟨_, Heap.get?_push_size _ rfl, rfl, _, rfl⟩⟩
theorem pe_lst (h : PA X es t) : PE X (.List es pos) (tLst t) := by
  intro pins s σ H Q I hq
  refine wpAny_List_spliced (thn (h pos pins s σ H _ I hq) fun us s1 ⟨xs, H1, I1, r, z, q⟩ => ⟨by rw [← r.length]; exact z, ?_⟩)
  have hf : H1 s1.heap.objs.size = none := I1.hok.fresh (Nat.le_refl _)
  refine ⟨.ref s1.heap.objs.size, upd H1 s1.heap.objs.size (.lst xs), I1.laid (t' := s1.toks) (fun b u e => Heap.get?_push_of_some _ e) (Nat.le_refl _) ?_, rfl, q _ hf⟩
  exact ⟨z, us, 0, r, Heap.get?_push_size _ rfl⟩
end

/-! ### what a def promises -/
/-- a def's promise: the bound arguments in the parameters' order, the heap, the wanted end, the wanted exception -/
abbrev Sp := List V → Hp → VK → XK → Prop
/-- how an exception lies behind a call (file 08 gives it): the callers' frames, abstract heap and state ahead of the call, the wish, the exception, the state -/
abbrev CXT := List Env → Hp → Shared → XK → Value → Shared → Prop

/-- the state at a call -/
structure Env0 (P : Program) (w : World) (K : PySem.W.Frag) (mg : Str → Option Value) (base : Heap) (A : Around) (outer : List Env) (s : Shared) (H : Hp) : Prop where
  frames : A.frames = some outer
  mod : Mod K mg base
  bs : ∀ b o, base.get? b = some o → s.heap.get? b = some o ∧ H b = none
  bsz : base.objs.size ≤ s.heap.objs.size
  funs : s.heap.FunFrames base outer
  frf : ∀ b ∈ frs outer, H b = none
  hok : HOk P w H s.heap
  bare : AllBare s.gens
/-- a call's end -/
def CE (outer : List Env) (P : Program) (w : World) (H : Hp) (s : Shared) (Q : VK) (u : Value) (s' : Shared) : Prop :=
  ∃ v H', s'.os = s.os ∧ AllBare s'.gens ∧ Un (frs outer) [] H H' s.heap s'.heap ∧ HOk P w H' s'.heap ∧ RelV v u ∧ Q v H'
def CR (CX : CXT) (outer : List Env) (P : Program) (w : World) (H : Hp) (s : Shared) (Q : VK) (E : XK) (r : Result) (s' : Shared) : Prop :=
  match r with
  | .ok (.ret u) => CE outer P w H s Q u s'
  | .ok _ => False
  | .error e => CX outer H s E e s'
structure FnOk (P : Program) (w : World) (K : PySem.W.Frag) (mg : Str → Option Value) (base : Heap) (CX : CXT) (k : Nat) (f : Addr) (fd : FuncData) (ps : List Str) (sp : Sp) : Prop where
  len : ∀ vs H Q E, sp vs H Q E → vs.length = ps.length
  run : ∀ (A : Around) (outer : List Env) (s : Shared) (H : Hp) (args : Args) (us : List Value) (vs : List V) (Q : VK) (E : XK), Room k A → Env0 P w K mg base A outer s H → BindsTo s fd args (ps.zip us) → Vals vs us → sp vs H Q E →
    codeAny (model P w) A (.call (.ref f) args) (CR CX outer P w H s Q E) s
theorem FnOk.mono {P : Program} {w : World} {K : PySem.W.Frag} {mg : Str → Option Value} {base : Heap} {CX : CXT} {j k : Nat} {f : Addr} {fd : FuncData} {ps : List Str} {sp : Sp} (F : FnOk P w K mg base CX j f fd ps sp) (h : j ≤ k) :
    FnOk P w K mg base CX k f fd ps sp := ⟨F.len, fun A outer s H args us vs Q E hr => F.run A outer s H args us vs Q E (hr.mono h)⟩

theorem Env0.make {P : Program} {w : World} {K : PySem.W.Frag} {mg : Str → Option Value} {base : Heap} {A : Around} {outer : List Env} {s : Shared} {H : Hp} (e : Env0 P w K mg base A outer s H) (C : Addr) (us : List Value) (kw : List (Str × Value)) :
    Env0 P w K mg base (A.under (.builtin "type.__call__" ⟨.ref C :: us, kw⟩)) outer s H := ⟨by first | exact e.frames | (simpa [Around.under, Code.envs, Code.isFrame, pushEnvs] using e.frames), e.mod, e.bs, e.bsz, e.funs, e.frf, e.hok, e.bare⟩

section
variable {X : Cx} {pins : List (Addr × Obj)} {σ : St} {H : Hp} {s s' : Shared}
/-- from a body: what a callee wants -/
theorem Inv.env0 (I : Inv X pins σ H s) : Env0 X.prog X.w X.K X.mg X.base X.A X.stack s H :=
  ⟨I.ok.frames, I.ok.mod, I.bs, Nat.le_trans I.ok.bsz I.sz, I.stack, I.stkFree, I.hok, I.bare⟩
/-- behind a call -/
theorem Inv.after {Q : VK} {u : Value} (I : Inv X pins σ H s) (h : CE X.stack X.prog X.w H s Q u s') : EP X pins σ Q u s' := by
  obtain ⟨v, H', os, bare, un, hok, r, q⟩ := h
  obtain ⟨hh, g, d, t, os'⟩ := s'
  obtain rfl : os' = s.os := os
  exact ⟨v, H', I.call (h' := hh) (g' := g) (d' := d) (t' := t) (ch := []) un hok bare (fun b z => absurd z (by simp)), r, q⟩
end

/-! ### calls -/
/-- f(..): the written arguments, then the defaults dvs; E: what is wanted of an exception -/
def tCall (sp : Sp) (dvs : List V) (E : XK) (t : TA) : TE := fun σ H Q => t σ H fun vs H1 => sp (vs ++ dvs) H1 Q E
/-- o.m(..) of an instance of the class at C -/
def tMeth (C : Addr) (m : Str) (sp : Sp) (dvs : List V) (E : XK) (ta : TE) (t : TA) : TE := fun σ H Q => ta σ H fun x H1 => ∃ a dx fs, x = .ref a ∧ H1 a = some (.ins C dx fs) ∧ fs.lookup m = none ∧
  t σ H1 fun vs H2 => sp (x :: (vs ++ dvs)) H2 Q E
/-- C(..): a new instance and its dict, then __init__ -/
def tMake (C : Addr) (sp : Sp) (dvs : List V) (E : XK) (t : TA) : TE := fun σ H Q => t σ H fun vs H1 => ∀ x dx, H1 x = none → H1 dx = none → dx ≠ x →
  sp (.ref x :: (vs ++ dvs)) (upd (upd H1 dx (.own x)) x (.ins C dx [])) (fun v H2 => v = .non ∧ Q (.ref x) H2) E

/-- how the parameters are bound: us the positional arguments, kw the keywords' values by name, ds the defaults that fill up -/
def Binds (K : PySem.W.Frag) (fd : FuncData) (ps : List Str) (ds : List Value) : Prop :=
  ∀ (s : Shared) (us : List Value), K.In s.heap → (us ++ ds).length = ps.length → BindsTo s fd ⟨us, []⟩ (ps.zip (us ++ ds))
/-- every parameter is given -/
theorem Binds.all {K : PySem.W.Frag} {fd : FuncData} {ps : List Str} (h : ∀ us : List Value, us.length = ps.length → bindArgs fd ⟨us, []⟩ = pure (ps.zip us)) : Binds K fd ps [] := fun s us _ hl => by
  rw [List.append_nil] at hl ⊢
  exact .of_eq (h us hl)

/-- an exception of a callee reaches what this body wants of exceptions -/
def Passes (CX : CXT) (X : Cx) (E : XK) : Prop := ∀ (pins : List (Addr × Obj)) (σ : St) (H : Hp) (s : Shared) (e : Value) (s' : Shared), Inv X pins σ H s → CX X.stack H s E e s' → X.xe e s'

section
variable {X : Cx} {CX : CXT} {k : Nat} {f C : Addr} {fd : FuncData} {ps : List Str} {sp : Sp} {dvs : List V} {ds : List Value} {E : XK} {x m : Str} {p pos apos : Pos} {e o : Expr} {es : List Expr} {ta : TE} {t : TA}

/-- the callee runs -/
theorem run_fn {pins : List (Addr × Obj)} {σ : St} {H : Hp} {s : Shared} {Q : VK} {us : List Value} {vs : List V} (F : FnOk X.prog X.w X.K X.mg X.base CX k f fd ps sp) (hr : Room k X.A) (hb : Binds X.K fd ps ds) (hd : Vals dvs ds) (hx : Passes CX X E)
    (I : Inv X pins σ H s) (r : Vals vs us) (h : sp (vs ++ dvs) H Q E) : wpAny (model X.prog X.w) X.A (call (.ref f) us) (EP X pins σ Q) X.xe s := by
  have r2 : Vals (vs ++ dvs) (us ++ ds) := r.append hd
  have hl : (us ++ ds).length = ps.length := by rw [← r2.length]; exact F.len _ _ _ _ h
  refine wpAny_call (codeAny_mono (F.run X.A X.stack s H ⟨us, []⟩ (us ++ ds) (vs ++ dvs) Q E hr I.env0 (hb s us I.kIn hl) r2 h) fun r s' hq => ?_)
  cases r with
  | error e => exact hx pins σ H s e s' I hq
  | ok fl =>
    cases fl with
    | ret u => exact I.after hq
    | next => exact False.elim hq
    | brk => exact False.elim hq
    | cont => exact False.elim hq

theorem pe_call (F : FnOk X.prog X.w X.K X.mg X.base CX k f fd ps sp) (hr : Room k X.A) (hg : Gl X x) (hm : X.mg x = some (.ref f)) (hk : PySem.W.keepIn X.K (.ref f) = true) (hb : Binds X.K fd ps ds) (hd : Vals dvs ds) (hx : Passes CX X E)
    (ha : PA X (e :: es) t) (hdb : (x == ("__debug__" : Str)) = false := by decide) (he : starEach (e :: es) X.env = (false, eval e X.env) :: starEach es X.env := by rfl) (hpl : (backTo pos (starEach es X.env)).any (·.1) = false := by rfl) :
    PE X (.Call (.Name x p) (e :: es) [] pos) (tCall sp dvs E t) := by
  intro pins s σ H Q I h
  refine wpAny_Call_Name_kw (ld_glob I hg hm ?_ hdb)
  refine PySem.W.callWith_K (h₀ := X.base) I.ok.mod.kin hk (thn (ha pos pins s σ H _ I h) fun us s1 ⟨vs, H1, I1, r, q⟩ => ⟨I1.kIn, ?_⟩) he hpl
  exact run_fn F hr hb hd hx I1 r q

/-- o.m(e, ..) -/
theorem pe_meth {pl : Sem Bool} (he : PE X o ta) (c : Cls X.K C) (hm : Meth X.K C m f) (F : FnOk X.prog X.w X.K X.mg X.base CX k f fd ps sp) (hr : Room k X.A) (hb : Binds X.K fd ps ds) (hd : Vals dvs ds) (hx : Passes CX X E) (ha : PA X (e :: es) t)
    (hst : starEach (e :: es) X.env = (false, eval e X.env) :: starEach es X.env := by rfl) (hpl : (backTo pos (starEach es X.env)).any (·.1) = false := by rfl)
    (ht : eval (.Call (.Attribute o m apos) (e :: es) [] pos) X.env = (do
      let ov ← eval o X.env
      standAt apos.atName
      let (f, first) ← holding [ov] (getMethod ov m pl)
      callWith pos f first (backTo pos (starEach (e :: es) X.env)) (backToKw pos (keywordEach [] X.env))) := by rfl) :
    PE X (.Call (.Attribute o m apos) (e :: es) [] pos) (tMeth C m sp dvs E ta t) := by
  intro pins s σ H Q I h
  refine PySem.W.methodCall_KW (pl := pl) (thn (he pins s σ H _ I h) fun u s1 ⟨x, H1, I1, rx, a, dx, fs, ex, ea, l, q⟩ => ?_) ht
  subst ex
  obtain rfl : u = Value.ref a := rx
  refine getmeth_ok I1 ea c hm l ?_
  refine PySem.W.callWith_K (first := [.ref a]) (h₀ := X.base) I.ok.mod.kin hm.kp (thn (ha pos pins s1 σ H1 _ I1 q) fun us s2 ⟨vs, H2, I2, r, q2⟩ => ⟨I2.kIn, ?_⟩) hst hpl
  exact run_fn (us := .ref a :: us) (vs := .ref a :: vs) F hr hb hd hx I2 (.cons rfl r) q2

/-- what a class must have to be made -/
structure Mk (K : PySem.W.Frag) (C f : Addr) : Prop where
  makes : PySem.W.makesIn K C = true
  init : PySem.W.findIn K (.ref C) "__init__" = some (some (.ref f))
  fn : PySem.W.isFn K (.ref f) = true
  kp : PySem.W.keepIn K (.ref C) = true

theorem run_make {pins : List (Addr × Obj)} {σ : St} {H : Hp} {s : Shared} {Q : VK} {us : List Value} {vs : List V} (M : Mk X.K C f) (F : FnOk X.prog X.w X.K X.mg X.base CX k f fd ps sp) (hr : Room (k + 1) X.A) (hb : Binds X.K fd ps ds) (hd : Vals dvs ds)
    (hx : Passes CX X E) (I : Inv X pins σ H s) (r : Vals vs us)
    (h : ∀ x dx, H x = none → H dx = none → dx ≠ x → sp (.ref x :: (vs ++ dvs)) (upd (upd H dx (.own x)) x (.ins C dx [])) (fun v H2 => v = .non ∧ Q (.ref x) H2) E) :
    wpAny (model X.prog X.w) X.A (call (.ref C) us) (EP X pins σ Q) X.xe s := by
  have hq := h (s.heap.objs.size + 1) s.heap.objs.size (I.hok.fresh (Nat.le_succ _)) (I.hok.fresh (Nat.le_refl _)) (Nat.ne_of_lt (Nat.lt_succ_self _))
  have I2 := Inv.made (C := C) I
  have r2 : Vals (V.ref (s.heap.objs.size + 1) :: (vs ++ dvs)) (Value.ref (s.heap.objs.size + 1) :: (us ++ ds)) := .cons rfl (r.append hd)
  have hl : (Value.ref (s.heap.objs.size + 1) :: us ++ ds).length = ps.length := by
    have e := r2.length
    rw [F.len _ _ _ _ hq] at e
    exact e.symm
  refine wpAny_call (make_map (f := f) I.kIn M.makes M.init (beq_iff_eq.mp M.fn) (codeAny_mono (F.run _ X.stack _ _ ⟨Value.ref (s.heap.objs.size + 1) :: us, []⟩ (Value.ref (s.heap.objs.size + 1) :: (us ++ ds)) _ _ E (hr.make C us [])
    (I2.env0.make C us []) (hb _ (Value.ref (s.heap.objs.size + 1) :: us) I2.kIn hl) r2 hq) fun r s' hq' => ?_))
  cases r with
  | error e => exact hx pins σ _ _ e s' I2 hq'
  | ok fl =>
    cases fl with
    | ret u =>
      obtain ⟨v, H', I3, rv, ev, q3⟩ := I2.after hq'
      subst ev
      exact ⟨rv, ⟨V.ref (s.heap.objs.size + 1), H', I3, rfl, q3⟩⟩
    | next => exact False.elim hq'
    | brk => exact False.elim hq'
    | cont => exact False.elim hq'
theorem pe_make0 (M : Mk X.K C f) (F : FnOk X.prog X.w X.K X.mg X.base CX k f fd ps sp) (hr : Room (k + 1) X.A) (hg : Gl X x) (hm : X.mg x = some (.ref C)) (hb : Binds X.K fd ps ds) (hd : Vals dvs ds) (hx : Passes CX X E)
    (hdb : (x == ("__debug__" : Str)) = false := by decide) : PE X (.Call (.Name x p) [] [] pos) (tMake C sp dvs E tNil) := by
  intro pins s σ H Q I h
  refine wpAny_Call_Name_kw (ld_glob I hg hm ?_ hdb)
  exact PySem.W.callWith_K0 I.kIn M.kp (run_make (us := []) M F hr hb hd hx I .nil h)
end

/-! ### keywords -/
section
variable {X : Cx} {CX : CXT} {k : Nat} {f C : Addr} {fd : FuncData} {ps ks : List Str} {sp : Sp} {E : XK} {x m : Str} {p pos apos kpos : Pos} {e o : Expr} {es : List Expr} {kws : List Keyword} {te ta : TE} {t tk : TA} {nm : Option Str}

variable {g : List Value → List Value → List Value} {gV : List V → List V → List V}
end

/-! ### a def's body keeps its promise -/
/-- names: the parameters first -/
structure FnScope (N P : List Str) (sc : Scope) : Prop where
  kind : sc.kind = .function
  co : sc.isCoroutine = false
  gen : sc.isGenerator = false
  nd : N.Nodup
  pre : N.take P.length = P
  par : ∀ x ∈ P, sc.names.lookup x = some .local ∨ sc.names.lookup x = some .cell
  nofree : ∀ y ∈ sc.names, y.2 ≠ .free

theorem bindL_out {kindOf : Str → Option NameKind} {x : Str} : ∀ {binds : List (Str × Value)} {m : Str → Option Value}, (∀ v, (x, v) ∉ binds) → bindL kindOf binds m x = m x
  | [], _, _ => rfl
  | (n, v) :: r, m, h => by
    unfold bindL
    rw [bindL_out fun w hw => h w (List.mem_cons_of_mem _ hw)]
    split
    · have : x ≠ n := by rintro rfl; exact h v List.mem_cons_self
      simp [this]
    · rfl
theorem bindC_out {kindOf : Str → Option NameKind} {x : Str} : ∀ {binds : List (Str × Value)} {m : Str → Option Value}, (∀ v, (x, v) ∉ binds) → bindC kindOf binds m x = m x
  | [], _, _ => rfl
  | (n, v) :: r, m, h => by
    unfold bindC
    rw [bindC_out fun w hw => h w (List.mem_cons_of_mem _ hw)]
    split
    · rfl
    · have : x ≠ n := by rintro rfl; exact h v List.mem_cons_self
      simp [this]
theorem bindL_get {kindOf : Str → Option NameKind} {x : Str} {v : Value} : ∀ {P : List Str} {vs : List Value} {i : Nat} {m : Str → Option Value}, P.Nodup → P[i]? = some x → vs[i]? = some v → kindOf x = some .local →
    bindL kindOf (P.zip vs) m x = some v
  | [], _, _, _, _, h, _, _ => by simp at h
  | _ :: _, [], _, _, _, _, h, _ => by simp at h
  | p :: P, w :: vs, 0, m, nd, h1, h2, hk => by
    simp at h1 h2; subst h1; subst h2
    show bindL kindOf ((p, w) :: P.zip vs) m p = _
    unfold bindL
    rw [bindL_out fun v hv => (List.nodup_cons.mp nd).1 (List.of_mem_zip hv).1, if_pos hk]
    simp
  | p :: P, w :: vs, i + 1, m, nd, h1, h2, hk => by
    show bindL kindOf ((p, w) :: P.zip vs) m x = _
    unfold bindL
    exact bindL_get (i := i) (List.nodup_cons.mp nd).2 (by simpa using h1) (by simpa using h2) hk
theorem bindC_get {kindOf : Str → Option NameKind} {x : Str} {v : Value} : ∀ {P : List Str} {vs : List Value} {i : Nat} {m : Str → Option Value}, P.Nodup → P[i]? = some x → vs[i]? = some v → kindOf x ≠ some .local →
    bindC kindOf (P.zip vs) m x = some v
  | [], _, _, _, _, h, _, _ => by simp at h
  | _ :: _, [], _, _, _, _, h, _ => by simp at h
  | p :: P, w :: vs, 0, m, nd, h1, h2, hk => by
    simp at h1 h2; subst h1; subst h2
    show bindC kindOf ((p, w) :: P.zip vs) m p = _
    unfold bindC
    rw [bindC_out fun v hv => (List.nodup_cons.mp nd).1 (List.of_mem_zip hv).1, if_neg hk]
    simp
  | p :: P, w :: vs, i + 1, m, nd, h1, h2, hk => by
    show bindC kindOf ((p, w) :: P.zip vs) m x = _
    unfold bindC
    exact bindC_get (i := i) (List.nodup_cons.mp nd).2 (by simpa using h1) (by simpa using h2) hk

/-- the names' values at the entry -/
def start (N : List Str) (vs : List V) : St := vs.map some ++ List.replicate (N.length - vs.length) none

/-- the context of a def's body, at its entry; an exception leaves the frame, then lies as CX says -/
def cxOf (CX : CXT) (P : Program) (w : World) (K : PySem.W.Frag) (mg : Str → Option Value) (base : Heap) (N : List Str) (qual : Str) (scope : Scope) (f : Addr) (cd : Value) (A : Around) (outer : List Env) (s : Shared) (H : Hp) (E : XK) : Cx where
  prog := P
  w := w
  K := K
  mg := mg
  base := base
  A := A.deeper (envOfC qual scope s.heap.objs.size f cd)
  N := N
  s₀ := s
  H₀ := H
  env := envOfC qual scope s.heap.objs.size f cd
  outer := outer
  stack := envOfC qual scope s.heap.objs.size f cd :: outer
  ex := []
  calm := true
  fn := fun _ => true
  pn := []
  xe := fun e s' => wpAny (model P w) (A.deeper (envOfC qual scope s.heap.objs.size f cd)) (leaving (envOfC qual scope s.heap.objs.size f cd) e) (fun _ s'' => CX outer H s E e s'') (fun e' s'' => CX outer H s E e' s'') s'

theorem cell_has {sc : Scope} {n : Nat} {x : Str} (h : sc.names.lookup x = some .cell) : ∃ c, (cellsFrom n sc.names []).lookup x = some c := by
  have q := PySem.W.cellsFrom_some sc.names n [] (.inl h)
  exact Option.isSome_iff_exists.mp q

theorem inv_start {CX : CXT} {P : Program} {w : World} {K : PySem.W.Frag} {mg : Str → Option Value} {base : Heap} {N ps : List Str} {qual : Str} {scope : Scope} {f : Addr} {cd : Value} {A : Around} {outer : List Env} {s s1 : Shared} {H : Hp} {E : XK} {us : List Value} {vs : List V}
    (S : FnScope N ps scope) (hd : A.handled = none) (e0 : Env0 P w K mg base A outer s H) (hl : vs.length = ps.length) (r : Vals vs us)
    (x : InCallC s s.heap.objs.size (bindL (envOfC qual scope s.heap.objs.size f cd).kindOf (ps.zip us) fun _ => none) (cellsFrom (s.heap.objs.size + 1) scope.names []) (bindC (envOfC qual scope s.heap.objs.size f cd).kindOf (ps.zip us) fun _ => none) s1) :
    Inv (cxOf CX P w K mg base N qual scope f cd A outer s H E) [] (start N vs) H s1 := by
  have hpl : ps.length ≤ N.length := by have := congrArg List.length S.pre; rw [List.length_take] at this; omega
  obtain ⟨h1, tk, rfl, hk⟩ := x.done
  have noA : ∀ b : Addr, b ∉ (cxOf CX P w K mg base N qual scope f cd A outer s H E).ex := fun b z => absurd (show b ∈ ([] : List Addr) from z) (by simp)
  refine ⟨⟨e0.mod, S.kind, rfl, rfl, Nat.le_refl _, fun y z c h1 h2 => ?_, fun y hy => ?_, fun y c _ h => ?_, fun _ => hd, Around.frames_deeper e0.frames, .inr ⟨rfl, rfl⟩, fun b z => absurd z (noA b), e0.bs, e0.bsz, fun b _ _ => noA b, fun b z => absurd z (noA b), e0.funs, e0.frf⟩,
    rfl, e0.bare, Un.kept hk, ⟨_, x.toInCall.ns, fun i y v h1 h2 h3 => ?_⟩, fun y c h => ⟨_, x.cell y c h⟩, e0.hok.fresh (Nat.le_refl _), fun y c h => ?_, fun p hp => absurd (show p ∈ ([] : List (Addr × Obj)) from hp) (by simp), e0.hok.kept hk, ?_⟩
  · exact name_of_addr x.apart (PySem.mem_of_lookup h1) (PySem.mem_of_lookup h2)
  · have hy : scope.names.lookup y = some .cell ∨ scope.names.lookup y = some .free := hy
    rcases hy with hy | hy
    · exact cell_has hy
    · exact absurd rfl (S.nofree _ (PySem.mem_of_lookup hy))
  · exact Nat.le_of_lt (x.above y c (PySem.mem_of_lookup h))
  · have hi : i < vs.length := by
      unfold start at h2
      by_cases hi : i < vs.length
      · exact hi
      · rw [List.getElem?_append_right (by simpa using hi)] at h2
        rw [List.getElem?_replicate] at h2
        split at h2 <;> cases h2
    have ha : vs[i]? = some v := by
      unfold start at h2
      rw [List.getElem?_append_left (by simpa using hi), List.getElem?_map] at h2
      cases e : vs[i]? with
      | none => rw [e] at h2; cases h2
      | some a => rw [e] at h2; cases h2; rfl
    obtain ⟨u, hu, rv⟩ := r.get ha
    have hp : ps[i]? = some y := by
      rw [← S.pre, List.getElem?_take_of_lt (by omega)]; exact h1
    have ndP : ps.Nodup := by rw [← S.pre]; exact S.nd.sublist (List.take_sublist _ _)
    refine ⟨u, rv, ?_⟩
    rcases S.par y (List.mem_of_getElem? hp) with k | k
    · exact .inl ⟨k, bindL_get ndP hp hu k⟩
    · obtain ⟨c, e⟩ := cell_has (n := s.heap.objs.size + 1) k
      refine .inr ⟨.inl k, c, e, ?_⟩
      have q := x.cell y c e
      rw [bindC_get ndP hp hu (by show scope.names.lookup y ≠ _; rw [k]; decide)] at q
      exact q
  · exact e0.hok.fresh (Nat.le_of_lt (x.above y c (PySem.mem_of_lookup h)))
  · unfold start
    show _ = N.length
    rw [List.length_append, List.length_map, List.length_replicate]
    omega

/-- THE RULE: a def (or a method) of the text, by its body. The body's reading t is chosen for each entry; it is run at the parameters' values -/
theorem fn_of {CX : CXT} {P : Program} {w : World} {K : PySem.W.Frag} {mg : Str → Option Value} {base : Heap} {k : Nat} {f : Addr} {name qual : Str} {params : Arguments} {body : List Stmt} {scope : Scope} {dV kV doc pm cdv ct oc : Value} {an od : Option Addr}
    {osl : Array (Option Value)} {N ps : List Str} {sp : Sp} (lk : K.lookup f = some ⟨oc, od, .func (PySem.W.fnOf name qual params body scope dV kV doc pm an cdv ct), osl⟩) (hcd : PySem.W.codeIn K cdv qual = true) (S : FnScope N ps scope)
    (len : ∀ vs H Q E, sp vs H Q E → vs.length = ps.length)
    (hbody : ∀ (A : Around) (outer : List Env) (s : Shared) (H : Hp) (vs : List V) (Q : VK) (E : XK), Room k (A.deeper (envOfC qual scope s.heap.objs.size f cdv)) → sp vs H Q E →
      ∃ t, PSs (cxOf CX P w K mg base N qual scope f cdv A outer s H E) body t ∧ t { nx := fun _ H' => Q .non H', rt := Q } (start N vs) H) :
    FnOk P w K mg base CX (k + 1) f (PySem.W.fnOf name qual params body scope dV kV doc pm an cdv ct) ps sp := by
  refine ⟨len, fun A outer s H args us vs Q E hr e0 hb r hsp => ?_⟩
  have hl := len _ _ _ _ hsp
  have KX : K.In s.heap := e0.mod.kin.keeps fun b o e => (e0.bs b o e).1
  have lim : s.heap.NoLimit := e0.mod.nolimit.keeps fun b o e => (e0.bs b o e).1
  have hkind : ∀ y ∈ ps.zip us, scope.names.lookup y.1 = some .local ∨ (scope.names.lookup y.1 = some .cell ∧ ((cellsFrom (s.heap.objs.size + 1) scope.names []).lookup y.1).isSome = true) := fun ⟨n, v⟩ hy => by
    rcases S.par n (List.of_mem_zip hy).1 with q | q
    · exact .inl q
    · exact .inr ⟨q, PySem.W.cellsFrom_some _ _ _ (.inl q)⟩
  refine codeAny_call_function hr.depth (KX _ _ lk) rfl S.co S.gen rfl (PySem.W.codeRec_of KX hcd) (hb _ _ _ _ ?_)
  refine wpAny_newFunctionEnv_cells S.kind hkind fun env he s1 x => ?_
  subst he
  refine ⟨lim.keeps x.toInCall.keep, codeAny_func ?_⟩
  obtain ⟨t, ht, hq⟩ := hbody A outer s H vs Q E (hr.deeper _) hsp
  have I : Inv (cxOf CX P w K mg base N qual scope f cdv A outer s H E) [] (start N vs) H s1 := inv_start S hr.hd e0 hl r x
  refine wpAny_mono (ht [] s1 (start N vs) H _ I hq) (fun fl s' hs => ?_) fun e s' hs => hs
  have fin : ∀ {σ' : St} {H' : Hp} {v : V} {u : Value}, Inv (cxOf CX P w K mg base N qual scope f cdv A outer s H E) [] σ' H' s' → RelV v u → Q v H' → CE outer P w H s Q u s' :=
    fun {σ' H' v u} J rv q => ⟨v, H', J.os, J.bare, J.base, J.hok, rv, q⟩
  cases fl with
  | ret u =>
    obtain ⟨v, σ', H', J, rv, q⟩ := hs
    exact fin J rv q
  | next =>
    obtain ⟨σ', H', J, q⟩ := hs
    exact fin (v := V.non) (u := Value.none) J rfl q
  | brk =>
    obtain ⟨_, _, _, q⟩ := hs
    exact False.elim q
  | cont =>
    obtain ⟨_, _, _, q⟩ := hs
    exact False.elim q
end L2

namespace L2
open PySem PySem.Spec PyProof.Rows
section
variable {X : Cx} {x : Str} {p pos : Pos} {e : Expr} {es : List Expr} {t : TA} {id T : String} {r : List V → Hp → VK → Prop}

def tCB (r : List V → Hp → VK → Prop) (t : TA) : TE := fun σ H Q => t σ H fun vs H1 => r vs H1 Q
/-- f(e, ..), f a built-in function -/
theorem pe_callB (hc : CallR X (.builtin id) r) (hg : Gl X x) (hm : X.mg x = none) (hv : bootBuiltins x = some (.builtin id)) (ha : PA X (e :: es) t) (hn : x ≠ "__name__" := by decide) (hdb : (x == ("__debug__" : Str)) = false := by decide)
    (he : starEach (e :: es) X.env = (false, eval e X.env) :: starEach es X.env := by rfl) (hpl : (backTo pos (starEach es X.env)).any (·.1) = false := by rfl) : PE X (.Call (.Name x p) (e :: es) [] pos) (tCB r t) := by
  intro pins s σ H Q I h
  refine wpAny_Call_Name_kw (ld_blt I hg hm hv ?_ hn hdb)
  exact PyProof.Rows.callWith_builtin1 (thn (ha pos pins s σ H _ I h) fun us s1 ⟨vs, H1, I1, r1, q1⟩ => hc pins s1 σ H1 vs us Q I1 r1 q1) he hpl
/-- T(e, ..), T a built-in type -/
theorem pe_callTy (hc : CallR X (.type T) r) (hg : Gl X x) (hm : X.mg x = none) (hv : bootBuiltins x = some (.type T)) (ha : PA X (e :: es) t) (hn : x ≠ "__name__" := by decide) (hdb : (x == ("__debug__" : Str)) = false := by decide)
    (he : starEach (e :: es) X.env = (false, eval e X.env) :: starEach es X.env := by rfl) (hpl : (backTo pos (starEach es X.env)).any (·.1) = false := by rfl) : PE X (.Call (.Name x p) (e :: es) [] pos) (tCB r t) := by
  intro pins s σ H Q I h
  refine wpAny_Call_Name_kw (ld_blt I hg hm hv ?_ hn hdb)
  exact PyProof.Rows.callWith_type1 (thn (ha pos pins s σ H _ I h) fun us s1 ⟨vs, H1, I1, r1, q1⟩ => hc pins s1 σ H1 vs us Q I1 r1 q1) he hpl
end
end L2

namespace HT
open PySem PyProof.Rows



section
open PySem.SeqAt
open PySem.AutoSeq1 (wpAny_loadPart')
open PySem.MeetsSeq PySem.MeetsSeq2 PySem.MeetsSeq3

end

section
variable {prog : Program} {w : World} {A : Around} {E : Value → Shared → Prop} {s : Shared}



/-! ### t[a:b], not the whole -/

end
end HT

namespace L2
open PySem PySem.Spec PyProof.Rows

/-! ### the parts of a slice -/
abbrev TO := St → Hp → (Option Int → Hp → Prop) → Prop
/-- a slice's part (left out, or an int) -/
def PO (X : Cx) (e : Option Expr) (t : TO) : Prop :=
  ∀ (pins : List (Addr × Obj)) (s : Shared) (σ : St) (H : Hp) (Q : Option Int → Hp → Prop), Inv X pins σ H s → t σ H Q →
    wpAny (model X.prog X.w) X.A (evalPart e X.env) (fun u s' => ∃ o H', Inv X pins σ H' s' ∧ IsPart u o ∧ Q o H') X.xe s
def tNoPart : TO := fun _ H Q => Q none H
def tPart (t : TE) : TO := fun σ H Q => t σ H fun x H1 => ∃ i, x = .int i ∧ Q (some i) H1

theorem intsAre_of {ns : List Int} : ∀ {us : List Value}, Vals (ns.map V.int) us → IntsAre us ns := by
  induction ns with
  | nil => intro us r; rw [List.map_nil] at r; cases r; exact .nil
  | cons n ns ih =>
    intro us r
    rw [List.map_cons] at r
    cases r with
    | cons r1 r2 =>
      obtain ⟨t, e⟩ := r1
      subst e
      exact .cons n t (ih r2)

section
variable {X : Cx} {e : Expr} {te : TE} {lo hi : Option Expr} {tl th : TO} {pos p2 : Pos}

theorem po_none : PO X none tNoPart := by
  intro pins s σ H Q I h
  rw [evalPart_none]
  exact wpAny_pure ⟨none, H, I, .none, h⟩
theorem po_some (h : PE X e te) : PO X (some e) (tPart te) := by
  intro pins s σ H Q I hw
  rw [evalPart_some]
  refine thn (h pins s σ H _ I hw) fun u s1 ⟨x, H1, I1, r1, q1⟩ => ?_
  obtain ⟨i, rfl, q⟩ := q1
  obtain ⟨t, rfl⟩ := r1
  exact ⟨some i, H1, I1, .int i t, q⟩

/-- what a slice of a value is, by values: the slice object stands at sl -/
def SlR (X : Cx) (r : V → Option Int → Option Int → Hp → VK → Prop) : Prop :=
  ∀ (pins : List (Addr × Obj)) (s : Shared) (σ : St) (H : Hp) (x : V) (v vl vu : Value) (lo hi : Option Int) (sl : Addr) (Q : VK), Inv X pins σ H s → RelV x v → s.heap.IsSliceOf sl vl vu .none → IsPart vl lo → IsPart vu hi → r x lo hi H Q →
    ∃ T id, typeLookup (.type T) "__getitem__" = pure (some (.builtin id)) ∧ s.TypeIs v T ∧ wpAny (model X.prog X.w) X.A (getItem v (.ref sl)) (EP X pins σ Q) X.xe s
def tSl (r : V → Option Int → Option Int → Hp → VK → Prop) (te : TE) (tl th : TO) : TE := fun σ H Q => te σ H fun x H1 => tl σ H1 fun l H2 => th σ H2 fun u H3 => r x l u H3 Q
/-- a[lo:hi], any a -/
theorem pe_slice {r : V → Option Int → Option Int → Hp → VK → Prop} (hr : SlR X r) (he : PE X e te) (hl : PO X lo tl) (hu : PO X hi th) : PE X (.Subscript e (.Slice lo hi none p2) pos) (tSl r te tl th) := by
  intro pins s σ H Q I h
  refine Subscript_ (thn (he pins s σ H _ I h) fun v s1 ⟨x, H1, I1, r1, q1⟩ => ?_)
  refine wpAny_Slice (thn (hl pins s1 σ H1 _ I1 q1) fun vl s2 ⟨l, H2, I2, pl, q2⟩ => thn (hu pins s2 σ H2 _ I2 q2) fun vu s3 ⟨u, H3, I3, pu, q3⟩ => ?_)
  rw [evalPart_none]
  refine wpAny_pure ?_
  have I4 : Inv X pins σ H3 { s3 with heap := s3.heap.push { cls := .type "slice", data := .fields #[vl, vu, .none] } } := I3.kept (t' := s3.toks) fun b ob q => Heap.get?_push_of_some _ q
  obtain ⟨T, id, hT, ht, hg⟩ := hr pins { s3 with heap := s3.heap.push { cls := .type "slice", data := .fields #[vl, vu, .none] } } σ H3 x v vl vu l u s3.heap.objs.size Q I4 r1 (Heap.IsSliceOf.new ..) pl pu q3
  show wpAny (model X.prog X.w) X.A (subscriptTail e (.Slice lo hi none p2) v (.ref s3.heap.objs.size)) (EP X pins σ Q) X.xe { s3 with heap := s3.heap.push { cls := .type "slice", data := .fields #[vl, vu, .none] } }
  exact tail_any (ops := [.ref s3.heap.objs.size, v]) ht hT hg (by with_unfolding_all rfl)


/-! ### t < u, t + u -/
end
end L2

namespace L2
open PySem PySem.Spec PyProof.Rows

/-! ### places -/
/-- the place that an index of any sign means -/
def ixN (n : Nat) (i : Int) : Option Nat := if 0 ≤ i then (if i < n then some i.toNat else none) else if -(n : Int) ≤ i then some (i + n).toNat else none
def atI {α : Type} (xs : List α) (i : Int) : Option α := (ixN xs.length i).bind fun j => xs[j]?
theorem ixN_seq {n : Nat} {i : Int} {j : Nat} (h : ixN n i = some j) : seqIndex? i n = some j ∧ j < n ∧ -(n : Int) ≤ i ∧ i < n := by
  unfold ixN at h
  by_cases h0 : 0 ≤ i
  · rw [if_pos h0] at h
    by_cases h1 : i < n
    · rw [if_pos h1] at h
      have e : i.toNat = j := Option.some.inj h
      exact ⟨by rw [seqIndex_of h0 h1, e], by omega, by omega, h1⟩
    · rw [if_neg h1] at h; cases h
  · rw [if_neg h0] at h
    by_cases h1 : -(n : Int) ≤ i
    · rw [if_pos h1] at h
      have e : (i + n).toNat = j := Option.some.inj h
      exact ⟨by rw [seqIndex_neg (by omega) h1, e], by omega, h1, by omega⟩
    · rw [if_neg h1] at h; cases h
theorem atI_get {α : Type} {xs : List α} {i : Int} {v : α} (h : atI xs i = some v) : ∃ j, seqIndex? i xs.length = some j ∧ xs[j]? = some v ∧ j < xs.length ∧ -(xs.length : Int) ≤ i ∧ i < xs.length := by
  unfold atI at h
  cases e : ixN xs.length i with
  | none => rw [e] at h; cases h
  | some j =>
    rw [e] at h
    obtain ⟨h1, h2, h3, h4⟩ := ixN_seq e
    exact ⟨j, h1, h, h2, h3, h4⟩

/-! ### what may be subscripted -/
/-- what stands as an index of a plain subscript -/
def PlainIx (b : Expr) : Prop := ∀ o i, subscripted b false o i = operate [o, i] (getItem o i)
/-- a subscript by values -/
def IxR (X : Cx) (r : R2) : Prop :=
  ∀ (value slice : Expr) (pins : List (Addr × Obj)) (s : Shared) (σ : St) (H : Hp) (x y : V) (v u : Value) (Q : VK), Inv X pins σ H s → RelV x v → RelV y u → r x y H Q →
    subscripted slice false v u = operate [v, u] (getItem v u) → wpAny (model X.prog X.w) X.A (subscriptTail value slice v u) (EP X pins σ Q) X.xe s
/-- a call of a builtin's method by values: the receiver, the arguments -/
def MtR (X : Cx) (id : String) (r : V → List V → Hp → VK → Prop) : Prop :=
  ∀ (pins : List (Addr × Obj)) (s : Shared) (σ : St) (H : Hp) (x : V) (xs : List V) (v : Value) (us : List Value) (Q : VK), Inv X pins σ H s → RelV x v → Vals xs us → r x xs H Q →
    wpAny (model X.prog X.w) X.A (call (.builtin id) (v :: us)) (EP X pins σ Q) X.xe s
section
variable {X : Cx} {a b : Expr} {ta tb : TE} {pos : Pos}
/-- a[b] -/
theorem pe_ix {r : R2} (hr : IxR X r) (ha : PE X a ta) (hb : PE X b tb) (hs : PlainIx b) : PE X (.Subscript a b pos) (tOp r ta tb) := by
  intro pins s σ H Q I h
  exact Subscript_ (binT ha hb I h fun v u s2 x y H2 I2 rx ry q => hr a b pins s2 σ H2 x y v u Q I2 rx ry q (hs _ _))

def rIxL (K : PySem.W.Frag) : R2 := fun x y H Q => ∃ p xs i v, x = .ref p ∧ y = .int i ∧ SqL K H p xs ∧ atI xs i = some v ∧ Q v H
def rIxT (K : PySem.W.Frag) : R2 := fun x y H Q => ∃ p xs i v, x = .ref p ∧ y = .int i ∧ SqT K H p xs ∧ atI xs i = some v ∧ Q v H
def rIxS : R2 := fun x y H Q => ∃ z i c, x = .str z ∧ y = .int i ∧ z.length ≤ sizeLine ∧ atI z.cps.toList i = some c ∧ Q (.str ⟨#[c]⟩) H
theorem ix_list : IxR X (rIxL X.K) := by
  intro value slice pins s σ H x y v u Q I rx ry h hs
  obtain ⟨p, xs, i, z, rfl, rfl, hq, he, q⟩ := h
  cases rx
  obtain ⟨t, rfl⟩ := ry
  obtain ⟨its, r, pl, hz⟩ := I.list hq
  obtain ⟨j, h1, h2, h3, h4, h5⟩ := atI_get he
  obtain ⟨w, ew, rw'⟩ := r.get h2
  have hl := r.length
  have hn := line63
  have fin : EP X pins σ Q w s := ⟨z, H, I, rw', q⟩
  by_cases h0 : 0 ≤ i
  · have hj : i.toNat = j := by
      rw [seqIndex_of h0 h5] at h1
      exact Option.some.inj h1
    exact item_listR pl.isList h0 (by omega) (by rw [hj]; simpa using ew) fin hs
  · have hj : (i + (its.toArray.size : Int)).toNat = j := by
      rw [seqIndex_neg (by omega) h4] at h1
      rw [List.size_toArray, ← hl]
      exact Option.some.inj h1
    exact subscriptTail_builtinR (x := w) pl.isList.typeIs slot_list_getitem.lookup
      (wpAny_getItem_list_neg (Q := fun r s' => r = w ∧ EP X pins σ Q r s') pl.isList (by omega) (by rw [List.size_toArray] <;> omega) (by omega) (by rw [hj]; simpa using ew) ⟨rfl, fin⟩) hs
theorem ix_tup : IxR X (rIxT X.K) := by
  intro value slice pins s σ H x y v u Q I rx ry h hs
  obtain ⟨p, xs, i, z, rfl, rfl, hq, he, q⟩ := h
  cases rx
  obtain ⟨t, rfl⟩ := ry
  obtain ⟨its, r, pl, hz⟩ := I.tuple hq
  obtain ⟨j, h1, h2, h3, h4, h5⟩ := atI_get he
  obtain ⟨w, ew, rw'⟩ := r.get h2
  have hl := r.length
  have hn := line63
  have fin : EP X pins σ Q w s := ⟨z, H, I, rw', q⟩
  exact subscriptTail_builtinR (x := w) pl.typeIs slot_tuple_getitem.lookup
    (getItem_tuple (j := j) (Q := fun r s' => r = w ∧ EP X pins σ Q r s') pl (by omega) (by omega) (by rw [List.size_toArray, ← hl]; exact h1) (by simpa using ew) ⟨rfl, fin⟩) hs
theorem ix_str : IxR X rIxS := by
  intro value slice pins s σ H x y v u Q I rx ry h hs
  obtain ⟨z, i, c, rfl, rfl, hz, he, q⟩ := h
  obtain ⟨t, rfl⟩ := rx
  obtain ⟨t', rfl⟩ := ry
  obtain ⟨j, h1, h2, h3, h4, h5⟩ := atI_get he
  have hl : z.cps.toList.length = z.length := by simp [Str.length]
  rw [hl] at h1 h4 h5
  have hn := line63
  exact tail_any (typeIs_str s z t) slot_str_getitem.lookup (getItem_str (c := c) (by
    have e1 : decide (i < -(2 ^ 63 : Int)) = false := decide_eq_false (by omega)
    have e2 : decide (i ≥ 2 ^ 63) = false := decide_eq_false (by omega)
    rw [e1, e2, Bool.or_false]) (by rw [h1]; simpa using h2) ⟨.str ⟨#[c]⟩, H, I.tok _, ⟨_, rfl⟩, q⟩) hs

/-! ### xs[i] = v, any sign -/

/-! ### slices -/

/-! ### in, not in: flat items -/
def flatV : V → Bool
  | .non => true
  | .bl _ => true
  | .int _ => true
  | .str _ => true
  | _ => false
/-- == of flat values -/
def eqV : V → V → Bool
  | .non, .non => true
  | .bl a, .bl b => a == b
  | .bl a, .int b => (if a then 1 else 0) == b
  | .int a, .bl b => a == (if b then 1 else 0)
  | .int a, .int b => a == b
  | .str a, .str b => a == b
  | _, _ => false
theorem eqAt_V {A : Around} {s : Shared} {y x : V} {u v : Value} (ry : RelV y u) (rx : RelV x v) (fy : flatV y = true) (fx : flatV x = true) : SeqAt.EqAt A s u v (eqV y x) := by
  cases y with
  | non =>
    cases ry
    cases x with
    | non => cases rx; exact SeqAt.EqAt.same _
    | bl b => cases rx; exact SeqAt.EqAt.none_bool b
    | int b => obtain ⟨t, rfl⟩ := rx; exact SeqAt.EqAt.none_int b t
    | str b => obtain ⟨t, rfl⟩ := rx; exact SeqAt.EqAt.none_str b t
    | _ => exact absurd (show false = true from fx) Bool.false_ne_true
  | bl a =>
    cases ry
    cases x with
    | non => cases rx; exact SeqAt.EqAt.bool_none a
    | bl b => cases rx; exact SeqAt.EqAt.bool_bool a b
    | int b => obtain ⟨t, rfl⟩ := rx; exact SeqAt.EqAt.bool_int a b t
    | str b => obtain ⟨t, rfl⟩ := rx; exact SeqAt.EqAt.bool_str a b t
    | _ => exact absurd (show false = true from fx) Bool.false_ne_true
  | int a =>
    obtain ⟨t', rfl⟩ := ry
    cases x with
    | non => cases rx; exact SeqAt.EqAt.int_none a t'
    | bl b => cases rx; exact SeqAt.EqAt.int_bool a t' b
    | int b => obtain ⟨t, rfl⟩ := rx; exact SeqAt.EqAt.int_int a t' b t
    | str b => obtain ⟨t, rfl⟩ := rx; exact SeqAt.EqAt.int_str a t' b t
    | _ => exact absurd (show false = true from fx) Bool.false_ne_true
  | str a =>
    obtain ⟨t', rfl⟩ := ry
    cases x with
    | non => cases rx; exact SeqAt.EqAt.str_none a t'
    | bl b => cases rx; exact SeqAt.EqAt.str_bool a t' b
    | int b => obtain ⟨t, rfl⟩ := rx; exact SeqAt.EqAt.str_int a t' b t
    | str b => obtain ⟨t, rfl⟩ := rx; exact SeqAt.EqAt.str_str a t' b t
    | _ => exact absurd (show false = true from fx) Bool.false_ne_true
  | _ => exact absurd (show false = true from fy) Bool.false_ne_true

/-! ### len, list(x), tuple(x) of any list or tuple that is read -/
theorem call_len_seq : CallR X (.builtin "len") (fun xs H Q => ∃ p ys, xs = [.ref p] ∧ (SqL X.K H p ys ∨ SqT X.K H p ys) ∧ Q (.int ys.length) H) := by
  intro pins s σ H xs us Q I r h
  obtain ⟨p, ys, rfl, hq, q⟩ := h
  obtain ⟨u, rfl, rx⟩ := vals1 r
  cases rx
  have hn := line63
  rcases hq with hq | hq
  · obtain ⟨its, r', pl, hz⟩ := I.list hq
    have hlen := r'.length
    exact Calls.call_len_list pl.isList (by simp only [List.size_toArray] <;> omega) ⟨.int ys.length, H, I.tok _, ⟨s.toks + 1, by rw [List.size_toArray, hlen]⟩, q⟩
  · obtain ⟨its, r', pl, hz⟩ := I.tuple hq
    have hlen := r'.length
    exact len_tuple pl (by simp only [List.size_toArray] <;> omega) ⟨.int ys.length, H, I.tok _, ⟨s.toks + 1, by rw [List.size_toArray, hlen]⟩, q⟩
theorem call_len_str : CallR X (.builtin "len") (fun xs H Q => ∃ z, xs = [.str z] ∧ z.length ≤ sizeLine ∧ Q (.int z.length) H) := by
  intro pins s σ H xs us Q I r h
  obtain ⟨z, rfl, hz, q⟩ := h
  obtain ⟨u, rfl, t, rfl⟩ := vals1 r
  have hn := line63
  exact len_str (by omega) ⟨.int z.length, H, I.tok _, ⟨_, rfl⟩, q⟩
theorem call_list_of : CallR X (.type "list") (fun xs H Q => ∃ p ys, xs = [.ref p] ∧ (SqL X.K H p ys ∨ SqT X.K H p ys) ∧ ∀ l, H l = none → Q (.ref l) (upd H l (.lst ys))) := by
  intro pins s σ H xs us Q I r h
  obtain ⟨p, ys, rfl, hq, q⟩ := h
  obtain ⟨u, rfl, rx⟩ := vals1 r
  cases rx
  have fin : ∀ (its : List Value), Vals ys its → ys.length ≤ sizeLine → ∀ (h' : Heap) (c' : Nat), (∀ b o', s.heap.get? b = some o' → h'.get? b = some o') →
      h'.get? s.heap.objs.size = some { cls := .type "list", dict := none, data := .seq its.toArray c', slots := #[] } → EP X pins σ Q (.ref s.heap.objs.size) { s with heap := h' } := fun its r' hz h' c' kp e =>
    ⟨.ref s.heap.objs.size, _, I.laid (t' := s.toks) kp (Nat.le_refl _) (show ObjOk X.prog X.w _ h' _ (.lst ys) from ⟨hz, its, c', r', e⟩), rfl, q _ (I.hok.fresh (Nat.le_refl _))⟩
  rcases hq with hq | hq
  · obtain ⟨its, r', pl, hz⟩ := I.list hq
    have hlen := r'.length
    obtain ⟨o, ho, hc, n, hd⟩ := pl.isList
    exact call_list_seq p (.inl rfl) ho hc hd (fun h' c' kp e => fin its r' hz h' c' kp e) (by simp only [List.size_toArray] <;> omega)
  · obtain ⟨its, r', pl, hz⟩ := I.tuple hq
    have hlen := r'.length
    obtain ⟨o, ho, hc, n, hd⟩ := pl
    exact call_list_seq p (.inr rfl) ho hc hd (fun h' c' kp e => fin its r' hz h' c' kp e) (by simp only [List.size_toArray] <;> omega)

/-! ### the call of a builtin's method: o.m(..) -/
/-- the value is of that builtin type -/
def tyV (K : PySem.W.Frag) (T : String) (x : V) (H : Hp) : Prop := match x with
  | .str _ => T = "str"
  | .int _ => T = "int"
  | .ref p => (T = "list" ∧ ∃ xs, SqL K H p xs) ∨ (T = "tuple" ∧ ∃ o, K.lookup p = some o ∧ o.cls = .type "tuple" ∧ o.dict = none) ∨
      (T = "dict" ∧ ((∃ kvs, H p = some (.dK kvs)) ∨ ∃ kvs, H p = some (.dT kvs))) ∨ (T = "set" ∧ ∃ S n, H p = some (.set S n))
  | _ => False
theorem tyV_is {pins : List (Addr × Obj)} {σ : St} {H : Hp} {s : Shared} {T : String} {x : V} {v : Value} (I : Inv X pins σ H s) (r : RelV x v) (ty : tyV X.K T x H) :
    s.TypeIs v T ∧ ∀ a, v = .ref a → ∃ ob, s.heap.get? a = some ob ∧ ob.dict = none := by
  cases x with
  | str z =>
    obtain ⟨t, rfl⟩ := r
    cases (show T = "str" from ty)
    exact ⟨typeIs_str s z t, fun _ e => nomatch e⟩
  | int i =>
    obtain ⟨t, rfl⟩ := r
    cases (show T = "int" from ty)
    exact ⟨typeIs_int s i t, fun _ e => nomatch e⟩
  | ref p =>
    cases r
    rcases ty with ⟨rfl, xs, hq⟩ | ⟨rfl, o, hk, hc, hd⟩ | ⟨rfl, hk⟩ | ⟨rfl, S, n, hk⟩
    · obtain ⟨its, _, pl, _⟩ := I.list hq
      refine ⟨pl.isList.typeIs, fun a e => ?_⟩
      cases e
      obtain ⟨o, n, e, c, hd, _⟩ := pl
      exact ⟨o, e, hd⟩
    · refine ⟨⟨o, I.kIn p o hk, hc⟩, fun a e => ?_⟩
      cases e
      exact ⟨o, I.kIn _ o hk, hd⟩
    · have z : ∃ o, s.heap.get? p = some o ∧ o.ExactDict := by
        rcases hk with ⟨kvs, hk⟩ | ⟨kvs, hk⟩
        · obtain ⟨_, _, _, _, o, _, _, e, ex, _⟩ := I.hok p _ hk
          exact ⟨o, e, ex⟩
        · obtain ⟨_, _, _, _, o, _, _, e, ex, _⟩ := I.hok p _ hk
          exact ⟨o, e, ex⟩
      obtain ⟨o, e, ex⟩ := z
      refine ⟨⟨o, e, ex.1⟩, fun a e2 => ?_⟩
      cases e2
      exact ⟨o, e, ex.2.1⟩
    · obtain ⟨o, _, _, _, e, ex, _⟩ := I.hok p _ hk
      refine ⟨⟨o, e, ex.1⟩, fun a e2 => ?_⟩
      cases e2
      exact ⟨o, e, ex.2.1⟩
  | _ => exact False.elim ty
def tBM0 (K : PySem.W.Frag) (T : String) (r : V → List V → Hp → VK → Prop) (to : TE) : TE := fun σ H Q => to σ H fun x H1 => tyV K T x H1 ∧ r x [] H1 Q
def tBM (K : PySem.W.Frag) (T : String) (r : V → List V → Hp → VK → Prop) (to : TE) (t : TA) : TE := fun σ H Q => to σ H fun x H1 => tyV K T x H1 ∧ t σ H1 fun xs H2 => r x xs H2 Q
variable {o e : Expr} {es : List Expr} {to : TE} {t : TA} {name : Str} {apos cpos : Pos} {T id : String} {r : V → List V → Hp → VK → Prop}
theorem pe_bm0 (pa : PlainAttrs T) (slot : Slot T name id) (hty : typeOf (.builtin id) = pure (.type "method_descriptor")) (hm : MtR X id r) (ho : PE X o to)
    (hbase : attributeBase o name X.env (eval o X.env) = eval o X.env := by rfl) (hline : (apos.endLine == cpos.line) = true := by rfl) : PE X (.Call (.Attribute o name apos) [] [] cpos) (tBM0 X.K T r to) := by
  intro pins s σ H Q I h
  refine wpAny_Call_method0_late hbase hline (thn (ho pins s σ H _ I h) fun v s1 ⟨x, H1, I1, r1, ty, q1⟩ => ?_)
  obtain ⟨h1, h2⟩ := tyV_is I1 r1 ty
  exact ⟨T, id, pa, slot, hty, h1, h2, Calls.callWith_builtin rfl (PySem.evalArgs_none (hm pins s1 σ H1 x [] v [] Q I1 r1 .nil q1))⟩
theorem pe_bm (pa : PlainAttrs T) (slot : Slot T name id) (hty : typeOf (.builtin id) = pure (.type "method_descriptor")) (hm : MtR X id r) (ho : PE X o to) (ha : PA X (e :: es) t)
    (hbase : attributeBase o name X.env (eval o X.env) = eval o X.env := by rfl)
    (hfew : ((backTo cpos (starEach (e :: es) X.env)).all (fun x => !x.1) && (backToKw cpos (keywordEach [] X.env)).all (fun x => x.1.isSome)
      && decide ((e :: es).length + ([] : List Keyword).length + (if ([] : List Keyword).isEmpty then 0 else 1) < 30)) = true := by rfl)
    (hline : (apos.endLine == cpos.line) = true := by rfl) (hs : starEach (e :: es) X.env = (false, eval e X.env) :: starEach es X.env := by rfl) (hplain : (backTo cpos (starEach es X.env)).any (·.1) = false := by rfl) :
    PE X (.Call (.Attribute o name apos) (e :: es) [] cpos) (tBM X.K T r to t) := by
  intro pins s σ H Q I h
  refine wpAny_Call_method_late hbase hfew hline rfl (thn (ho pins s σ H _ I h) fun v s1 ⟨x, H1, I1, r1, ty, q1⟩ => ?_)
  obtain ⟨h1, h2⟩ := tyV_is I1 r1 ty
  refine ⟨T, id, pa, slot, hty, h1, h2, ?_⟩
  have hA := ha cpos pins s1 σ H1 _ I1 q1
  rw [hs] at hA ⊢
  refine Calls.callWith_builtin (by show (false || (backTo cpos (starEach es X.env)).any (·.1)) = false; rw [hplain] <;> rfl) (Calls.evalArgs_plain ?_)
  exact thn hA fun us s2 ⟨vs, H2, I2, r2, q2⟩ => hm pins s2 σ H2 x vs v us Q I2 r1 r2 q2
/- xs.append(e), list.index on a module's tuple .. are MtR facts of 06m -/
end
end L2

namespace L2
open PySem PySem.Spec PyProof.Rows

def MtM (X : Cx) (id : String) (r : V → List V → Hp → VK → Prop) : Prop :=
  ∀ (pins : List (Addr × Obj)) (s : Shared) (σ : St) (H : Hp) (x : V) (xs : List V) (v : Value) (us : List Value) (Q : VK), Inv X pins σ H s → RelV x v → Vals xs us → r x xs H Q →
    wpAny (model X.prog X.w) X.A (call (.builtin id) (v :: us)) (EP X pins σ Q) X.xe s

/-! ### lists of values -/
theorem Vals.one : ∀ {x : V} {us : List Value}, Vals [x] us → ∃ u, us = [u] ∧ RelV x u
  | _, _, .cons r .nil => ⟨_, rfl, r⟩

section
variable {X : Cx} {pins : List (Addr × Obj)} {σ : St} {H : Hp} {s : Shared} {l b : Addr} {xs ys zs : List V}

/-! ### the two steps: a tracked list is rewritten, a new list is laid -/
theorem Inv.lset {its its' : List Value} {n : Nat} {f : Array Value → Array Value} {t' : Nat} (I : Inv X pins σ H s) (hH : H l = some (.lst xs))
    (e : s.heap.get? l = some { cls := .type "list", data := .seq its.toArray n }) (hf : f its.toArray = its'.toArray) (hv : Vals ys its') (hz : ys.length ≤ sizeLine) :
    Inv X pins σ (upd H l (.lst ys)) { s with heap := s.heap.update l (Obj.mapSeq f), toks := t' } := by
  have q := PySem.IsL.update e f
  rw [hf] at q
  refine I.write (x := l) (e := l) (by rw [hH]; exact trivial) (.inl rfl) (fun b' u hb hu => (Heap.get?_update_other s.heap (Obj.mapSeq f) (Ne.symm hb)).trans hu) ⟨_, q⟩ ?_
  exact ⟨hz, its', _, hv, q⟩
theorem Inv.lstM (I : Inv X pins σ H s) (hH : H l = some (.lst xs)) : xs.length ≤ sizeLine ∧ ∃ (its : List Value) (n : Nat), Vals xs its ∧ xs.length = its.length ∧ s.heap.get? l = some { cls := .type "list", data := .seq its.toArray n } := by
  obtain ⟨z, its, n, r, e⟩ := I.hok l _ hH
  exact ⟨z, its, n, r, r.length, e⟩

theorem notLongL {n : Nat} (h : n ≤ sizeLine) : Builtin.List.listTooLong n = false := by
  unfold Builtin.List.listTooLong
  exact decide_eq_false (by omega)
end

section
variable {X : Cx}

/-! ### methods -/
def rAppend : V → List V → Hp → VK → Prop := fun x vs H Q => ∃ l xs y, x = .ref l ∧ vs = [y] ∧ H l = some (.lst xs) ∧ xs.length < sizeLine ∧ Q .non (upd H l (.lst (xs ++ [y])))
theorem mt_append : MtM X "list.append" rAppend := by
  intro pins s σ H x vs v us Q I rx rv h
  obtain ⟨l, xs, y, rfl, rfl, hH, hz, q⟩ := h
  cases rx
  obtain ⟨u, rfl, ru⟩ := rv.one
  obtain ⟨z, its, n, r, hl, e⟩ := I.lstM hH
  refine call_meets F.slot_list_append ⟨_, e, rfl⟩ F.entry_list_append (F.args_list_append_2 _ _) (PySem.list_append l its.toArray n u (by rw [List.size_toArray]; omega)) ⟨e, ?_⟩
  refine ⟨.non, _, I.lset (its' := its ++ [u]) hH e (by simp) (r.append (.cons ru .nil)) ?_, rfl, q⟩
  rw [List.length_append, List.length_singleton]
  omega

def rExtend : V → List V → Hp → VK → Prop := fun x vs H Q => ∃ l b xs zs, x = .ref l ∧ vs = [.ref b] ∧ H l = some (.lst xs) ∧ H b = some (.lst zs) ∧ xs.length + zs.length ≤ sizeLine ∧ Q .non (upd H l (.lst (xs ++ zs)))
theorem mt_extend : MtM X "list.extend" rExtend := by
  intro pins s σ H x vs v us Q I rx rv h
  obtain ⟨l, b, xs, zs, rfl, rfl, hH, hB, hz, q⟩ := h
  cases rx
  obtain ⟨u, rfl, ru⟩ := rv.one
  cases ru
  obtain ⟨z, its, n, r, hl, e⟩ := I.lstM hH
  obtain ⟨z2, its2, n2, r2, hl2, e2⟩ := I.lstM hB
  have hsz : its.toArray.size + its2.toArray.size ≤ sizeLine := by rw [List.size_toArray, List.size_toArray]; omega
  have hlong : ¬ (!its.toArray.isEmpty && Builtin.List.listTooLong (its.toArray.size + its2.toArray.size)) = true := by
    rw [notLongL hsz, Bool.and_false]
    exact Bool.false_ne_true
  refine call_meets F.slot_list_extend ⟨_, e, rfl⟩ F.entry_list_extend (F.args_list_extend_2 _ _)
    (AutoSeq1.list_extend_list_list_0 l its.toArray n b its2.toArray n2 hlong (by rw [List.size_toArray]; omega) (by omega)) ⟨e, e2, ?_⟩
  refine ⟨.non, _, I.lset (its' := its ++ its2) hH e (by simp) (r.append r2) ?_, rfl, q⟩
  rw [List.length_append]
  omega





/-! ### list + list, list += list, list * int -/

/-! ### del xs[i] -/
end

/-! ### xs[a:b] = ys -/
section
variable {prog : Program} {w : World} {A : Around} {E : Value → Shared → Prop} {s : Shared}
end

section
variable {X : Cx}
end
end L2

namespace Att
open PySem PySem.W PySem.Calls PyProof.Rows

/-! ### the script -/
theorem ints_of_wellAll {P : Params} {h : Heap} : ∀ (ns : List Int) (vs : List Value), WellAll P h vs (ns.map WData.int) → IntsAre vs ns := by
  intro ns
  induction ns with
  | nil =>
    intro vs w
    rw [List.map_nil] at w
    cases w
    exact .nil
  | cons n ns ih =>
    intro vs w
    rw [List.map_cons] at w
    cases w with
    | cons a b =>
      cases a
      exact .cons _ _ (ih _ b)

theorem script_of {l : OpenLaw} {n : Nat} (hn : l.most = some n) {P : Params} {h : Heap} {args : List WData} {vals : List Value}
    (hpre : l.row.toRowW.claim.pre args = true) (hwl : WellAll P h vals args) :
    ∃ a vs ns, vals = [Value.ref a] ∧ args = [WData.list (ns.map WData.int)] ∧ h.get? a = some { cls := .type "list", data := .seq vs.toArray } ∧ IntsAre vs ns ∧ ns.length ≤ n := by
  have hsh : WShape.hasAll [] args [.list .int] = true := (pre_splitW hpre).1
  have hc : l.pre.holds [] { args := args } = true := (pre_splitW hpre).2
  obtain ⟨d, r, rfl, h1, h2⟩ := hasAllW_cons hsh
  obtain rfl := hasAllW_nil h2
  obtain ⟨xs, rfl, h3⟩ := hasW_list h1
  obtain ⟨ns, rfl⟩ := items_int h3
  have hlen : ns.length ≤ n := by
    unfold OpenLaw.pre at hc
    have h4 : (WTm.not (.lt (.lit (.int (n : Int))) (.len (.arg 0)))).holds [] { args := [.list (ns.map .int)] } = true := by
      have h4 := (holds_andW hc).1
      rw [hn] at h4
      exact h4
    have h5 := condW_of h4 (w_not (w_lt w_lit (w_len_list (w_arg rfl))))
    rw [List.length_map] at h5
    refine Nat.le_of_not_lt fun q => ?_
    have q' : (n : Int) < ((ns.length : Nat) : Int) := by omega
    first
      | (rw [decide_eq_true q'] at h5; exact absurd h5 (by decide))
      | (simp at h5; omega)
  cases hwl with
  | cons w1 w2 =>
    cases w2
    cases w1 with
    | list ho hall => exact ⟨_, _, ns, rfl, rfl, ho, ints_of_wellAll ns _ hall, hlen⟩

theorem post_true (l : OpenLaw) (args : List WData) : l.row.toRowW.claim.post args (.bool true) args = true :=
  postW_of (r := l.row.toRowW) (X := (true == true))
    (show WShape.has [] (.bool true) .bool = true by first | rfl | decide | simp [WShape.has, WShape.arms, WShape.armsAll])
    (show (WTm.eq .res (.lit (.bool true))).value [] { args := args, res := some (.bool true), after := args } = some (.bool (true == true)) from w_eq_bool (w_res rfl) w_lit) rfl

/-! ### the attachment: holds_open's last premise (the goal 'hc' behind k_head) from a wpAny of the law's body -/

/-- the same from a codeAny of the CALL (for a layer whose function contracts speak of calls) -/
theorem attach_call {l : OpenLaw} {n : Nat} {q : Program} {loose : List Str} {XP : (Str → Option Value) → Heap → Prop} {YP : World → Heap → Prop} {d : DefRec}
    (hn : l.most = some n) (hdf : d.params.defaults = [])
    (call : ∀ (w : World) (s₀ s₁ : Shared) (mg mb : Str → Option Value) (fa : Addr) (o : Obj) (pm cd doc : Value) (a : Addr) (vs : List Value) (ns : List Int),
      Ground q loose [] XP w s₀ mg mb s₁.heap → YP w s₁.heap →
      s₁.heap.get? fa = some o → o.data = .func (docDef d.name d.params d.body d.scope pm cd doc) → s₁.heap.CodeRec cd d.name → mg d.name = some (.ref fa) →
      s₁.heap.get? a = some { cls := .type "list", data := .seq vs.toArray } → IntsAre vs ns → ns.length ≤ n → s₁.gens = #[] →
      codeAny (model l.prog w) callerA (.call (.ref fa) ⟨[.ref a], []⟩) (fun r s' => r = .ok (.ret (.bool true)) ∧ OldK s₁.heap s'.heap ∧ s'.os = s₁.os ∧ AllBare s'.gens) s₁) :
    WalkO q loose XP YP l.row.toRowW d [] (fun f vs => PySem.call f vs) := by
  intro w s₀ s₁ mg mb G Y fa o pm cd doc dV kV ho hd hcd hD hmg hg args vals as hpre hlay hrd hwl hlo
  obtain rfl : dV = .none := Dflts.none hD hdf
  obtain rfl : kV = .none := Dflts.noKw hD
  obtain ⟨a, vs, ns, rfl, rfl, hobj, hints, hlen⟩ := script_of hn hpre hwl
  refine enter_call (codeAny_mono (call w s₀ s₁ mg mb fa o pm cd doc a vs ns G Y ho (fd_plain hd) hcd hmg hobj hints hlen hg) fun r s' hq => ?_)
  obtain ⟨rfl, h2, h3, h4⟩ := hq
  exact ⟨.inl ⟨.bool true, .bool true, [], rfl, fun _ => rfl, .bool true, post_true l _, fun _ => ⟨List.Pairwise.nil, fun _ hm => (nomatch hm)⟩⟩, h2, h3, h4⟩


/-! ### rules over ANY heap (no ledger) from facts about the written part K: the library's own take a ledger (News) for what they write -/
section
variable {prog : Program} {w : World} {A : Around} {E : Value → Shared → Prop} {s : Shared} {K : Frag}





/-! the whole heap as the ledger: makes every rule that writes through a ledger a rule over any heap -/
def ledger (h : Heap) (L d : Addr) : List (Addr × Obj) := (List.range h.objs.size).filterMap fun a => if a = L ∨ a = d then none else (h.get? a).map fun o => (a, o)

end
end Att

namespace L2
open PySem PySem.Spec PyProof.Rows

theorem vals_ints : ∀ {vs : List Value} {ns : List Int}, IntsAre vs ns → Vals (ns.map V.int) vs
  | _, _, .nil => .nil
  | _, _, .cons n t h => .cons ⟨t, rfl⟩ (vals_ints h)

/-- nothing is tracked but the script, known to the object (or it is an object of the module) -/
def Only (H : Hp) : Prop := ∀ b, H b = none ∨ ∃ o xs, H b = some (.frz o (.lst xs))

/-- THE HEAD: the law's promise, at the heap behind the top. F, the promise of the law's def, may use that base is part of the heap (so K.In base, base.Ns mainGlobals mg stand in Mod) -/
theorem law_call {P : Program} {w : World} {K : PySem.W.Frag} {mg mb : Str → Option Value} {CX : CXT} {k : Nat} {fa a : Addr} {fd : FuncData} {x : Str} {sp : Sp} {s₁ : Shared} {vs : List Value} {ns : List Int}
    (KX : K.In s₁.heap) (hns : s₁.heap.Ns mainGlobals mg) (hb : s₁.heap.Ns builtinsNs mb) (hbb : ∀ x : Str, x ≠ "__name__" → mb x = bootBuiltins x) (hlim : s₁.heap.NoLimit) (hg : s₁.gens = #[])
    (ha : s₁.heap.get? a = some { cls := .type "list", data := .seq vs.toArray }) (hi : IntsAre vs ns) (hl : ns.length ≤ sizeLine) (hr : Room k callerA)
    (F : ∀ base : Heap, K.In base → base.Ns mainGlobals mg → FnOk P w K mg base CX k fa fd [x] sp) (hbind : ∀ (s : Shared) (u : Value), BindsTo s fd ⟨[u], []⟩ [(x, u)])
    (hsp : ∀ H : Hp, Only H → SqL K H a (ns.map V.int) → sp [.ref a] H (fun v _ => v = .bl true) fun _ _ _ => False)
    (hCX : ∀ H e s', CX [] H s₁ (fun _ _ _ => False) e s' → False) :
    codeAny (model P w) callerA (.call (.ref fa) ⟨[.ref a], []⟩) (fun r s' => r = .ok (.ret (.bool true)) ∧ OldK s₁.heap s'.heap ∧ s'.os = s₁.os ∧ AllBare s'.gens) s₁ := by
  have rv := vals_ints hi
  have lenV := hi.length
  -- from an abstract heap in which nothing but the script may be tracked
  have core : ∀ H : Hp, Only H → SqL K H a (ns.map V.int) → HOk P w H s₁.heap → (∀ b, H b ≠ none → b = a) → (H a ≠ none → K.lookup a = none) →
      codeAny (model P w) callerA (.call (.ref fa) ⟨[.ref a], []⟩) (fun r s' => r = .ok (.ret (.bool true)) ∧ OldK s₁.heap s'.heap ∧ s'.os = s₁.os ∧ AllBare s'.gens) s₁ := by
    intro H hO hS hok hA hK
    have base_of : ∀ {b : Addr} {o : Obj}, s₁.heap.get? b = some o → H b = none → (hidT s₁.heap H).get? b = some o := fun e n => hidT_get e n
    have noA : ∀ {b : Addr} {o : Obj} {es : Array DictEntry} {ep : Nat}, s₁.heap.get? b = some o → o.data = .dict es ep → H b = none := fun {b o es ep} e d => by
      cases q : H b with
      | none => rfl
      | some u =>
        have e' : b = a := hA b (by rw [q]; simp)
        subst e'
        rw [ha] at e; cases e
        have d' : Data.seq vs.toArray _ = Data.dict es ep := d
        cases d'
    have nsK : ∀ {b : Addr} {m : Str → Option Value}, s₁.heap.Ns b m → (hidT s₁.heap H).Ns b m := fun {b m} ⟨o, es, ep, e, d, r⟩ => ⟨o, es, ep, base_of e (noA e d), d, r⟩
    have hKb : K.In (hidT s₁.heap H) := fun b o e => base_of (KX b o e) (by
      cases q : H b with
      | none => rfl
      | some u =>
        have e' : b = a := hA b (by rw [q]; simp)
        subst e'
        rw [hK (by rw [q]; simp)] at e; cases e)
    have hM : Mod K mg (hidT s₁.heap H) := ⟨hKb, nsK hns, ⟨mb, nsK hb, hbb⟩, let ⟨mc, h1, h2⟩ := hlim; ⟨mc, nsK h1, h2⟩⟩
    have e0 : Env0 P w K mg (hidT s₁.heap H) callerA [] s₁ H := ⟨rfl, hM, fun b o e => of_hidT e, Nat.le_of_eq (hidT_size _ _), trivial, fun b hb => absurd (show b ∈ ([] : List Addr) from hb) (by simp), hok, .of_eq hg⟩
    refine codeAny_mono ((F _ hKb (nsK hns)).run callerA [] s₁ H ⟨[.ref a], []⟩ [.ref a] [.ref a] _ _ hr e0 (hbind s₁ (.ref a)) (.cons rfl .nil) (hsp H hO hS)) fun r s' h => ?_
    cases r with
    | error e => exact (hCX H e s' h).elim
    | ok fl =>
      cases fl with
      | next => exact False.elim h
      | brk => exact False.elim h
      | cont => exact False.elim h
      | ret u =>
        obtain ⟨v, H', os, bare, un, hok', r', q⟩ := h
        have q' : v = .bl true := q
        subst q'
        obtain rfl : u = Value.bool true := r'
        refine ⟨rfl, OldK.of_keep fun b o e => ?_, os, bare⟩
        cases q : H b with
        | none => exact un.keep b o e q (by intro z; exact absurd (show b ∈ ([] : List Addr) from z) (by simp)) (by simp)
        | some u =>
          rcases hO b with z | ⟨ob, xs, z⟩
          · rw [q] at z; cases z
          · have z2 := un.frzs b ob _ z
            obtain ⟨e1, _⟩ := hok b _ z
            obtain ⟨e2, _⟩ := hok' b _ z2
            rw [e] at e1; cases e1
            exact e2
  cases hk : K.lookup a with
  | some o =>
    -- the script is one of the module's own objects
    have e := KX a o hk
    rw [ha] at e
    cases e
    refine core (fun _ => none) (fun _ => .inl rfl) (.inr ⟨_, vs.toArray, _, hk, rfl, rfl, rfl, by rw [List.size_toArray, lenV]; exact hl, by simpa using rv⟩) (fun b u z => by have z' : (none : Option HO) = some u := z; cases z') (fun b z => absurd rfl z) fun z => absurd rfl z
  | none =>
    refine core (fun b => if b = a then some (.frz { cls := .type "list", data := .seq vs.toArray } (.lst (ns.map V.int))) else none) (fun b => ?_) (.inl (.inr ⟨{ cls := .type "list", data := .seq vs.toArray }, if_pos rfl⟩)) (fun b u z => ?_) (fun b z => ?_) fun _ => hk
    · by_cases hb : b = a
      · exact .inr ⟨_, _, if_pos hb⟩
      · exact .inl (if_neg hb)
    · by_cases hb : b = a
      · have z' := (if_pos hb).symm.trans z
        cases z'
        subst hb
        exact ⟨ha, by rw [List.length_map]; exact hl, vs, _, rv, ha⟩
      · have z' := (if_neg hb).symm.trans z
        cases z'
    · by_cases hb : b = a
      · exact hb
      · exact absurd (if_neg hb) z
end L2

namespace L2
open PySem PySem.Spec PyProof.Rows


/-- the goal that k_head leaves (case hc), from the law's promise. F gives the function object fd (K's own) once, then the promise over every base -/
theorem walk_of {l : PySem.W.OpenLaw} {n k : Nat} {q : Program} {loose : List Str} {XP : (Str → Option Value) → Heap → Prop} {YP : World → Heap → Prop} {d : DefRec} {K : Params → PySem.W.Frag} {CX : World → CXT} {sp : World → Sp} {x : Str}
    (hn : l.most = some n) (hn2 : n ≤ sizeLine) (hdf : d.params.defaults = []) (hr : Room k callerA)
    (hY : ∀ (w : World) (h : Heap), YP w h → (K w.params).In h)
    (F : ∀ (w : World) (mg : Str → Option Value) (fa : Addr) (h : Heap), (K w.params).In h → h.Ns mainGlobals mg → mg d.name = some (.ref fa) →
      ∃ fd : FuncData, (∀ (s : Shared) (u : Value), BindsTo s fd ⟨[u], []⟩ [(x, u)]) ∧
        ∀ base : Heap, (K w.params).In base → base.Ns mainGlobals mg → FnOk l.prog w (K w.params) mg base (CX w) k fa fd [x] (sp w))
    (hsp : ∀ (w : World) (H : Hp) (a : Addr) (ns : List Int), ns.length ≤ n → Only H → SqL (K w.params) H a (ns.map V.int) → sp w [.ref a] H (fun v _ => v = .bl true) fun _ _ _ => False)
    (hCX : ∀ (w : World) (H : Hp) (s : Shared) (e : Value) (s' : Shared), CX w [] H s (fun _ _ _ => False) e s' → False) :
    PySem.W.WalkO q loose XP YP l.row.toRowW d [] (fun f vs => PySem.call f vs) := by
  refine Att.attach_call hn hdf fun w s₀ s₁ mg mb fa o pm cd doc a vs ns G Y ho hd hcd hmg hobj hints hlen hg => ?_
  have KX := hY w _ Y
  obtain ⟨fd, hb, hF⟩ := F w mg fa _ KX G.T.g hmg
  exact law_call KX G.T.g G.T.b G.T.builtins G.T.nolimit hg hobj hints (Nat.le_trans hlen hn2) hr hF hb (fun H hO hS => hsp w H a ns hlen hO hS) fun H e s' => hCX w H s₁ e s'
end L2



/-! SHORT WORDS over the layer: a def of the text, its body, what a loop and a test want. -/
namespace L2
open PySem PySem.Spec PyProof.Rows

/-! ### the text by places -/
/-- the j-th statement of a class's body -/
def inClass (s : Stmt) (j : Nat) : Stmt := match s with
  | .ClassDef _ _ _ body _ _ _ _ _ _ _ => body.getD j (.Pass ⟨0, 0, 0, 0⟩)
  | _ => .Pass ⟨0, 0, 0, 0⟩
def defArgs (s : Stmt) : Arguments := match s with
  | .FunctionDef _ a _ _ _ _ _ _ _ _ => a
  | _ => { posonlyargs := [], args := [], vararg := none, kwonlyargs := [], kw_defaults := [], kwarg := none, defaults := [] }
def defBody (s : Stmt) : List Stmt := match s with
  | .FunctionDef _ _ b _ _ _ _ _ _ _ => b
  | _ => []
def defScope (s : Stmt) : Scope := match s with
  | .FunctionDef _ _ _ _ _ _ sc _ _ _ => sc
  | _ => { kind := .function, names := [], isGenerator := false, isCoroutine := false }

/-! ### no exception leaves a def -/
abbrev CX0 : CXT := fun _ _ _ _ _ _ => False
abbrev E0 : XK := fun _ _ _ => False
theorem pass0 {X : Cx} : Passes CX0 X E0 := fun _ _ _ _ _ _ _ h => h.elim

/-! ### a def (or method) of the text as it stands behind the top -/
structure Fun (K : PySem.W.Frag) (x qual : Str) (st : Stmt) (f : Addr) (fd : FuncData) : Prop where
  ex : ∃ (oc : Value) (od : Option Addr) (kV doc pm : Value) (an : Option Addr) (cdv ct : Value) (osl : Array (Option Value)),
    fd = PySem.W.fnOf x qual (defArgs st) (defBody st) (defScope st) .none kV doc pm an cdv ct ∧ K.lookup f = some ⟨oc, od, .func fd, osl⟩ ∧ PySem.W.codeIn K cdv qual = true
  kp : PySem.W.keepIn K (.ref f) = true
section
variable {P : Program} {w : World} {K : PySem.W.Frag} {mg : Str → Option Value} {base : Heap}
/-- THE RULE for a def: its body as a term of rules, and the reading of that term -/
theorem Fun.ok {x qual : Str} {st : Stmt} {f : Addr} {fd : FuncData} {N ps : List Str} {k : Nat} {sp : Sp} (F : Fun K x qual st f fd) (S : FnScope N ps (defScope st)) (len : ∀ vs H Q E, sp vs H Q E → vs.length = ps.length)
    (hbody : ∀ (cdv : Value) (A : Around) (outer : List Env) (s : Shared) (H : Hp) (vs : List V) (Q : VK) (E : XK), Room k (A.deeper (envOfC qual (defScope st) s.heap.objs.size f cdv)) → sp vs H Q E →
      ∃ t, PSs (cxOf CX0 P w K mg base N qual (defScope st) f cdv A outer s H E).nox (defBody st) t ∧ t { nx := fun _ H' => Q .non H', rt := Q } (start N vs) H) : FnOk P w K mg base CX0 (k + 1) f fd ps sp := by
  obtain ⟨oc, od, kV, doc, pm, an, cdv, ct, osl, rfl, lk, hcd⟩ := F.ex
  refine fn_of lk hcd S len fun A outer s H vs Q E hr hsp => ?_
  obtain ⟨t, h, q⟩ := hbody cdv A outer s H vs Q E hr hsp
  exact ⟨t, h.nox, q⟩
/-- how its arguments bind (no defaults): h is «fun _ _ _ _ _ _ us hl => match us, hl with | [_, _], _ => rfl», one _ a parameter -/
theorem Fun.binds {x qual : Str} {st : Stmt} {f : Addr} {fd : FuncData} {ps : List Str} (F : Fun K x qual st f fd)
    (h : ∀ (kV doc pm : Value) (an : Option Addr) (cdv ct : Value) (us : List Value), us.length = ps.length → bindArgs (PySem.W.fnOf x qual (defArgs st) (defBody st) (defScope st) .none kV doc pm an cdv ct) ⟨us, []⟩ = pure (ps.zip us)) : Binds K fd ps [] := by
  obtain ⟨oc, od, kV, doc, pm, an, cdv, ct, osl, rfl, lk, hcd⟩ := F.ex
  exact .all (h kV doc pm an cdv ct)
theorem fun_mk {x qual : Str} {st : Stmt} {f : Addr} {oc : Value} {od an : Option Addr} {osl : Array (Option Value)} {kV doc pm cdv ct : Value} (l : K.lookup f = some ⟨oc, od, .func (PySem.W.fnOf x qual (defArgs st) (defBody st) (defScope st) .none kV doc pm an cdv ct), osl⟩)
    (c : PySem.W.codeIn K cdv qual = true) (k : PySem.W.keepIn K (.ref f) = true) : Fun K x qual st f (PySem.W.fnOf x qual (defArgs st) (defBody st) (defScope st) .none kV doc pm an cdv ct) := ⟨⟨oc, od, kV, doc, pm, an, cdv, ct, osl, rfl, l, c⟩, k⟩
end
theorem hu_of {A : Around} {k : Nat} (hr : Room k A) : A.units + 1 < cLine := Nat.lt_of_le_of_lt (Nat.add_le_add_left (by decide : 1 ≤ 64) _) hr.units

/-! ### expressions in short: the name that stands in the i-th slot -/
section
variable {X : Cx}
theorem pv (i : Nat) {x : Str} {pos : Pos} (hN : X.N[i]? = some x := by rfl) (hv : Vis X.env.scope x := by first | exact Or.inl rfl | exact Or.inr (Or.inl rfl) | exact Or.inr (Or.inr rfl)) (hd : (x == ("__debug__" : Str)) = false := by decide)
    (hcd : (x == ("__classdict__" : Str)) = false := by decide) : PE X (.Name x pos) (tVar i) := pe_var hN hv hd hcd
end

/-! ### tests -/
theorem iteF {A B : Prop} (h : B) : if false = true then A else B := by
  rw [if_neg Bool.false_ne_true]
  exact h
theorem iteT {A B : Prop} (h : A) : if true = true then A else B := by
  rw [if_pos rfl]
  exact h
theorem ite2 {c A B : Prop} [Decidable c] (h1 : c → A) (h2 : ¬ c → B) : if c then A else B := by
  by_cases h : c
  · rw [if_pos h]
    exact h1 h
  · rw [if_neg h]
    exact h2 h

/-! ### heaps -/
/-- all that was tracked is as it was -/
def Same (H H' : Hp) : Prop := ∀ b o, H b = some o → H' b = some o
theorem Same.refl (H : Hp) : Same H H := fun _ _ h => h
theorem Same.trans {H H1 H2 : Hp} (a : Same H H1) (b : Same H1 H2) : Same H H2 := fun c o h => b c o (a c o h)
theorem Same.seq {K : PySem.W.Frag} {H H' : Hp} {a : Addr} {xs : List V} (e : Same H H') (h : SqL K H a xs) : SqL K H' a xs := by
  rcases h with (h | ⟨o, h⟩) | h
  · exact .inl (.inl (e _ _ h))
  · exact .inl (.inr ⟨o, e _ _ h⟩)
  · exact .inr h

end L2

set_option linter.all false
/-! The table of a set of ints: its places rise, so a walk meets each member once. Own work. -/
namespace SetPure
open PySem











end SetPure

set_option linter.all false
set_option maxRecDepth 100000
set_option maxHeartbeats 4000000
/-! A set of ints that is filled: which members, and that its table is good. Own work. -/
namespace SI
open PySem SetPure




section
variable {prog : Program} {w : World} {A : Around} {E : Value → Shared → Prop} {s : Shared}



end
end SI

set_option linter.all false
set_option maxRecDepth 100000
set_option maxHeartbeats 4000000
namespace SI
open PySem SetPure
section
variable {prog : Program} {w : World} {A : Around} {E : Value → Shared → Prop} {s : Shared}

end
end SI

set_option linter.all false
set_option maxRecDepth 100000
set_option maxHeartbeats 4000000
namespace SI
open PySem SetPure
section
variable {prog : Program} {w : World} {A : Around} {E : Value → Shared → Prop} {s : Shared}








end
end SI

set_option linter.all false
set_option maxRecDepth 100000
set_option maxHeartbeats 4000000
namespace SI
open PySem SetPure
section
variable {prog : Program} {w : World} {A : Around} {E : Value → Shared → Prop} {s : Shared}



end
end SI

set_option linter.all false
set_option maxRecDepth 100000
set_option maxHeartbeats 4000000
namespace SI
open PySem SetPure PyProof.Rows
section
variable {prog : Program} {w : World} {A : Around} {R : Result → Shared → Prop} {I : Addr} {fp wr : List Addr} {G : Array GenState → Array GenState → Prop} {n : Nat} {P : Nat → Value → Prop} {St : Nat → Shared → Prop}
end
section
variable {prog : Program} {w : World} {A : Around} {E : Value → Shared → Prop} {s : Shared}
end
end SI

set_option linter.all false
set_option maxRecDepth 100000
set_option maxHeartbeats 4000000
namespace SI
open PySem SetPure PyProof.Rows
section
variable {prog : Program} {w : World} {A : Around} {E : Value → Shared → Prop} {s : Shared}
end
end SI

set_option Elab.async false
set_option linter.all false
set_option maxRecDepth 100000
set_option maxHeartbeats 4000000
/-! A list comprehension of one clause over the hand layer: own work. -/
namespace L2
open PySem PySem.Spec PyProof.Rows

section
variable {prog : Program} {w : World} {A : Around} {R : Result → Shared → Prop} {s : Shared}
/-- the loop of a comprehension, its owned tuple let go, no exception within -/
theorem compLoop_own {elt target iter : Expr} {ifs : List Expr} {scope : Scope} {pos : Pos} {it acc : Value} {env : Env} (I : Nat → Shared → Prop)
    (turn : ∀ n s, I n s → wpAny (model prog w) A (pyNext it) (fun r s₁ => match r with
      | none => R (.ok .next) s₁
      | some v => wpAny (model prog w) A (letOwnedTupleGo target it v) (fun _ s₁' => wpAny (model prog w) A (assign target env v) (fun _ s₂ =>
          wpAny (model prog w) A (forIn ifs true fun c r => if r = true then do let ok ← isTrue c env (eval c env); pure (ForInStep.yield ok) else pure (ForInStep.yield r)) (fun ok s₃ =>
            if ok = true then wpAny (model prog w) A (eval elt env) (fun x s₄ =>
              wpAny (model prog w) A (call (.builtin "list.append") [acc, x]) (fun _ s₅ => ∃ m, m < n ∧ I m s₅) (fun _ _ => False) s₄) (fun _ _ => False) s₃
            else ∃ m, m < n ∧ I m s₃) (fun _ _ => False) s₂) (fun _ _ => False) s₁') (fun _ _ => False) s₁) (fun _ _ => False) s)
    (n : Nat) (h : I n s) : codeAny (model prog w) A (.compLoop (.ListComp elt [⟨target, iter, ifs, 0⟩] scope pos) 0 it acc env) R s := by
  refine codeAny_loop rfl I (fun n s hI => ?_) n h
  show wpAny _ A ((compTurn (.ListComp elt [⟨target, iter, ifs, 0⟩] scope pos) 0 it acc env).onRaise (fun x => do noteFrame x env; theTreesLotGoes x)) _ _ s
  refine wpAny_noted ?_
  rw [compTurn_list]
  refine wpAny_bind (wpAny_standAt (wpAny_bind (wpAny_mono (turn n s hI) (fun r s₁ h₁ => ?_) fun _ _ h' => h'.elim)))
  cases r with
  | none => exact wpAny_pure h₁
  | some v =>
    refine wpAny_bind (wpAny_mono h₁ (fun _ s₁' h₁' => wpAny_bind (wpAny_mono h₁' (fun _ s₂ h₂ => wpAny_bind (wpAny_mono h₂ (fun ok s₃ h₃ => ?_) fun _ _ h' => h'.elim)) fun _ _ h' => h'.elim)) fun _ _ h' => h'.elim)
    cases ok with
    | false => exact wpAny_pure ⟨rfl, h₃⟩
    | true =>
      exact wpAny_bind (wpAny_bind (wpAny_mono h₃ (fun x s₄ h₄ => wpAny_bind (wpAny_mono h₄ (fun _ s₅ h₅ => wpAny_pure (wpAny_pure ⟨rfl, h₅⟩)) fun _ _ h' => h'.elim)) fun _ _ h' => h'.elim))
end

/-- the cells that a comprehension's block takes from around it -/
theorem closure_of {scope : Scope} {env : Env} (h : ∀ y ∈ scope.names, y.2 = .free → ∃ c, env.cells.lookup y.1 = some c) :
    ∃ cl, closureFor scope env = pure cl ∧ (∀ x c, cl.lookup x = some c → env.cells.lookup x = some c) ∧ (∀ x, (x, NameKind.free) ∈ scope.names → ∃ c, cl.lookup x = some c) := by
  have key : ∀ (l : List (Str × NameKind)) (cs : List (Str × Addr)), (∀ y ∈ l, y.2 = .free → ∃ c, env.cells.lookup y.1 = some c) → (∀ x c, cs.lookup x = some c → env.cells.lookup x = some c) →
      ∃ cl, (forIn l cs (fun (p : Str × NameKind) (r : List (Str × Addr)) => (do
          if p.2 == NameKind.free then do
            let a ← cellOf env p.1
            pure (ForInStep.yield ((p.1, a) :: r))
          else pure (ForInStep.yield r) : Sem (ForInStep (List (Str × Addr)))))) = pure cl ∧ (∀ x c, cl.lookup x = some c → env.cells.lookup x = some c) ∧ (∀ x, ((x, NameKind.free) ∈ l ∨ ∃ c, cs.lookup x = some c) → ∃ c, cl.lookup x = some c) := by
    intro l
    induction l with
    | nil => intro cs _ hc; exact ⟨cs, rfl, hc, fun x hx => hx.elim (fun z => by cases z) id⟩
    | cons p r ih =>
      intro cs hl hc
      obtain ⟨n, k⟩ := p
      by_cases hk : k = .free
      · subst hk
        obtain ⟨c, e⟩ := hl (n, .free) List.mem_cons_self rfl
        obtain ⟨cl, e1, e2, e3⟩ := ih ((n, c) :: cs) (fun y hy => hl y (List.mem_cons_of_mem _ hy)) (fun x c' q => by
          rw [List.lookup_cons] at q
          by_cases hx : x == n
          · rw [hx] at q; cases q; rw [eq_of_beq hx]; exact e
          · have hx' : (x == n) = false := by simpa using hx
            rw [hx'] at q; exact hc x c' q)
        refine ⟨cl, ?_, e2, fun x hx => e3 x ?_⟩
        · rw [List.forIn_cons]
          have : (cellOf env n) = pure c := by unfold cellOf; rw [e]
          simp only [beq_self_eq_true, if_true, this, pure_bind]
          exact e1
        · rcases hx with hx | ⟨c', hx⟩
          · rcases List.mem_cons.mp hx with z | z
            · cases z; exact .inr ⟨c, by simp⟩
            · exact .inl z
          · by_cases q : x == n
            · exact .inr ⟨c, by rw [List.lookup_cons, q]⟩
            · have q' : (x == n) = false := by simpa using q
              exact .inr ⟨c', by rw [List.lookup_cons, q']; exact hx⟩
      · obtain ⟨cl, e1, e2, e3⟩ := ih cs (fun y hy => hl y (List.mem_cons_of_mem _ hy)) hc
        refine ⟨cl, ?_, e2, fun x hx => e3 x ?_⟩
        · rw [List.forIn_cons]
          have hb : (k == NameKind.free) = false := by simpa using hk
          simp only [hb, Bool.false_eq_true, if_false, pure_bind]
          exact e1
        · rcases hx with hx | hx
          · rcases List.mem_cons.mp hx with z | z
            · cases z; exact absurd rfl hk
            · exact .inl z
          · exact .inr hx
  obtain ⟨cl, e1, e2, e3⟩ := key scope.names [] h (fun x c q => by cases q)
  refine ⟨cl, ?_, e2, fun x hx => e3 x (.inl hx)⟩
  unfold closureFor
  have e1' := e1
  simp only [bind_pure] at e1' ⊢
  first
    | exact e1'
    | (rw [← e1']; rfl)
    | (show (forIn scope.names [] _ >>= fun r => pure r) = _; rw [bind_pure]; exact e1')
end L2

namespace L2
open PySem PySem.Spec PyProof.Rows

/-- what a comprehension's scope must be, over the def's own scope (outer), the def's names N; ks: which of N the block sees -/
structure LcS (outer names : List (Str × NameKind)) (N : List Str) (ks : List Bool) : Prop where
  fv : ∀ y ∈ names, y.2 = .free → outer.lookup y.1 = some .cell ∨ outer.lookup y.1 = some .free
  nocell : ∀ y ∈ names, y.2 ≠ .cell
  loc : ∀ y ∈ names, y.2 = .local → names.lookup y.1 = some .local
  free : ∀ y ∈ names, y.2 = .free → names.lookup y.1 = some .free
  vis : ∀ p ∈ N.zip ks, p.2 = true → names.lookup p.1 = some .free
  len : ks.length = N.length

/-- the values that the block sees -/
def mask (ks : List Bool) (σ : St) : St := List.zipWith (fun k v => if k then v else none) ks σ
theorem mask_get {ks : List Bool} {σ : St} {i : Nat} {v : V} (h : (mask ks σ)[i]? = some (some v)) : ks[i]? = some true ∧ σ[i]? = some (some v) := by
  unfold mask at h
  rw [List.getElem?_zipWith] at h
  cases e1 : ks[i]? with
  | none => rw [e1] at h; cases h
  | some k =>
    cases e2 : σ[i]? with
    | none => rw [e1, e2] at h; cases h
    | some u =>
      rw [e1, e2] at h
      cases k with
      | true => simp at h; subst h; exact ⟨rfl, rfl⟩
      | false => simp at h
theorem mask_len {ks : List Bool} {σ : St} (h : ks.length = σ.length) : (mask ks σ).length = σ.length := by
  unfold mask; rw [List.length_zipWith, h, Nat.min_self]

/-- the block's context -/
def cxLC (X : Cx) (scope : Scope) (cl : List (Str × Addr)) (ext : List Str) (C : Addr) (fp : List Addr) (s₀ : Shared) (H₀ : Hp) : Cx :=
  { X with N := X.N ++ ext, env := compEnvC scope cl C X.env, s₀ := s₀, H₀ := H₀, outer := X.stack, ex := fp, fn := fun _ => false, pn := [], xe := fun _ _ => False }

theorem relabel_kind {env : Env} : ∀ {names : List (Str × NameKind)} {x : Str} {k' : NameKind},
    (names.map fun (n, k) => if (k == NameKind.free && env.scope.kind == .function && env.kindOf n == some .cell) then (n, NameKind.cell) else (n, k)).lookup x = some k' →
    names.lookup x = some k' ∨ (k' = .cell ∧ names.lookup x = some .free)
  | [], _, _, h => by simp at h
  | (n, k) :: r, x, k', h => by
    have h : List.lookup x ((if (k == NameKind.free && env.scope.kind == .function && env.kindOf n == some .cell) = true then (n, NameKind.cell) else (n, k)) :: (r.map fun (n, k) => if (k == NameKind.free && env.scope.kind == .function && env.kindOf n == some .cell) then (n, NameKind.cell) else (n, k))) = some k' := h
    cases hx : x == n with
    | true =>
      by_cases hc : (k == NameKind.free && env.scope.kind == .function && env.kindOf n == some .cell) = true
      · rw [if_pos hc] at h
        simp only [List.lookup_cons, hx] at h
        cases h
        simp only [Bool.and_eq_true, beq_iff_eq] at hc
        exact .inr ⟨rfl, by simp only [List.lookup_cons, hx]; rw [hc.1.1]⟩
      · rw [if_neg hc] at h
        simp only [List.lookup_cons, hx] at h
        cases h
        exact .inl (by simp only [List.lookup_cons, hx])
    | false =>
      have h' : (r.map fun (n, k) => if (k == NameKind.free && env.scope.kind == .function && env.kindOf n == some .cell) then (n, NameKind.cell) else (n, k)).lookup x = some k' := by
        split at h <;> simpa only [List.lookup_cons, hx] using h
      simp only [List.lookup_cons, hx]
      exact relabel_kind h'
theorem relabel_free {env : Env} : ∀ {names : List (Str × NameKind)} {x : Str}, names.lookup x = some .free →
    (names.map fun (n, k) => if (k == NameKind.free && env.scope.kind == .function && env.kindOf n == some .cell) then (n, NameKind.cell) else (n, k)).lookup x = some .cell ∨
    (names.map fun (n, k) => if (k == NameKind.free && env.scope.kind == .function && env.kindOf n == some .cell) then (n, NameKind.cell) else (n, k)).lookup x = some .free
  | [], _, h => by simp at h
  | (n, k) :: r, x, h => by
    show List.lookup x ((if (k == NameKind.free && env.scope.kind == .function && env.kindOf n == some .cell) = true then (n, NameKind.cell) else (n, k)) :: _) = _ ∨ List.lookup x ((if (k == NameKind.free && env.scope.kind == .function && env.kindOf n == some .cell) = true then (n, NameKind.cell) else (n, k)) :: _) = _
    cases hx : x == n with
    | true =>
      simp only [List.lookup_cons, hx] at h
      cases h
      split
      · exact .inl (by simp only [List.lookup_cons, hx])
      · exact .inr (by simp only [List.lookup_cons, hx])
    | false =>
      simp only [List.lookup_cons, hx] at h
      have ih := @relabel_free env r x h
      split <;> simp only [List.lookup_cons, hx] <;> exact ih

/-- the block's entry -/
theorem inv_lc {X : Cx} {pins : List (Addr × Obj)} {σ : St} {H : Hp} {s : Shared} {scope : Scope} {cl : List (Str × Addr)} {ks : List Bool} {ext : List Str} {fp : List Addr} {C : Addr} {h1 : Heap} {tk : Nat}
    (I : Inv X pins σ H s) (S : LcS X.env.scope.names scope.names X.N ks) (hkind : scope.kind = .function) (c1 : ∀ x c, cl.lookup x = some c → X.env.cells.lookup x = some c) (c2 : ∀ x, (x, NameKind.free) ∈ scope.names → ∃ c, cl.lookup x = some c)
    (hfp : ∀ b ∈ fp, FpOk X pins H b) (hlt : ∀ b ∈ fp, b < s.heap.objs.size) (hC : C = s.heap.objs.size) (hn : h1.Ns C (fun _ => none)) (hk : ∀ b o, s.heap.get? b = some o → h1.get? b = some o) :
    Inv (cxLC X scope cl ext C fp s H) [] (mask ks σ ++ List.replicate ext.length none) H { s with heap := h1, toks := tk } := by
  have hlen : ks.length = σ.length := by rw [S.len, I.len]
  refine ⟨⟨I.ok.mod, hkind, I.ok.glob, I.ok.blt, Nat.le_of_eq hC.symm, fun x y c e1 e2 => I.ok.inj x y c (c1 x c e1) (c1 y c e2), fun x hx => ?_, (fun x c hf => by cases hf), I.ok.hd, I.ok.frames, .inl rfl, fun b hb => ⟨?_, fun x c e => (hfp b hb).2.2.2.2.1 x c (c1 x c e)⟩, I.bs, Nat.le_trans I.ok.bsz I.sz, fun b o e hb => ?_, fun b hb hz => ?_, I.stack, I.stkFree⟩,
    rfl, I.bare, Un.kept hk, ⟨_, hn, fun i x v e1 e2 e3 => ?_⟩, fun x c e => ?_, ?_, fun x c e => I.freeC x c (c1 x c e), fun p hp => absurd (show p ∈ ([] : List (Addr × Obj)) from hp) (by simp), I.hok.kept hk, ?_⟩
  · -- a cell for each cell or free name
    have hx' : (relabel scope X.env).names.lookup x = some .cell ∨ (relabel scope X.env).names.lookup x = some .free := hx
    have hfree : scope.names.lookup x = some .free := by
      rcases hx' with q | q
      · rcases relabel_kind q with z | ⟨_, z⟩
        · exact absurd rfl (S.nocell _ (PySem.mem_of_lookup z))
        · exact z
      · rcases relabel_kind q with z | ⟨z, _⟩
        · exact z
        · cases z
    exact c2 x (PySem.mem_of_lookup hfree)
  · intro z
    have h0 := hlt b hb
    have z' : b = C := z
    rw [z', hC] at h0
    exact Nat.lt_irrefl _ h0
  · obtain ⟨_, _, _, h4, _, _⟩ := hfp b hb
    rcases h4 with z | z
    · exact I.ok.noex b o e z
    · exact absurd (Heap.lt_size (I.ok.bs b o e).1) (Nat.not_lt.mpr z)
  · have hz' : b ∈ frs X.stack := hz
    rcases List.mem_cons.mp (I.stkSub b hz') with q | q
    · exact (hfp b hb).2.1 q
    · exact (hfp b hb).2.2.1 q
  · have hi : i < (mask ks σ).length := by
      by_cases hi : i < (mask ks σ).length
      · exact hi
      · rw [List.getElem?_append_right (by omega), List.getElem?_replicate] at e2
        split at e2 <;> cases e2
    rw [List.getElem?_append_left hi] at e2
    obtain ⟨k1, k2⟩ := mask_get e2
    have hiN : i < X.N.length := by rw [← I.len]; rw [mask_len hlen] at hi; exact hi
    have e1' : X.N[i]? = some x := by
      have : (X.N ++ ext)[i]? = some x := e1
      rwa [List.getElem?_append_left hiN] at this
    have hz : (x, true) ∈ X.N.zip ks := by
      rw [List.mem_iff_getElem?]
      exact ⟨i, by rw [List.getElem?_zip_eq_some]; exact ⟨e1', k1⟩⟩
    have hfree := S.vis (x, true) hz rfl
    have hvis : X.env.kindOf x = some .cell ∨ X.env.kindOf x = some .free := S.fv (x, .free) (PySem.mem_of_lookup hfree) rfl
    obtain ⟨m, hm, hl⟩ := I.loc
    obtain ⟨u, r, l⟩ := hl i x v e1' k2 (hvis.elim (fun z => .inr (.inl z)) fun z => .inr (.inr z))
    refine ⟨u, r, .inr ⟨relabel_free hfree, ?_⟩⟩
    rcases l with ⟨z, _⟩ | ⟨_, c, ec, hc⟩
    · rcases hvis with q | q <;> · rw [q] at z; cases z
    · obtain ⟨c', ec'⟩ := c2 x (PySem.mem_of_lookup hfree)
      have := c1 x c' ec'
      rw [ec] at this; cases this
      obtain ⟨o, ho, hd⟩ := hc
      exact ⟨c, ec', o, hk c o ho, hd⟩
  · obtain ⟨v, o, ho, hd⟩ := I.cell x c (c1 x c e)
    exact ⟨v, o, hk c o ho, hd⟩
  · show H C = none
    rw [hC]; exact I.hok.fresh (Nat.le_refl _)
  · rw [List.length_append, List.length_replicate, mask_len hlen, I.len]
    show _ = (X.N ++ ext).length
    rw [List.length_append]
end L2

namespace L2
open PySem PySem.Spec PyProof.Rows

/-- the tests of a clause -/
def PTs (X : Cx) (ifs : List Expr) (t : TT) : Prop :=
  ∀ (pins : List (Addr × Obj)) (s : Shared) (σ : St) (H : Hp) (Q : Bool → Hp → Prop), Inv X pins σ H s → t σ H Q →
    wpAny (model X.prog X.w) X.A (forIn ifs true fun c r => if r = true then do let ok ← isTrue c X.env (eval c X.env); pure (ForInStep.yield ok) else pure (ForInStep.yield r)) (TP X pins σ Q) X.xe s
def tYes : TT := fun _ H Q => Q true H
theorem pts_nil {X : Cx} : PTs X [] tYes := fun _ _ σ H Q I h => wpAny_tests_nil ⟨H, I, h⟩
theorem pts_one {X : Cx} {c : Expr} {t : TT} (h : PT X c t) : PTs X [c] t := fun pins s σ H Q I q => wpAny_tests_one (h pins s σ H Q I q)

/-- the turns, by a word W of turn, measure, what was gathered, values, heap -/
def lcTurn (J : It) (D : Addr) (g : TG) (tt : TT) (te : TE) (Q : Hp → Prop) (W : Nat → Nat → List V → St → Hp → Prop) : Prop :=
  ∀ i m ys σ H, W i m ys σ H → (J.stop i H ∧ Q H) ∨ (J.go i H ∧ ∀ x H', J.yld i H x H' → g x σ H' fun σ2 H2 => tt σ2 H2 fun b H3 =>
    if b = true then te σ2 H3 fun y H4 => H4 D = some (.lst ys) ∧ ys.length < sizeLine ∧ ∃ m', m' < m ∧ W (i + 1) m' (ys ++ [y]) σ2 (upd H4 D (.lst (ys ++ [y])))
    else ∃ m', m' < m ∧ W (i + 1) m' ys σ2 H3)
def tLC (ks : List Bool) (e : Nat) (wi : TI) (g : TG) (tt : TT) (te : TE) : TE := fun σ H Q => wi σ H fun J H1 => ∀ D, H1 D = none →
  ∃ W : Nat → Nat → List V → St → Hp → Prop, (∃ m, W 0 m [] (mask ks σ ++ List.replicate e none) (upd H1 D (.lst []))) ∧ lcTurn J D g tt te (fun H2 => Q (.ref D) H2) W

structure Blk (X : Cx) (scope : Scope) (ext : List Str) (tg : Expr) (ifs : List Expr) (elt : Expr) (g : TG) (tt : TT) (te : TE) : Prop where
  pg : ∀ cl C fp s₀ H₀, PG (cxLC X scope cl ext C fp s₀ H₀) tg g
  pt : ∀ cl C fp s₀ H₀, PTs (cxLC X scope cl ext C fp s₀ H₀) ifs tt
  pe : ∀ cl C fp s₀ H₀, PE (cxLC X scope cl ext C fp s₀ H₀) elt te

theorem lc_core {X : Cx} {elt tg iter : Expr} {ifs : List Expr} {scope : Scope} {pos : Pos} {ks : List Bool} {ext : List Str} {g : TG} {tt : TT} {te : TE} {pins : List (Addr × Obj)} {σ : St} {H2 : Hp} {s2 : Shared} {cl : List (Str × Addr)}
    {it : Addr} {fp : List Addr} {tn : Nat → Heap → Prop} {J : It} {RR : Value → Addr → Result → Shared → Prop} {QD : Addr → Hp → Prop} {E : Value → Shared → Prop}
    (S : LcS X.env.scope.names scope.names X.N ks) (hkind : scope.kind = .function) (hc : X.calm = true) (B : Blk X scope ext tg ifs elt g tt te)
    (c1 : ∀ x c, cl.lookup x = some c → X.env.cells.lookup x = some c) (c2 : ∀ x, (x, NameKind.free) ∈ scope.names → ∃ c, cl.lookup x = some c)
    (I2 : Inv X pins σ H2 s2) (T : Turn X.prog X.w X.K tg J fp it tn) (st2 : tn 0 s2.heap) (f2 : ∀ b ∈ fp, FpOk X pins H2 b)
    (hW : ∀ D, H2 D = none → ∃ W : Nat → Nat → List V → St → Hp → Prop, (∃ m, W 0 m [] (mask ks σ ++ List.replicate ext.length none) (upd H2 D (.lst []))) ∧ lcTurn J D g tt te (QD D) W)
    (hRR : ∀ D C s4 H' m, Inv X pins σ H' s4 → FpOk X pins H' C → s4.heap.Ns C m → QD D H' → RR (.ref D) C (.ok .next) s4) :
    wpAny (model X.prog X.w) X.A (newList []) (fun acc s₃ => wpAny (model X.prog X.w) X.A (newFunctionEnv scope X.env.globals cl [] X.env.qual none .none (some X.env)) (fun cenv s₄ =>
      codeAny (model X.prog X.w) X.A (.compStart (.ListComp elt [⟨tg, iter, ifs, 0⟩] scope pos) 0 (.ref it) acc { cenv with scope := relabel scope X.env }) (RR acc cenv.locals) s₄) E s₃) E s2 := by
  have hcell : ∀ y ∈ scope.names, y.2 ≠ .cell := S.nocell
  refine wpAny_newObj_type (wpAny_newFunctionEnv hcell (by intro y hy; simp at hy) (fun h₁ hns₁ hsb₁ => ?_) hkind)
  dsimp only at hns₁ hsb₁ ⊢
  have fD : H2 s2.heap.objs.size = none := I2.hok.fresh (Nat.le_refl _)
  have I3 : Inv X pins σ (upd H2 s2.heap.objs.size (.lst [])) { s2 with heap := s2.heap.push { cls := .type "list", dict := none, data := .seq ([] : List Value).toArray } } :=
    I2.laid (t' := s2.toks) (fun b u e => Heap.get?_push_of_some _ e) (Nat.le_refl _) ⟨Nat.zero_le _, [], 0, .nil, Heap.get?_push_size _ rfl⟩
  obtain ⟨W, ⟨m0, w0⟩, turn⟩ := hW s2.heap.objs.size fD
  generalize hH3 : s2.heap.push { cls := .type "list", dict := none, data := .seq ([] : List Value).toArray } = h3 at hns₁ hsb₁ I3 ⊢
  have hsz : h3.objs.size = s2.heap.objs.size + 1 := by rw [← hH3, Heap.size_push]
  have hlt2 : ∀ b ∈ fp, b < s2.heap.objs.size := fun b hb => let ⟨o, e, _⟩ := T.obj 0 _ st2 b hb; Heap.lt_size e
  have hlt : ∀ b ∈ fp, b < h3.objs.size := fun b hb => Nat.lt_of_lt_of_eq (Nat.lt_succ_of_lt (hlt2 b hb)) hsz.symm
  have f3 : ∀ b ∈ fp, FpOk X pins (upd H2 s2.heap.objs.size (.lst [])) b := fun b hb => ⟨by rw [upd_ne (Nat.ne_of_lt (hlt2 b hb))]; exact (f2 b hb).1, (f2 b hb).2⟩
  have hk : ∀ b o, h3.get? b = some o → h₁.get? b = some o := fun b o e => hsb₁.extBut b o (Nat.ne_of_lt (Heap.lt_size e)) (Heap.get?_push_of_some _ e)
  have I4 : Inv (cxLC X scope cl ext h3.objs.size fp { s2 with heap := h3 } (upd H2 s2.heap.objs.size (.lst []))) [] (mask ks σ ++ List.replicate ext.length none) (upd H2 s2.heap.objs.size (.lst [])) { s2 with heap := h₁, toks := s2.toks + ([] : List (Str × Value)).length } :=
    inv_lc (C := h3.objs.size) I3 S hkind c1 c2 f3 hlt rfl (by simpa using hns₁) hk
  have st4 : tn 0 h₁ := T.keep _ _ _ st2 fun b hb o e => hk b o (by rw [← hH3]; exact Heap.get?_push_of_some _ e)
  have stat : ∀ {H' : Hp} {p' : List (Addr × Obj)}, p' = [] → (∀ b ∈ fp, H' b = none) → ∀ b ∈ fp, FpOk (cxLC X scope cl ext h3.objs.size fp { s2 with heap := h3 } (upd H2 s2.heap.objs.size (.lst []))) p' H' b := fun {H' p'} hp hn b hb => by
    subst hp
    exact ⟨hn b hb, (I4.ok.exf b hb).1, I4.ok.exfs b hb, .inl hb, fun x c e => (I4.ok.exf b hb).2 x c e, fun p hp => absurd (show p ∈ ([] : List (Addr × Obj)) from hp) (by simp)⟩
  have loop : ∀ s₃ : Shared, s₃ = { s2 with heap := h₁, toks := s2.toks + ([] : List (Str × Value)).length } →
      codeAny (model X.prog X.w) X.A (.compLoop (.ListComp elt [⟨tg, iter, ifs, 0⟩] scope pos) 0 (.ref it) (.ref s2.heap.objs.size) (compEnvC scope cl h3.objs.size X.env)) (RR (.ref s2.heap.objs.size) h3.objs.size) s₃ := by
    rintro s₃ rfl
    refine compLoop_own (fun n s' => ∃ i ys σ' H', Inv (cxLC X scope cl ext h3.objs.size fp { s2 with heap := h3 } (upd H2 s2.heap.objs.size (.lst []))) [] σ' H' s' ∧ tn i s'.heap ∧ (∀ b ∈ fp, H' b = none) ∧ W i n ys σ' H') ?_ m0
      ⟨0, [], _, _, I4, st4, fun b hb => (f3 b hb).1, w0⟩
    rintro n s' ⟨i, ys, σ', H', I', st', fr', w'⟩
    rcases turn i n ys σ' H' w' with ⟨stop, q⟩ | ⟨go, step⟩
    · refine thn (T.done (cxLC X scope cl ext h3.objs.size fp { s2 with heap := h3 } (upd H2 s2.heap.objs.size (.lst []))) rfl rfl rfl hc i [] s' σ' H' _ I' (stat rfl fr') st' stop) fun r s4 ⟨hr, J4⟩ => ?_
      subst hr
      show RR (.ref s2.heap.objs.size) h3.objs.size (.ok .next) s4
      obtain ⟨m, hn, _⟩ := J4.loc
      have fC : H' h3.objs.size = none := J4.free
      have IX : Inv X pins σ H' s4 := I3.call' (ch := fp) J4.os J4.base J4.hok J4.bare fun b hb => ⟨(f3 b hb).2.2.2.1, (f3 b hb).2.1, (f3 b hb).2.2.2.2.1, (f3 b hb).2.2.2.2.2⟩
      exact hRR _ _ s4 H' m IX (I3.fpOk (Nat.le_refl _) fC) hn q
    · refine thn (T.item (cxLC X scope cl ext h3.objs.size fp { s2 with heap := h3 } (upd H2 s2.heap.objs.size (.lst []))) rfl rfl rfl hc i [] s' σ' H' _ I' (stat rfl fr') st' go) fun r s4 ⟨u, hr, h4⟩ => ?_
      subst hr
      refine thn h4 fun _ s5 ⟨x, H5, I5, r5, y5, st5, fr5⟩ => ?_
      have I5' := I5.pinned (stat rfl fr5) (T.obj _ _ st5)
      refine thn (B.pg _ _ _ _ _ _ s5 σ' H5 x u _ I5' r5 (step x H5 y5)) fun _ s6 ⟨σ6, H6, I6, q6⟩ => ?_
      refine thn (B.pt _ _ _ _ _ _ s6 σ6 H6 _ I6 q6) fun ok s7 ⟨H7, I7, q7⟩ => ?_
      have again : ∀ {σ7 : St} {H8 : Hp} {s8 : Shared} {ys' : List V} {m' : Nat}, Inv (cxLC X scope cl ext h3.objs.size fp { s2 with heap := h3 } (upd H2 s2.heap.objs.size (.lst []))) ([] ++ pinsAt fp s5.heap) σ7 H8 s8 → m' < n → W (i + 1) m' ys' σ7 H8 →
          ∃ m, m < n ∧ ∃ i ys σ' H', Inv (cxLC X scope cl ext h3.objs.size fp { s2 with heap := h3 } (upd H2 s2.heap.objs.size (.lst []))) [] σ' H' s8 ∧ tn i s8.heap ∧ (∀ b ∈ fp, H' b = none) ∧ W i m ys σ' H' := fun {σ7 H8 s8 ys' m'} I8 hm w8 => by
        refine ⟨m', hm, i + 1, ys', σ7, H8, I8.unpinned, T.keep _ _ _ st5 fun b hb o e => (I8.pin (b, o) (List.mem_append_right _ (List.mem_append_right _ (mem_pinsAt hb e)))).1, fun b hb => ?_, w8⟩
        obtain ⟨o, e, d⟩ := T.obj _ _ st5 b hb
        exact (I8.pin (b, o) (List.mem_append_right _ (List.mem_append_right _ (mem_pinsAt hb e)))).2.1
      cases ok with
      | false =>
        obtain ⟨m', hm, w7⟩ := (show ∃ m', m' < n ∧ W (i + 1) m' ys σ6 H7 from q7)
        exact again I7 hm w7
      | true =>
        rw [if_pos rfl] at q7 ⊢
        refine thn (B.pe _ _ _ _ _ _ s7 σ6 H7 _ I7 q7) fun yv s8 ⟨y, H8, I8, r8, e8, z8, m', hm, w8⟩ => ?_
        refine thn (mt_append _ s8 σ6 H8 (.ref s2.heap.objs.size) [y] (.ref s2.heap.objs.size) [yv] (fun _ H9 => H9 = upd H8 s2.heap.objs.size (.lst (ys ++ [y]))) I8 rfl (.cons r8 .nil) ⟨_, ys, y, rfl, rfl, e8, z8, rfl⟩) fun _ s9 ⟨_, H9, I9, _, e9⟩ => ?_
        subst e9
        exact again I9 hm w8
  exact codeAny_compStart_list (loop _ rfl) (T.self _ 0 _ _ _ st4 (loop _ rfl))

section
variable {X : Cx} {elt tg iter : Expr} {ifs : List Expr} {scope : Scope} {pos : Pos} {ks : List Bool} {ext : List Str} {wi : TI} {g : TG} {tt : TT} {te : TE}

theorem lc_clos {pins : List (Addr × Obj)} {σ : St} {H : Hp} {s : Shared} (I : Inv X pins σ H s) (S : LcS X.env.scope.names scope.names X.N ks) :
    ∃ cl, closureFor scope X.env = pure cl ∧ (∀ x c, cl.lookup x = some c → X.env.cells.lookup x = some c) ∧ (∀ x, (x, NameKind.free) ∈ scope.names → ∃ c, cl.lookup x = some c) :=
  closure_of fun y hy hf => I.ok.has y.1 (S.fv y hy hf)

/-- [e for x in iter if ..] -/
theorem pe_lc (S : LcS X.env.scope.names scope.names X.N ks) (hc : X.calm = true) (hi : PI X tg iter wi) (B : Blk X scope ext tg ifs elt g tt te) (hkind : scope.kind = .function := by rfl)
    (hs : ∀ x, foldedSetIterable iter X.env x = pure x := by intro _; rfl) : PE X (.ListComp elt [⟨tg, iter, ifs, 0⟩] scope pos) (tLC ks ext.length wi g tt te) := by
  intro pins s σ H Q I h
  obtain ⟨cl, hcl, c1, c2⟩ := lc_clos I S
  rw [eval_ListComp]
  refine wpAny_comprehension_free (use := none) rfl hs hcl hkind S.loc (thn (hi pins s σ H _ I h) fun v s1 h1 => thn h1 fun itv s2 h2 => ?_)
  obtain ⟨it, fp, tn, J, H2, e, I2, T, st2, f2, hW⟩ := h2
  subst e
  refine lc_core (RR := fun acc C => compPost (model X.prog X.w) X.A X.xe none (EP X pins σ Q) acc C) (QD := fun D H' => Q (.ref D) H') S hkind hc B c1 c2 I2 T st2 f2 hW fun D C s4 H' m I4 fC hn q => ?_
  refine ⟨m, hn, fun h' sb => ⟨.ref D, H', ?_, rfl, q⟩⟩
  exact I4.turned (t' := s4.toks) (fun b o hb e => (sb.2 b hb).trans e) fC.1 fC.2.1 fC.2.2.2.1 fC.2.2.2.2.1 fC.2.2.2.2.2

/-- y = [e for x in iter if ..], y a plain local -/
theorem ps_lc {i : Nat} {y : Str} {py spos : Pos} (hN : X.N.Nodup) (hiN : X.N[i]? = some y) (hy : X.env.scope.names.lookup y = some .local) (S : LcS X.env.scope.names scope.names X.N ks) (hc : X.calm = true) (hi : PI X tg iter wi) (B : Blk X scope ext tg ifs elt g tt te) (hkind : scope.kind = .function := by rfl)
    (hsw : swapsWith (.ListComp elt [⟨tg, iter, ifs, 0⟩] scope pos) (some (.Name y py)) spos.line X.env = pure true := by rfl)
    (hs : ∀ x, foldedSetIterable iter X.env x = pure x := by intro _; rfl) : PS X (.Assign [.Name y py] (.ListComp elt [⟨tg, iter, ifs, 0⟩] scope pos) spos) (tAsg (tLC ks ext.length wi g tt te) (gName i)) := by
  intro pins s σ H D I h
  obtain ⟨cl, hcl, c1, c2⟩ := lc_clos I S
  rw [exec_Assign_Name_used _ _ _ _ hsw]
  refine wpAny_bind (wpAny_standAt (wpAny_bind ?_))
  show wpAny _ X.A (do let _ ← comprehension (.ListComp elt [⟨tg, iter, ifs, 0⟩] scope pos) scope X.env _ (newList []) false (eval iter X.env) (some (assign (.Name y py) X.env))) _ _ s
  refine wpAny_bind (wpAny_mono (wpAny_comprehension_free (use := some (assign (.Name y py) X.env)) (Q := fun _ s' => SP X pins D .next s') rfl hs hcl hkind S.loc
    (thn (hi pins s σ H _ I h) fun v s1 h1 => thn h1 fun itv s2 h2 => ?_)) (fun _ s' hq => wpAny_pure (wpAny_pure hq)) fun _ _ e => e)
  obtain ⟨it, fp, tn, J, H2, e, I2, T, st2, f2, hW⟩ := h2
  subst e
  refine lc_core (RR := fun acc C => compPost (model X.prog X.w) X.A X.xe (some (assign (.Name y py) X.env)) (fun _ s' => SP X pins D .next s') acc C) (QD := fun Dl H' => D.nx (σ.set i (some (.ref Dl))) H') S hkind hc B c1 c2 I2 T st2 f2 hW fun Dl C s4 H' m I4 fC hn q => ?_
  show wpAny _ X.A (assign (.Name y py) X.env (.ref Dl)) _ _ _
  refine wpAny_assign_Name (store_ok2 I4 hN hiN (.inl hy) (v := .ref Dl) rfl (fun s5 I5 ⟨a, sb, ha⟩ => ?_) (.inr hy))
  have hCa : C ≠ a := by
    rcases ha with rfl | ha
    · exact fC.2.1
    · exact fun z => fC.2.2.2.2.1 y a ha z.symm
  refine ⟨m, hn.sameBut sb hCa, fun h' sb' => ⟨_, H', ?_, q⟩⟩
  exact I5.turned (t' := s5.toks) (fun b o hb e => (sb'.2 b hb).trans e) fC.1 fC.2.1 fC.2.2.2.1 fC.2.2.2.2.1 fC.2.2.2.2.2
end

/-! ### forms -/
/-- over a list: what passes the test p becomes f, the tracked heap stays -/
theorem lc_list {K : PySem.W.Frag} {a : Addr} {xs : List V} {i : Nat} {tt : TT} {te : TE} {σ : St} {H : Hp} {D : Addr} {Q : Hp → Prop} (p : V → Bool) (f : V → V) (hl : ∀ ys, SqL K (upd H D (.lst ys)) a xs) (hn : xs.length ≤ sizeLine)
    (ht : ∀ (k : Nat) x (v : Option V) (ys : List V) (R : Bool → Hp → Prop), xs[k]? = some x → (∀ H', H' = upd H D (.lst ys) → R (p x) H') → tt ((σ.set i v).set i (some x)) (upd H D (.lst ys)) R)
    (hs : ∀ (k : Nat) x (v : Option V) (ys : List V) (R : VK), xs[k]? = some x → p x = true → (∀ H', H' = upd H D (.lst ys) → R (f x) H') → te ((σ.set i v).set i (some x)) (upd H D (.lst ys)) R)
    (hq : ∀ H', H' = upd H D (.lst ((xs.filter p).map f)) → Q H') :
    ∃ W : Nat → Nat → List V → St → Hp → Prop, (∃ m, W 0 m [] σ (upd H D (.lst []))) ∧ lcTurn (Itl K a) D (gName i) tt te Q W := by
  refine ⟨fun k m ys σ' H' => m = xs.length - k ∧ k ≤ xs.length ∧ ys = ((xs.take k).filter p).map f ∧ (σ' = σ ∨ ∃ v, σ' = σ.set i v) ∧ H' = upd H D (.lst ys), ⟨xs.length, by simp⟩, ?_⟩
  rintro k m ys σ' H' ⟨rfl, hk, rfl, hσ, rfl⟩
  by_cases hlt : k < xs.length
  · refine .inr ⟨⟨xs, xs[k], hl _, by simp [hlt]⟩, fun x H2 hy => ?_⟩
    obtain ⟨rfl, hy⟩ := hy
    have hx := hy xs (hl _)
    have ex : xs[k] = x := by have := hx; simp [hlt] at this; exact this
    show tt (σ'.set i _) _ _
    have hσ' : ∃ v, σ'.set i (some x) = (σ.set i v).set i (some x) := by
      rcases hσ with rfl | ⟨v, rfl⟩
      · exact ⟨none, by rw [List.set_set]⟩
      · exact ⟨v, rfl⟩
    obtain ⟨v, ev⟩ := hσ'
    have hσ2 : ∃ v', σ'.set i (some x) = σ.set i v' := ⟨some x, by rw [ev, List.set_set]⟩
    have etake : xs.take (k + 1) = xs.take k ++ [x] := by rw [List.take_succ, hx]; rfl
    rw [ev]
    refine ht k x v _ _ hx fun H3 e => ?_
    subst e
    cases hp : p x with
    | true =>
      rw [if_pos rfl]
      refine hs k x v _ _ hx hp fun H4 e => ?_
      subst e
      refine ⟨upd_same, ?_, xs.length - (k + 1), by omega, rfl, hlt, ?_, by rw [← ev]; exact .inr hσ2, upd_upd⟩
      · rw [List.length_map]
        have := List.length_filter_le p (xs.take k)
        rw [List.length_take] at this
        omega
      · rw [etake, List.filter_append, List.map_append]; simp [hp]
    | false =>
      rw [if_neg Bool.false_ne_true]
      refine ⟨xs.length - (k + 1), by omega, rfl, hlt, ?_, by rw [← ev]; exact .inr hσ2, rfl⟩
      rw [etake, List.filter_append]; simp [hp]
  · have e : k = xs.length := by omega
    subst e
    refine .inl ⟨⟨xs, hl _, Nat.le_refl _⟩, hq _ (by rw [List.take_length])⟩
end L2

namespace L2
open PySem PySem.Spec PyProof.Rows
end L2

set_option Elab.async false
set_option linter.all false
set_option maxRecDepth 100000
set_option maxHeartbeats 4000000
/-! Rules over the hand layer: sets of ints, all, isinstance, == of lists. Own work. -/
namespace L2
open PySem PySem.Spec PyProof.Rows SI
theorem len_le_of_sub {α : Type} [DecidableEq α] : ∀ {l m : List α}, l.Nodup → (∀ z ∈ l, z ∈ m) → l.length ≤ m.length
  | [], m, _, _ => Nat.zero_le _
  | x :: l, m, hn, h => by
    rw [List.nodup_cons] at hn
    have hx : x ∈ m := h x List.mem_cons_self
    have ih := len_le_of_sub (l := l) (m := m.erase x) hn.2 (fun z hz => by
      have hz' := h z (List.mem_cons_of_mem _ hz)
      have hne : z ≠ x := fun e => hn.1 (e ▸ hz)
      exact (List.mem_erase_of_ne hne).mpr hz')
    rw [List.length_erase_of_mem hx] at ih
    have : 0 < m.length := List.length_pos_of_mem hx
    simp only [List.length_cons]
    omega

section
variable {X : Cx}




/-- all(a list of bools) -/
theorem call_allB (hc : X.calm = true) : CallR X (.builtin "all") (fun xs H Q => ∃ (p : Addr) (bs : List Bool), xs = [.ref p] ∧ SqL X.K H p (bs.map V.bl) ∧ Q (.bl (bs.all id)) H) := by
  intro pins s σ H xs us Q I r h
  obtain ⟨p, bs, rfl, hq, q⟩ := h
  obtain ⟨u, rfl, rx⟩ := vals1 r
  cases rx
  obtain ⟨its, rv, pl, hz⟩ := I.list hq
  have hlen : bs.length = its.length := by have := rv.length; rw [List.length_map] at this; exact this
  have hp : p < s.heap.objs.size := by obtain ⟨o, ho, _⟩ := pl.isList; exact Heap.lt_size ho
  refine call_all_walk (wpAny_pyIter_list pl.isList ?_)
  refine ⟨s.heap.objs.size, _, _, _, _, _, fun i => bs.getD i true, rfl, Walks.list (by simpa using I.ok.hd hc) s.heap.objs.size p (Nat.ne_of_lt hp) its.toArray, ⟨⟨_, Heap.get?_push_size _ rfl, rfl, rfl⟩, pl.isList.push _⟩, ?_, fun h' tk hk => ?_⟩
  · intro i v s' Q' E' hv hq'
    have hv' : its[i]? = some v := by simpa using hv
    have hb : bs[i]? = some (bs.getD i true) := by
      have hi : i < its.length := (List.getElem?_eq_some_iff.mp hv').1
      have hi' : i < bs.length := by omega
      simp [List.getD, hi']
    obtain ⟨u, hu, ru⟩ := rv.get (i := i) (x := .bl (bs.getD i true)) (by rw [List.getElem?_map, hb]; rfl)
    rw [hv'] at hu
    cases hu
    cases (show v = Value.bool (bs.getD i true) from ru)
    exact wpAny_truthy_bool hq'
  · have hf := I.fpOk (H' := H) (Nat.le_refl s.heap.objs.size) (I.hok.fresh (Nat.le_refl _))
    have I1 : Inv X pins σ H { s with heap := h', toks := tk } := I.turned (it := s.heap.objs.size) (fun b o hb e => hk b o (by simpa using hb) (Heap.get?_push_of_some _ e)) hf.1 hf.2.1 (.inr I.sz) hf.2.2.2.2.1 hf.2.2.2.2.2
    refine ⟨.bl (bs.all id), H, I1, ?_, q⟩
    show Value.bool _ = Value.bool _
    congr 1
    have e : (List.range its.toArray.size).map (fun i => bs.getD i true) = bs := by
      apply List.ext_getElem?
      intro i
      rw [List.getElem?_map, List.size_toArray]
      by_cases hi : i < bs.length
      · have hi2 : i < its.length := by omega
        simp [hi, hi2]
      · have hi2 : ¬ i < its.length := by omega
        simp [hi, hi2]
    conv => rhs; rw [← e]
    rw [List.all_map]
    rfl

/-- a class, as a value -/
def clsV : V → Option Value
  | .ty n => some (.type n)
  | .ref C => some (.ref C)
  | _ => none
theorem clsV_of {c : V} {cv u : Value} (h : clsV c = some cv) (r : RelV c u) : u = cv := by
  cases c with
  | ty n => cases h; exact r
  | ref C => cases h; exact r
  | _ => cases h
/-- isinstance(x, c) -/
theorem call_isI : CallR X (.builtin "isinstance") (fun xs H Q => ∃ (x c : V) (cv t : Value) (b : Bool), xs = [x, c] ∧ clsV c = some cv ∧ TyOf X.K H x t ∧ PySem.W.kitOne X.K t cv = some b ∧ Q (.bl b) H) := by
  intro pins s σ H xs us Q I r h
  obtain ⟨x, c, cv, t, b, rfl, hcv, ty, hk, q⟩ := h
  obtain ⟨u, w', rfl, r1, r2⟩ := vals2 r
  have e := clsV_of hcv r2
  subst e
  exact isinst_ok I r1 ty hk fun tk => ⟨.bl b, H, I.tok tk, rfl, q⟩

end

theorem bt_len : bootBuiltins "len" = some (.builtin "len") := by decide +kernel
theorem bt_list : bootBuiltins "list" = some (.type "list") := by decide +kernel
theorem bt_all : bootBuiltins "all" = some (.builtin "all") := by decide +kernel
theorem bt_isinstance : bootBuiltins "isinstance" = some (.builtin "isinstance") := by decide +kernel
theorem bt_bool : bootBuiltins "bool" = some (.type "bool") := by decide +kernel
theorem bt_int : bootBuiltins "int" = some (.type "int") := by decide +kernel
theorem same_upd {H : Hp} {l : Addr} {o : HO} (h : H l = none) : Same H (upd H l o) := fun b u e => by
  rw [upd_ne (ne_of_none e h)]; exact e
end L2

set_option Elab.async false
set_option linter.all false
set_option maxRecDepth 100000
set_option maxHeartbeats 4000000
/-! Rules over the hand layer: != of lists, sum, list(range(..)), bit_length. Own work. -/
namespace L2
open PySem PySem.Spec PyProof.Rows SI
section
variable {X : Cx}
/-- n.bit_length() -/
def rBitLen : V → List V → Hp → VK → Prop := fun x vs H Q => ∃ i, x = .int i ∧ vs = [] ∧ Q (.int (Builtin.Int.intBits i : Nat)) H
theorem mt_bitlen : MtR X "int.bit_length" rBitLen := by
  intro pins s σ H x xs v us Q I rx rs h
  obtain ⟨i, rfl, rfl, q⟩ := h
  obtain ⟨t, rfl⟩ := rx
  cases rs
  exact call_int_bit_length ⟨.int _, H, I.tok _, ⟨_, rfl⟩, q⟩
end
end L2

set_option Elab.async false
set_option linter.all false
set_option maxRecDepth 100000
set_option maxHeartbeats 4000000
/-! Rules over the hand layer: classes' functions, methods by class, pairs walked (enumerate, zip), tuples compared, is. Own work. -/
namespace L2
open PySem PySem.Spec PyProof.Rows SI
/-! ### records of an iterator that is more than one object -/
section
variable {X : Cx} {pins : List (Addr × Obj)} {σ : St} {H : Hp} {s : Shared} {h' : Heap}
end

/-! ### enumerate(a list), walked by a target of two -/
section
variable {X : Cx}
end

/-! ### zip(a list, a list), walked by a target of two -/
section
variable {X : Cx}
end
end L2

set_option Elab.async false
set_option linter.all false
set_option maxRecDepth 100000
set_option maxHeartbeats 4000000
/-! Rules over the hand layer: a class's function by the class, a method by the instance's class, max with a default, tuples compared, is, defs with defaults, comprehensions that make things. Own work. -/
namespace L2
open PySem PySem.Spec PyProof.Rows SI
/-! ### C.m(..) -/
section
variable {X : Cx} {CX : CXT} {k : Nat} {f C : Addr} {fd : FuncData} {ps : List Str} {sp : Sp} {dvs : List V} {ds : List Value} {E : XK} {x m : Str} {p pos apos : Pos} {e o : Expr} {es : List Expr} {ta : TE} {t : TA}

/-! ### o.m(..), by the class of o -/
end

/-! ### a def with defaults -/
section
variable {P : Program} {w : World} {K : PySem.W.Frag} {mg : Str → Option Value} {base : Heap}
end

/-! ### max(a list of ints, default = d) -/
section
variable {prog : Program} {w : World} {A : Around} {R : Result → Shared → Prop}
end
end L2

set_option Elab.async false
set_option linter.all false
set_option maxRecDepth 100000
set_option maxHeartbeats 4000000
/-! Rules over the hand layer: max with a default, tuples compared, is, comprehensions that make things. Own work. -/
namespace L2
open PySem PySem.Spec PyProof.Rows SI
section
variable {X : Cx}
/-! ### tuples compared -/
/-! ### is, of bools -/
end
/-! ### comprehensions over a list, of which each element may make things -/
end L2

set_option Elab.async false
set_option linter.all false
set_option maxRecDepth 100000
set_option maxHeartbeats 4000000
/-! Rules over the hand layer: lists of different length compared, whatever they hold. Own work. -/
namespace L2
open PySem PySem.Spec PyProof.Rows SI
section
variable {X : Cx}
end
end L2

set_option Elab.async false
set_option linter.all false
set_option maxRecDepth 100000
set_option maxHeartbeats 4000000
/-! Comprehensions over enumerate, zip, range, whatever their elements do. Own work. -/
namespace L2
open PySem PySem.Spec PyProof.Rows
theorem lc_gen {J : It} {n : Nat} {g : TG} {tt : TT} {te : TE} {σ : St} {H : Hp} {D : Addr} {Q : Hp → Prop} (P : Nat → List V → St → Hp → Prop) (h0 : P 0 [] σ (upd H D (.lst [])))
    (hs : ∀ k ys σ' H', k < n → P k ys σ' H' → J.go k H' ∧ ∀ x H1, J.yld k H' x H1 → g x σ' H1 (fun σ2 H2 => tt σ2 H2 fun b H3 =>
      if b = true then te σ2 H3 fun y H4 => H4 D = some (.lst ys) ∧ ys.length < sizeLine ∧ ∃ m', m' < n - k ∧ m' = n - (k + 1) ∧ k + 1 ≤ n ∧ P (k + 1) (ys ++ [y]) σ2 (upd H4 D (.lst (ys ++ [y]))) else ∃ m', m' < n - k ∧ m' = n - (k + 1) ∧ k + 1 ≤ n ∧ P (k + 1) ys σ2 H3))
    (hd : ∀ ys σ' H', P n ys σ' H' → J.stop n H' ∧ Q H') :
    ∃ W : Nat → Nat → List V → St → Hp → Prop, (∃ m, W 0 m [] σ (upd H D (.lst []))) ∧ lcTurn J D g tt te Q W := by
  refine ⟨fun k m ys σ' H' => m = n - k ∧ k ≤ n ∧ P k ys σ' H', ⟨n, by simp, Nat.zero_le _, h0⟩, ?_⟩
  rintro k m ys σ' H' ⟨rfl, hk, hP⟩
  by_cases hlt : k < n
  · exact .inr (hs k ys σ' H' hlt hP)
  · have e : k = n := by omega
    subst e
    exact .inl (hd ys σ' H' hP)
/-- what stands behind a turn -/
def Beh (n k : Nat) (P : Nat → List V → St → Hp → Prop) (ys : List V) (σ : St) (H : Hp) : Prop := ∃ m', m' < n - k ∧ m' = n - (k + 1) ∧ k + 1 ≤ n ∧ P (k + 1) ys σ H
theorem Beh.of {n k : Nat} {P : Nat → List V → St → Hp → Prop} {ys : List V} {σ : St} {H : Hp} (hk : k < n) (h : P (k + 1) ys σ H) : Beh n k P ys σ H := ⟨n - (k + 1), by omega, rfl, hk, h⟩
theorem lc_rng {lo : Int} {n : Nat} {g : TG} {tt : TT} {te : TE} {σ : St} {H : Hp} {D : Addr} {Q : Hp → Prop} (P : Nat → List V → St → Hp → Prop) (h0 : P 0 [] σ (upd H D (.lst [])))
    (hs : ∀ k ys σ' H', k < n → P k ys σ' H' → g (.int (lo + k)) σ' H' (fun σ2 H2 => tt σ2 H2 fun b H3 =>
      if b = true then te σ2 H3 fun y H4 => H4 D = some (.lst ys) ∧ ys.length < sizeLine ∧ Beh n k P (ys ++ [y]) σ2 (upd H4 D (.lst (ys ++ [y]))) else Beh n k P ys σ2 H3))
    (hd : ∀ ys σ' H', P n ys σ' H' → Q H') :
    ∃ W : Nat → Nat → List V → St → Hp → Prop, (∃ m, W 0 m [] σ (upd H D (.lst []))) ∧ lcTurn (Itr lo n) D g tt te Q W := by
  refine lc_gen (n := n) P h0 (fun k ys σ' H' hk hP => ⟨hk, fun x H1 y => ?_⟩) (fun ys σ' H' hP => ⟨Nat.le_refl _, hd ys σ' H' hP⟩)
  obtain ⟨rfl, rfl⟩ := y
  exact hs k ys σ' _ hk hP
end L2

set_option Elab.async false
set_option linter.all false
set_option maxRecDepth 100000
set_option maxHeartbeats 4000000
/-! A list times a bool; the items of a cut. Own work. -/
namespace L2
open PySem PySem.Spec PyProof.Rows
section
variable {X : Cx}
end
/-! ### cuts of a list -/
end L2

set_option linter.all false
/-! Signs of texts as lists of numbers: parts at one sign, words between blanks, padding. Own work. -/
namespace TX
end TX

set_option Elab.async false
set_option linter.all false
set_option maxRecDepth 100000
set_option maxHeartbeats 4000000
/-! Texts over the hand layer: their mathematics as lists of numbers; split, replace, startswith, walks over the signs, cuts, repeats. Own work. -/
namespace L2
open PySem PySem.Spec PyProof.Rows Builtin Builtin.Str
/-! ### texts as lists of numbers -/
def cpl (x : Str) : List Nat := x.cps.toList
def ofL (l : List Nat) : Str := ⟨l.toArray⟩
theorem cpl_ofL (l : List Nat) : cpl (ofL l) = l := by simp [cpl, ofL]
theorem ofL_cpl (x : Str) : ofL (cpl x) = x := by cases x; simp [cpl, ofL]
theorem cpl_len (x : Str) : (cpl x).length = x.length := by simp [cpl, Str.length]
theorem cpl_cat (x y : Str) : cpl (x ++ y) = cpl x ++ cpl y := by
  show (x ++ y).cps.toList = _
  rw [Str.cps_append, Array.toList_append]; rfl
/-! ### rules -/
section
variable {X : Cx}
/-- x[lo:hi] of a text -/
def rSlS : V → Option Int → Option Int → Hp → VK → Prop := fun x lo hi H Q => ∃ z, x = .str z ∧ z.length ≤ sizeLine ∧ Q (.str (Txt.slice z lo hi)) H
theorem sl_str : SlR X rSlS := by
  intro pins s σ H x v vl vu lo hi sl Q I rx hs pl pu h
  obtain ⟨z, rfl, hz, q⟩ := h
  obtain ⟨t, rfl⟩ := rx
  refine ⟨"str", _, F.slot_str_getitem.lookup, typeIs_str _ _ _, ?_⟩
  have fin : (Txt.slice z lo hi).length ≤ sizeLine ∧ ∀ t' k, EP X pins σ Q (.str (Txt.slice z lo hi) t') { s with toks := k } :=
    ⟨Nat.le_trans (Txt.slice_le z _ _) hz, fun t' k => ⟨.str _, H, I.tok _, ⟨t', rfl⟩, q⟩⟩
  cases pl with
  | none => cases pu with
    | none => exact wpAny_getItem_str_slice (l := none) (u := none) (st := none) hs rfl (post_val_or_str fin)
    | int j tj => exact wpAny_getItem_str_slice (l := none) (u := some (j, tj)) (st := none) hs rfl (post_val_or_str fin)
  | int i ti => cases pu with
    | none => exact wpAny_getItem_str_slice (l := some (i, ti)) (u := none) (st := none) hs rfl (post_val_or_str fin)
    | int j tj => exact wpAny_getItem_str_slice (l := some (i, ti)) (u := some (j, tj)) (st := none) hs rfl (post_val_or_str fin)
end
end L2

set_option Elab.async false
set_option linter.all false
set_option maxRecDepth 100000
set_option maxHeartbeats 4000000
/-! Texts over the hand layer: walks over the signs, repeats, replace behind a def's entry. Own work. -/
namespace L2
open PySem PySem.Spec PyProof.Rows Builtin Builtin.Str
section
variable {X : Cx} {tg : Expr}
/-- a text repeated -/
def rRepS : R2 := fun x y H Q => ∃ a k, x = .str a ∧ y = .int k ∧ 0 ≤ k ∧ k ≤ 1000000 ∧ a.length * k.toNat ≤ sizeLine ∧ a.length ≤ 1000000 ∧ Q (.str (ofL (List.replicate k.toNat (cpl a)).flatten)) H
theorem foldl_app (n : Nat) (a : Array Nat) : ∀ b : Array Nat, (List.foldl (· ++ ·) b (List.replicate n a)).toList = b.toList ++ (List.replicate n a.toList).flatten := by
  induction n with
  | zero => intro b; simp
  | succ n ih => intro b; rw [List.replicate_succ, List.foldl_cons, ih, Array.toList_append, List.replicate_succ, List.flatten_cons, List.append_assoc]
theorem op_repS : OpR X (binaryOp .Mult) rRepS := by
  intro pins s σ H x y v u Q I rx ry h
  obtain ⟨a, k, rfl, rfl, h0, h1, hz, hl, q⟩ := h
  obtain ⟨t, rfl⟩ := rx
  obtain ⟨t', rfl⟩ := ry
  have hfin : ∀ z : Str, cpl z = (List.replicate k.toNat (cpl a)).flatten → Q (.str z) H := fun z e => by
    rw [show z = ofL (List.replicate k.toNat (cpl a)).flatten from by rw [← e, ofL_cpl]]; exact q
  refine PySem.P.mul_str ?_ ?_ ?_ ?_
  · rw [decide_eq_false (by omega), decide_eq_false (by omega)]; rfl
  · intro g1 g2
    have hk : 1 ≤ k := by omega
    have : (1000000 : Int) ≤ (2 ^ 63 - 1) / k := (Int.le_ediv_iff_mul_le (by omega)).mpr (by omega)
    omega
  · intro g1 g2
    unfold tooLong
    exact decide_eq_false (by omega)
  · by_cases g1 : k < 1
    · rw [if_pos g1]
      have e : k = 0 := by omega
      subst e
      exact ⟨by decide, ⟨.str _, H, I.tok _, ⟨_, rfl⟩, hfin _ (by simp [cpl, Str.empty])⟩⟩
    · rw [if_neg g1]
      by_cases g2 : (k == 1 || a.length == 0) = true
      · rw [if_pos g2]
        refine ⟨.str a, H, I, ⟨t, rfl⟩, hfin a ?_⟩
        rcases Bool.or_eq_true .. ▸ g2 with g2 | g2
        · have e : k = 1 := by simpa using g2
          subst e
          simp
        · have e : cpl a = [] := List.length_eq_zero_iff.mp (by rw [cpl_len]; simpa using g2)
          rw [e]; simp
      · rw [if_neg g2]
        refine ⟨?_, ⟨.str _, H, I.tok _, ⟨_, rfl⟩, hfin _ ?_⟩⟩
        · show ((List.replicate k.toNat a.cps).foldl (· ++ ·) #[]).size ≤ sizeLine
          rw [← Array.length_toList, foldl_app]
          simp
          rw [Nat.mul_comm]; exact hz
        · show ((List.replicate k.toNat a.cps).foldl (· ++ ·) #[]).toList = _
          rw [foldl_app]; simp [cpl]
end
end L2

set_option Elab.async false
set_option linter.all false
set_option maxRecDepth 100000
set_option maxHeartbeats 4000000
/-! Behind a def's entry at least one token has been counted: str.replace with written texts. Own work. -/
namespace L2
open PySem PySem.Spec PyProof.Rows Builtin Builtin.Str
section
variable {X : Cx}
end
/-! ### the entry -/
section
variable {M : Model} {A : Around} {E : Value → Shared → Prop} {s₀ : Shared} {env : Env}
end
end L2

set_option Elab.async false
set_option linter.all false
set_option maxRecDepth 100000
set_option maxHeartbeats 4000000
/-! Texts over the hand layer: join. Own work. -/
namespace L2
open PySem PySem.Spec PyProof.Rows Builtin Builtin.Str
theorem strs_of_vals : ∀ {xs : List Str} {its : List Value}, Vals (xs.map V.str) its → ∃ l : List (Str × Tok), its = strValues l ∧ l.map (·.1) = xs
  | [], _, .nil => ⟨[], rfl, rfl⟩
  | x :: r, _, .cons ⟨t, e⟩ rr => by
    obtain ⟨l, e1, e2⟩ := strs_of_vals rr
    exact ⟨(x, t) :: l, by rw [e, e1]; rfl, by rw [List.map_cons, e2]⟩
section
variable {X : Cx}
def rJoin (K : PySem.W.Frag) : V → List V → Hp → VK → Prop := fun x vs H Q => ∃ a D xs, x = .str a ∧ vs = [.ref D] ∧ SqL K H D (xs.map V.str) ∧ JoinOk a xs = true ∧ Q (.str (Str.join a xs)) H
theorem mt_join : MtR X "str.join" (rJoin X.K) := by
  intro pins s σ H x xs v us Q I rx rs h
  obtain ⟨a, D, ts, rfl, rfl, hq, hok, q⟩ := h
  obtain ⟨t, rfl⟩ := rx
  obtain ⟨u, rfl, ru⟩ := vals1 rs
  cases ru
  obtain ⟨its, rv, pl, hz⟩ := I.list hq
  obtain ⟨l, rfl, hl⟩ := strs_of_vals rv
  refine SC.join pl.isList hl hok fun t' k => ⟨.str _, H, I.tok _, ⟨t', rfl⟩, ?_⟩
  show Q (.str (glued a ts)) H
  rw [StrLaws.glued_eq_join]
  exact q
end
theorem joinOk_of {a : Str} {xs : List Str} {B : Nat} (hB : ∀ y ∈ xs, y.length ≤ B) (h : xs.length * B + xs.length * a.length ≤ 16777216) : JoinOk a xs = true := by
  unfold JoinOk
  rw [StrLaws.joinFits hB h]; rfl
end L2
namespace TX
end TX
namespace L2
open PySem
end L2

set_option Elab.async false
set_option linter.all false
set_option maxRecDepth 100000
namespace L2
open PySem PySem.Spec PyProof.Rows

/-! ### lists of pairs as tables -/
section
variable {κ : Type} [DecidableEq κ]
def valV (kvs : List (κ × V)) (k : κ) : Option V := (kvs.find? fun kv => decide (kv.1 = k)).map (·.2)
/-- in its place, or at the end -/
def putK (kvs : List (κ × V)) (k : κ) (v : V) : List (κ × V) :=
  if (kvs.any fun kv => decide (kv.1 = k)) = true then kvs.map (fun kv => if kv.1 = k then (kv.1, v) else kv) else kvs ++ [(k, v)]

theorem valV_pos {p : κ × V} {r : List (κ × V)} {k : κ} (e : p.1 = k) : valV (p :: r) k = some p.2 := by simp [valV, List.find?_cons, e]
theorem valV_neg {p : κ × V} {r : List (κ × V)} {k : κ} (e : ¬ p.1 = k) : valV (p :: r) k = valV r k := by simp [valV, List.find?_cons, e]
theorem valV_any (k : κ) : ∀ kvs : List (κ × V), (kvs.any fun kv => decide (kv.1 = k)) = (valV kvs k).isSome
  | [] => rfl
  | p :: r => by
    rw [List.any_cons]
    by_cases e : p.1 = k
    · simp only [valV_pos e, decide_eq_true e, Bool.true_or, Option.isSome_some]
    · rw [valV_neg e, decide_eq_false e, Bool.false_or]; exact valV_any k r
theorem valV_map (k j : κ) (y : V) : ∀ kvs : List (κ × V), valV (kvs.map fun kv => if kv.1 = k then (kv.1, y) else kv) j = (valV kvs j).map fun x => if j = k then y else x
  | [] => rfl
  | p :: r => by
    have ih := valV_map k j y r
    rw [List.map_cons]
    by_cases h : p.1 = k
    · rw [if_pos h]
      by_cases e : p.1 = j
      · rw [valV_pos (p := (p.1, y)) e, valV_pos e, Option.map_some, if_pos (e.symm.trans h)]
      · rw [valV_neg (p := (p.1, y)) e, valV_neg e, ih]
    · rw [if_neg h]
      by_cases e : p.1 = j
      · rw [valV_pos (p := p) e, valV_pos e, Option.map_some, if_neg (fun z => h (e.trans z))]
      · rw [valV_neg (p := p) e, valV_neg e, ih]
theorem valV_snoc (k j : κ) (y : V) : ∀ kvs : List (κ × V), valV kvs k = none → valV (kvs ++ [(k, y)]) j = if j = k then some y else valV kvs j
  | [], _ => by
    by_cases e : k = j
    · rw [if_pos e.symm]; exact valV_pos (p := (k, y)) e
    · rw [if_neg (fun z => e z.symm)]; exact valV_neg (p := (k, y)) e
  | p :: r, hn => by
    rw [List.cons_append]
    have hk : ¬ p.1 = k := fun z => by rw [valV_pos z] at hn; cases hn
    rw [valV_neg hk] at hn
    have ih := valV_snoc k j y r hn
    by_cases e : p.1 = j
    · rw [valV_pos e, valV_pos e, if_neg (fun z => hk (e.trans z))]
    · rw [valV_neg e, valV_neg e, ih]
theorem valV_put (kvs : List (κ × V)) (k j : κ) (y : V) : valV (putK kvs k y) j = if j = k then some y else valV kvs j := by
  unfold putK
  by_cases a : (kvs.any fun kv => decide (kv.1 = k)) = true
  · rw [if_pos a, valV_map]
    rw [valV_any] at a
    by_cases e : j = k
    · obtain ⟨x, hx⟩ := Option.isSome_iff_exists.mp a
      rw [if_pos e, e, hx, Option.map_some, if_pos rfl]
    · rw [if_neg e]
      cases valV kvs j with
      | none => rfl
      | some x => rw [Option.map_some, if_neg e]
  · rw [if_neg a]
    refine valV_snoc k j y kvs ?_
    rw [valV_any] at a
    cases q : valV kvs k with
    | none => rfl
    | some x => rw [q] at a; exact (a rfl).elim
theorem length_putK (kvs : List (κ × V)) (k : κ) (v : V) : (putK kvs k v).length ≤ kvs.length + 1 := by
  unfold putK
  split
  · rw [List.length_map]; omega
  · rw [List.length_append, List.length_cons, List.length_nil]; omega

theorem RelO.isSome_eq {o : Option V} {u : Option Value} (r : RelO o u) : o.isSome = u.isSome := by
  cases o with
  | none => cases u with
    | none => rfl
    | some _ => exact (show False from r).elim
  | some _ => cases u with
    | none => exact (show False from r).elim
    | some _ => rfl
theorem RelO.getD {o : Option V} {u : Option Value} {d : V} {d' : Value} (r : RelO o u) (rd : RelV d d') : RelV (o.getD d) (u.getD d') := by
  cases o with
  | none => cases u with
    | none => exact rd
    | some _ => exact (show False from r).elim
  | some _ => cases u with
    | none => exact (show False from r).elim
    | some _ => exact r

/-- raw tables of the same keys -/
theorem KV.val {kvs : List (κ × V)} {vs : List (κ × Value)} (r : KV kvs vs) (k : κ) : RelO (valV kvs k) (valueAt vs k) := by
  unfold KV at r
  induction r with
  | nil => exact True.intro
  | @cons p q ps qs h t ih =>
    obtain ⟨h1, h2⟩ := h
    by_cases e : p.1 = k
    · have e' : q.1 = k := h1.symm.trans e
      have b : valueAt (q :: qs) k = some q.2 := by simp [valueAt, List.find?_cons, e']
      rw [valV_pos e, b]; exact h2
    · have e' : ¬ q.1 = k := fun z => e (h1.trans z)
      have b : valueAt (q :: qs) k = valueAt qs k := by simp [valueAt, List.find?_cons, e']
      rw [valV_neg e, b]; exact ih
theorem KV.any {kvs : List (κ × V)} {vs : List (κ × Value)} (r : KV kvs vs) (k : κ) : (kvs.any fun kv => decide (kv.1 = k)) = vs.any fun kv => decide (kv.1 = k) := by
  unfold KV at r
  induction r with
  | nil => rfl
  | cons h t ih => rw [List.any_cons, List.any_cons, ih, h.1]
theorem KV.repl {kvs : List (κ × V)} {vs : List (κ × Value)} (r : KV kvs vs) (k : κ) {y : V} {u : Value} (ry : RelV y u) :
    KV (kvs.map fun kv => if kv.1 = k then (kv.1, y) else kv) (vs.map fun kv => if kv.1 = k then (kv.1, u) else kv) := by
  unfold KV at r ⊢
  induction r with
  | nil => exact .nil
  | @cons p q ps qs h t ih =>
    rw [List.map_cons, List.map_cons]
    refine .cons ?_ ih
    obtain ⟨h1, h2⟩ := h
    by_cases e : p.1 = k
    · rw [if_pos e, if_pos (h1.symm.trans e)]; exact ⟨h1, ry⟩
    · rw [if_neg e, if_neg (fun z => e (h1.trans z))]; exact ⟨h1, h2⟩
theorem KV.put {kvs : List (κ × V)} {vs : List (κ × Value)} (r : KV kvs vs) (k : κ) {y : V} {u : Value} (ry : RelV y u) : KV (putK kvs k y) (stored vs k u) := by
  unfold putK stored
  rw [r.any k]
  by_cases e : (vs.any fun kv => decide (kv.1 = k)) = true
  · rw [if_pos e, if_pos e]; exact r.repl k ry
  · rw [if_neg e, if_neg e]; exact Paired.snoc r ⟨rfl, ry⟩
theorem KV.length {kvs : List (κ × V)} {vs : List (κ × Value)} (r : KV kvs vs) : kvs.length = vs.length := Paired.length r
end


/-! ### a tracked dict, its keys ints and texts or tuples of these -/
theorem kV_is {P : Program} {w : World} {k : Key} {u : Value} (r : RelV (kV k) u) : (mixKind P w).is k u = true := by
  rcases k with (_ | i) | x
  · cases (show u = Value.none from r); exact mixKind_none P w
  · obtain ⟨t, e⟩ := (show ∃ t, u = Value.int i t from r); subst e; exact mixKind_int P w i t
  · obtain ⟨t, e⟩ := (show ∃ t, u = Value.str x t from r); subst e; exact mixKind_str P w x t
theorem items_are {P : Program} {w : World} : ∀ {ks : List Key} {us : List Value}, Vals (ks.map kV) us → ItemsAre (mixKind P w) ks us
  | [], _, r => by rw [List.map_nil] at r; cases r; exact .nil
  | k :: ks, _, r => by
    rw [List.map_cons] at r
    cases r with
    | cons h t => exact .cons (kV_is h) (items_are t)

/-- raw entries of a dict with tuple keys -/
abbrev KT (H : Hp) : List (List Key × V) → List (List Key × Addr × Value) → Prop := Paired fun p q => p.1 = q.1 ∧ H q.2.1 = some (.tup (p.1.map kV)) ∧ RelV p.2 q.2.2
theorem KT.val {H : Hp} {kvs : List (List Key × V)} {xs : List (List Key × Addr × Value)} (r : KT H kvs xs) (k : List Key) : RelO (valV kvs k) ((atKey xs k).map (·.2)) := by
  induction r with
  | nil => exact True.intro
  | @cons p q ps qs h t ih =>
    obtain ⟨h1, _, h2⟩ := h
    by_cases e : p.1 = k
    · have e' : q.1 = k := h1.symm.trans e
      have b : atKey (q :: qs) k = some q.2 := by simp [atKey, List.find?_cons, e']
      rw [valV_pos e, b]; exact h2
    · have e' : ¬ q.1 = k := fun z => e (h1.trans z)
      have b : atKey (q :: qs) k = atKey qs k := by simp [atKey, List.find?_cons, e']
      rw [valV_neg e, b]; exact ih

section
variable {P : Program} {w : World} {H : Hp} {h : Heap} {a : Addr}
theorem rd_of {u : HO} (ok : HOk P w H h) (e : Rd H a u) : ObjOk P w H h a u := e.ok ok
theorem dk_rd {kvs : List (Key × V)} (ok : HOk P w H h) (e : Rd H a (.dK kvs)) : kvs.length ≤ sizeLine ∧ (a == sysModules) = false ∧ ∃ vs, KV kvs vs ∧ h.DictOf (mixKind P w) a vs :=
  show ObjOk P w H h a (.dK kvs) from rd_of ok e
theorem dk_of {kvs : List (Key × V)} (ok : HOk P w H h) (e : H a = some (.dK kvs)) : kvs.length ≤ sizeLine ∧ (a == sysModules) = false ∧ ∃ vs, KV kvs vs ∧ h.DictOf (mixKind P w) a vs := dk_rd ok (.inl e)
/-- a tracked tuple of ints and texts is a key -/
theorem key_of {ks : List Key} (ok : HOk P w H h) (e : H a = some (.tup (ks.map kV))) : (tupleKind (mixKind P w)).is h ks a := by
  obtain ⟨_, its, r, o, h1, h2, n, h3⟩ := (show ObjOk P w H h a (.tup (ks.map kV)) from ok a _ e)
  exact ⟨o, its.toArray, n, h1, h2, h3, by simpa using items_are r⟩
theorem dt_rd {kvs : List (List Key × V)} (ok : HOk P w H h) (e : Rd H a (.dT kvs)) : kvs.length ≤ sizeLine ∧ (a == sysModules) = false ∧
    ∃ xs, KT H kvs xs ∧ h.DictOfH (tupleKind (mixKind P w)) a xs := by
  obtain ⟨z, y, xs, r, o, es, ep, h1, h2, h3, h4, h5⟩ := (show ObjOk P w H h a (.dT kvs) from rd_of ok e)
  refine ⟨z, y, xs, r, o, es, ep, h1, h2, h3, h4, fun x hx => ?_, h5⟩
  have all : ∀ {l : List (List Key × V)} {m : List (List Key × Addr × Value)}, KT H l m → ∀ x ∈ m, (tupleKind (mixKind P w)).is h x.1 x.2.1 := by
    intro l m q
    induction q with
    | nil => intro x hx; exact nomatch hx
    | @cons p q ps qs hq t ih =>
      intro x hx
      rcases List.mem_cons.mp hx with e | hx
      · subst e
        exact key_of ok (by rw [← hq.1]; exact hq.2.1)
      · exact ih x hx
  exact all r x hx
end

/-- what the dict at a holds at the key y -/
def DGet (H : Hp) (a : Addr) (y : V) (r : Option V) : Prop :=
  (∃ kvs k, Rd H a (.dK kvs) ∧ y = kV k ∧ r = valV kvs k) ∨ ∃ kvs k b, Rd H a (.dT kvs) ∧ y = .ref b ∧ H b = some (.tup (k.map kV)) ∧ r = valV kvs k
theorem DGet.k {H : Hp} {a : Addr} {kvs : List (Key × V)} {k : Key} (e : H a = some (.dK kvs)) : DGet H a (kV k) (valV kvs k) := .inl ⟨kvs, k, .inl e, rfl, rfl⟩


section
variable {X : Cx} {pins : List (Addr × Obj)} {σ : St} {H : Hp} {s : Shared} {a : Addr} {y v : V} {u r : Value} {o : Option V} {A : Around} {E : Value → Shared → Prop}

theorem Inv.big (I : Inv X pins σ H s) : sysModules < s.heap.objs.size := by
  have h : mainGlobals < s.heap.objs.size := (I.mod.glob.keeps I.bk).lt
  exact Nat.lt_trans (by decide) h

/-- d[y], there -/
theorem d_getItem {Q : Value → Shared → Prop} (hu : A.units + 1 < cLine) (I : Inv X pins σ H s) (g : DGet H a y (some v)) (ry : RelV y u) (h : ∀ w' s', Inv X pins σ H s' → RelV v w' → Q w' s') :
    wpAny (model X.prog X.w) A (getItem (.ref a) u) Q E s := by
  rcases g with ⟨kvs, k, e, ey, l⟩ | ⟨kvs, k, b, e, ey, eb, l⟩
  · subst ey
    obtain ⟨z, hd, vs, rel, dd⟩ := dk_rd I.hok e
    obtain ⟨w', hw, rw'⟩ := RelO.some_of (v := v) (o := valueAt vs k) (by rw [l]; exact rel.val k)
    exact wpAny_getItem_of (kV_is ry) dd.mapOf hw (h w' _ (I.tok _) rw')
  · subst ey
    cases (show u = Value.ref b from ry)
    obtain ⟨z, hd, xs, rel, dd⟩ := dt_rd I.hok e
    obtain ⟨w', hw, rw'⟩ := RelO.some_of (v := v) (o := (atKey xs k).map (·.2)) (by rw [l]; exact rel.val k)
    obtain ⟨p, hp, hp2⟩ := Option.map_eq_some_iff.mp hw
    refine wpAny_getItem_heap (tupleKind_room_in1 hu) (key_of I.hok eb) dd hp ?_
    rw [hp2]
    exact h w' _ (I.tok _) rw'
theorem d_notIn {Q : Value → Shared → Prop} (hu : A.units + 1 < cLine) (I : Inv X pins σ H s) (g : DGet H a y o) (ry : RelV y u) (h : ∀ s', Inv X pins σ H s' → Q (.bool (!o.isSome)) s') :
    wpAny (model X.prog X.w) A (compareOp .NotIn u (.ref a)) Q E s := by
  rcases g with ⟨kvs, k, e, ey, l⟩ | ⟨kvs, k, b, e, ey, eb, l⟩
  · subst ey
    obtain ⟨z, hd, vs, rel, dd⟩ := dk_rd I.hok e
    refine wpAny_notIn_of (kV_is ry) hd dd.mapOf ?_
    rw [← (rel.val k).isSome_eq, ← l]
    exact h _ (I.tok _)
  · subst ey
    cases (show u = Value.ref b from ry)
    obtain ⟨z, hd, xs, rel, dd⟩ := dt_rd I.hok e
    refine wpAny_notIn_heap (tupleKind_room_in1 hu) (key_of I.hok eb) hd dd ?_
    have q := (rel.val k).isSome_eq
    rw [Option.isSome_map] at q
    rw [← q, ← l]
    exact h _ (I.tok _)
/-- a dict's object is replaced -/
theorem d_write {h' : Heap} {t' : Nat} {ob : HO} (I : Inv X pins σ H s) (mu : Mut (H a)) (hs : Heap.SameBut a s.heap h') (he : ∃ q, h'.get? a = some q) (new : ObjOk X.prog X.w (upd H a ob) h' a ob) :
    Inv X pins σ (upd H a ob) { s with heap := h', toks := t' } :=
  I.write (x := a) (e := a) mu (.inl rfl) (fun b q hb z => (hs.2 b hb).trans z) he new
theorem dk_new {P : Program} {w : World} {H' : Hp} {h' : Heap} {kvs : List (Key × V)} {vs : List (Key × Value)} (z : kvs.length ≤ sizeLine) (hd : (a == sysModules) = false) (rel : KV kvs vs) (dd : h'.DictOf (mixKind P w) a vs) :
    ObjOk P w H' h' a (.dK kvs) := ⟨z, hd, vs, rel, dd⟩
end

section
variable {X : Cx} {pins : List (Addr × Obj)} {σ : St} {H : Hp} {s : Shared} {a : Addr} {kvs : List (Key × V)} {k : Key} {u : Value} {A : Around} {E : Value → Shared → Prop}
end


/-! ### readings and rules -/
/-- the element of a subscription, not a slice -/
def NoSl (i : Expr) : Prop := ∀ ov iv, subscripted i false ov iv = operate [ov, iv] (getItem ov iv)
theorem subD_of {prog : Program} {w : World} {A : Around} {E : Value → Shared → Prop} {s : Shared} {env : Env} {value slice : Expr} {pos : Pos} {T id : String} {Q : Value → Shared → Prop}
    (hl : typeLookup (.type T) "__getitem__" = pure (some (.builtin id))) (hs : NoSl slice)
    (h : wpAny (model prog w) A (eval value env) (fun o s₁ => wpAny (model prog w) A (eval slice env) (fun i s₂ => s₂.TypeIs o T ∧ wpAny (model prog w) A (getItem o i) Q E s₂) E s₁) E s) :
    wpAny (model prog w) A (eval (.Subscript value slice pos) env) Q E s := by
  refine Subscript_ (wpAny_mono h (fun o s₁ h₁ => wpAny_mono h₁ (fun i s₂ h₂ => ?_) fun _ _ x => x) fun _ _ x => x)
  obtain ⟨hT, h₂⟩ := h₂
  unfold subscriptTail
  refine wpAny_bind ?_
  rw [getitemInPython_of_ne hT.not_modules]
  refine wpAny_bind (wpAny_specialOf hT hl ?_)
  have fin : wpAny (model prog w) A (subscripted slice false o i) (fun r s₃ => wpAny (model prog w) A (letTemporaryGo value o r >>= fun _ => pure r) Q E s₃) E s₂ := by
    rw [hs o i]
    exact wpAny_operating (wpAny_mono h₂ (fun r s₃ h₃ => wpAny_bind (wpAny_letTemporaryGo (wpAny_pure h₃))) fun _ _ x => x)
  first
    | exact wpAny_pure (wpAny_bind fin)
    | exact wpAny_bind (wpAny_pure (wpAny_bind fin))
    | exact wpAny_bind fin

theorem dict_typeIs {X : Cx} {pins : List (Addr × Obj)} {σ : St} {H : Hp} {s : Shared} {a : Addr} {y : V} {o : Option V} (I : Inv X pins σ H s) (g : DGet H a y o) : s.TypeIs (.ref a) "dict" := by
  rcases g with ⟨kvs, k, e, _, _⟩ | ⟨kvs, k, b, e, _, _, _⟩
  · obtain ⟨_, _, vs, _, dd⟩ := dk_rd I.hok e
    exact dd.typeIs
  · obtain ⟨_, _, xs, _, dd⟩ := dt_rd I.hok e
    exact dd.typeIs

/-- d[y] -/
def tDGet (td ty : TE) : TE := fun σ H Q => td σ H fun x H1 => ty σ H1 fun y H2 => ∃ a v, x = .ref a ∧ DGet H2 a y (some v) ∧ Q v H2
def tDNotIn (ty td : TE) : TE := fun σ H Q => ty σ H fun y H1 => td σ H1 fun x H2 => ∃ a o, x = .ref a ∧ DGet H2 a y o ∧ Q (.bl (!o.isSome)) H2

section
variable {X : Cx} {o i e value : Expr} {pos pos' tpos : Pos} {td ty tv : TE}
theorem pe_dget (hu : X.A.units + 1 < cLine) (ho : PE X o td) (hi : PE X i ty) (hs : NoSl i) : PE X (.Subscript o i pos) (tDGet td ty) := by
  intro pins s σ H Q I h
  refine subD_of PySem.F.slot_dict_getitem.lookup hs (thn (ho pins s σ H _ I h) fun u s1 ⟨x, H1, I1, rx, q1⟩ => thn (hi pins s1 σ H1 _ I1 q1) fun iv s2 ⟨y, H2, I2, ry, a, v, ex, g, q2⟩ => ?_)
  subst ex
  obtain rfl : u = Value.ref a := rx
  exact ⟨dict_typeIs I2 g, d_getItem hu I2 g ry fun w' s3 I3 rw' => ⟨v, H2, I3, rw', q2⟩⟩
theorem pc_dnotin (hu : X.A.units + 1 < cLine) (hi : PE X i ty) (ho : PE X o td) : PC X .NotIn i o (tDNotIn ty td) := by
  intro pins s σ H Q I h
  refine thn (hi pins s σ H _ I h) fun iv s1 ⟨y, H1, I1, ry, q1⟩ => thn (ho pins s1 σ H1 _ I1 q1) fun u s2 ⟨x, H2, I2, rx, a, ov, ex, g, q2⟩ => ?_
  subst ex
  obtain rfl : u = Value.ref a := rx
  exact d_notIn hu I2 g ry fun s3 I3 => ⟨.bl (!ov.isSome), H2, I3, rfl, q2⟩
end


/-! ### displays -/
theorem dk_empty {P : Program} {w : World} {H : Hp} (h : Heap) (hb : sysModules < h.objs.size) : ObjOk P w H (h.push { cls := .type "dict", data := .dict #[] }) h.objs.size (.dK []) :=
  ⟨Nat.zero_le _, beq_eq_false_iff_ne.mpr (Ne.symm (Nat.ne_of_lt hb)), [], .nil, Heap.DictOf.new h⟩
/-- {}, to be a dict of the kind that is wanted -/
def tDNewK : TE := fun _ H Q => ∀ p, H p = none → Q (.ref p) (upd H p (.dK []))
section
variable {X : Cx} {pos : Pos}
theorem pe_dnewK : PE X (.Dict [] [] pos) tDNewK := fun pins s σ H Q I h =>
  wpAny_Dict_empty ⟨.ref s.heap.objs.size, _, I.laid (a := s.heap.objs.size) (o := .dK []) (t' := s.toks) (fun _ _ q => Heap.get?_push_of_some _ q) (Nat.le_refl _) (dk_empty s.heap I.big), rfl, h _ (I.hok.fresh (Nat.le_refl _))⟩
end




/-! ### methods -/
structure M2 (X : Cx) (o : Expr) (m : Str) (apos : Pos) (e f : Expr) (cpos : Pos) : Prop where
  base : attributeBase o m X.env (eval o X.env) = eval o X.env
  few : ((backTo cpos (starEach [e, f] X.env)).all (fun x => !x.1) && (backToKw cpos (keywordEach [] X.env)).all (fun x => x.1.isSome)
    && decide (([e, f] : List Expr).length + ([] : List Keyword).length + (if ([] : List Keyword).isEmpty then 0 else 1) < 30)) = true
  line : (apos.endLine == cpos.line) = true
  trees : backTo cpos (starEach [e, f] X.env) = [(false, eval e X.env), (false, eval f X.env)]

/-- a is a dict, whatever its keys -/
def IsD (H : Hp) (a : Addr) : Prop := (∃ kvs, Rd H a (.dK kvs)) ∨ ∃ kvs, Rd H a (.dT kvs)
theorem isD_at {X : Cx} {pins : List (Addr × Obj)} {σ : St} {H : Hp} {s : Shared} {a : Addr} (I : Inv X pins σ H s) (d : IsD H a) :
    s.TypeIs (.ref a) "dict" ∧ (∀ b, Value.ref a = .ref b → ∃ ob, s.heap.get? b = some ob ∧ ob.dict = none) ∧ (a == sysModules) = false := by
  rcases d with ⟨kvs, e⟩ | ⟨kvs, e⟩
  · obtain ⟨_, hd, vs, _, dd⟩ := dk_rd I.hok e
    refine ⟨dd.typeIs, fun b q => ?_, hd⟩
    cases q
    obtain ⟨ob, _, _, h1, h2, _⟩ := dd
    exact ⟨ob, h1, h2.2.1⟩
  · obtain ⟨_, hd, xs, _, dd⟩ := dt_rd I.hok e
    refine ⟨dd.typeIs, fun b q => ?_, hd⟩
    cases q
    obtain ⟨ob, _, _, h1, h2, _⟩ := dd
    exact ⟨ob, h1, h2.2.1⟩

section
variable {X : Cx} {pins : List (Addr × Obj)} {σ : St} {H : Hp} {s : Shared} {a : Addr} {y d : V} {u r : Value} {o : Option V} {A : Around} {E : Value → Shared → Prop}
/-- d.get(y, x) -/
theorem d_get2 {Q : Value → Shared → Prop} (hu : A.units + 1 < cLine) (I : Inv X pins σ H s) (g : DGet H a y o) (ry : RelV y u) (rd : RelV d r) (h : ∀ w' s', Inv X pins σ H s' → RelV (o.getD d) w' → Q w' s') :
    wpAny (model X.prog X.w) A (call (.builtin "dict.get") [.ref a, u, r]) Q E s := by
  rcases g with ⟨kvs, k, e, ey, l⟩ | ⟨kvs, k, b, e, ey, eb, l⟩
  · subst ey
    obtain ⟨z, hd, vs, rel, dd⟩ := dk_rd I.hok e
    refine call_meetsIn PySem.F.slot_dict_get dd.typeIs PySem.F.entry_dict_get (PySem.F.args_dict_get_3 _ _ _) (meets_dict_get_default (mixKind X.prog X.w) a (kV_is ry) hd r) ⟨_, dd.mapOf, h _ _ (I.tok _) ?_⟩
    rw [l]
    exact (rel.val k).getD rd
  · subst ey
    cases (show u = Value.ref b from ry)
    obtain ⟨z, hd, xs, rel, dd⟩ := dt_rd I.hok e
    refine call_meetsIn PySem.F.slot_dict_get dd.typeIs PySem.F.entry_dict_get (PySem.F.args_dict_get_3 _ _ _) (meetsH_dict_get_default (tupleKind (mixKind X.prog X.w)) a b hd r) ⟨tupleKind_room_in1 hu, k, xs, key_of I.hok eb, dd, h _ _ (I.tok _) ?_⟩
    rw [l]
    exact (rel.val k).getD rd
end

def tDGet2 (td ty tx : TE) : TE := fun σ H Q => td σ H fun x H1 => ∃ a, x = .ref a ∧ IsD H1 a ∧ ty σ H1 fun y H2 => tx σ H2 fun z H3 => ∃ o, DGet H3 a y o ∧ Q (o.getD z) H3
section
variable {X : Cx} {o e f : Expr} {apos cpos : Pos} {td ty tx : TE}
theorem pe_dget2 (hu : X.A.units + 1 < cLine) (ho : PE X o td) (he : PE X e ty) (hf : PE X f tx) (m : M2 X o "get" apos e f cpos) : PE X (.Call (.Attribute o "get" apos) [e, f] [] cpos) (tDGet2 td ty tx) := by
  intro pins s σ H Q I h
  refine wpAny_Call_method m.base m.few m.line PySem.F.plainAttrs_dict PySem.F.slot_dict_get PySem.F.type_dict_get (thn (ho pins s σ H _ I h) fun u s1 ⟨x, H1, I1, rx, a, ex, d, q1⟩ => ?_)
  subst ex
  obtain rfl : u = Value.ref a := rx
  obtain ⟨t1, t2, _⟩ := isD_at I1 d
  refine ⟨t1, t2, ?_⟩
  rw [m.trees]
  refine Calls.callWith_builtin rfl (Calls.evalArgs_plain (Calls.spliced_cons (thn (he pins s1 σ H1 _ I1 q1) fun iv s2 ⟨y, H2, I2, ry, q2⟩ =>
    Calls.spliced_cons (thn (hf pins s2 σ H2 _ I2 q2) fun fv s3 ⟨z, H3, I3, rz, ov, g, q3⟩ => Calls.spliced_nil ?_))))
  exact d_get2 hu I3 g ry rz fun w' s4 I4 rw' => ⟨_, H3, I4, rw', q3⟩
end

/-! ### dict(d): a copy -/
section
variable {X : Cx} {pins : List (Addr × Obj)} {σ : St} {H : Hp} {s : Shared} {a : Addr} {kvs : List (Key × V)} {A : Around} {E : Value → Shared → Prop}
end


section
variable {X : Cx} {pins : List (Addr × Obj)} {σ : St} {H : Hp} {s : Shared} {a : Addr} {y : V} {u : Value} {A : Around} {E : Value → Shared → Prop}
end
end L2

namespace L2
open PySem PySem.Spec PyProof.Rows
section
variable {X : Cx}
end
/-! ### a dict's pairs: keys that differ -/
section
variable {κ : Type} [DecidableEq κ]
end
end L2

set_option Elab.async false
set_option linter.all false
set_option maxRecDepth 100000
set_option maxHeartbeats 4000000
/-! d.setdefault(y, x); sorted(a list of ints). Own work. -/
namespace SDf
open PySem PyProof.Rows
section
variable {prog : Program} {w : World} {κ : Type} [DecidableEq κ] {knd : PySem.KeyKind prog w κ} {A : Around} {E : Value → Shared → Prop} {s : Shared}
theorem setDef {d : Addr} {kvs : List (κ × Value)} {k : κ} {key dv : Value} {Q : Value → Shared → Prop} (hkey : knd.is k key = true) (hm : s.heap.DictOf knd d kvs) (hsz : kvs.length ≤ sizeLine)
    (hin : ∀ v, valueAt kvs k = some v → Q v { s with toks := s.toks + 1 })
    (hno : valueAt kvs k = none → ∀ h', h'.DictOf knd d (stored kvs k dv) → Heap.SameBut d s.heap h' → Q dv { s with heap := h', toks := s.toks + 1 }) :
    wpAny (model prog w) A (dictSetDefault d key dv) Q E s := by
  have hmap := hm.mapOf
  obtain ⟨o, es, ep, ho, hc, hd, hk, hp, hn⟩ := hm
  have hes : es.size ≤ sizeLine := by
    have e1 := hp.length
    have e2 : es.toList.length = es.size := by simp
    omega
  have hf : findBy knd.is es k = valueAt kvs k := by
    obtain ⟨o', es', ep', ho', hc', hd', hk', hf'⟩ := hmap
    rw [ho] at ho'; cases ho'
    rw [hd] at hd'; cases hd'
    exact hf' k
  unfold dictSetDefault
  try with_reducible refine wpAny_holding ?_
  refine wpAny_bind (knd.pyHash hkey ?_)
  refine wpAny_bind (wpAny_dictFind_of (s := { s with toks := s.toks + 1 }) hkey ho hd hk ?_)
  have hidx : (es.findIdx? fun e => knd.is k e.key) = kvs.findIdx? fun kv => decide (kv.1 = k) := by
    rw [← hp.findIdx k]; obtain ⟨l⟩ := es; simp
  cases hi : es.findIdx? fun e => knd.is k e.key with
  | some i =>
    have hfk : valueAt kvs k = (es[i]?).map (·.val) := by rw [← hf, findBy_of_findIdx?, hi]
    refine wpAny_bind (wpAny_dictEntries (s := { s with toks := s.toks + 1 }) ho hd ?_)
    cases he : es[i]? with
    | none =>
      exfalso
      have hlt : i < es.size := (Array.findIdx?_eq_some_iff_findIdx_eq.mp hi).1
      rw [Array.getElem?_eq_getElem hlt] at he
      exact nomatch he
    | some e =>
      rw [he] at hfk
      exact wpAny_bind (wpAny_rule (wpAny_pure (hin e.val hfk)))
  | none =>
    have hfk : valueAt kvs k = none := by rw [← hf, findBy_of_findIdx?, hi]
    have hnot : k ∉ kvs.map (·.1) := not_mem_of_findIdx_none (hidx ▸ hi)
    have hany : ¬ (kvs.any fun kv => decide (kv.1 = k)) = true := by
      rw [List.any_eq_true]
      rintro ⟨kv, hkv, he⟩
      exact hnot (List.mem_map.mpr ⟨kv, hkv, of_decide_eq_true he⟩)
    refine wpAny_bind (wpAny_rule (wpAny_bind (wpAny_updateDictKeys (hz := hes) (s := { s with toks := s.toks + 1 }) ho hd (wpAny_pure (hno hfk _ ⟨_, _, ep + 1, Heap.get?_update_self _ ho (Obj.isFreed_of_dict (Obj.data_mapDictKeys hd _)), hc.mapDictKeys _, Obj.data_mapDictKeys hd _, hk.push hkey _, ?_, ?_⟩ (Heap.SameBut.update ..))))))
    · rw [stored, if_neg hany]
      have := hp.append hkey (knd.hash k) dv
      obtain ⟨l⟩ := es
      simpa using this
    · rw [stored, if_neg hany, List.map_append, List.nodup_append]
      refine ⟨hn, by simp, ?_⟩
      intro a ha b hb
      simp only [List.map_cons, List.map_nil, List.mem_singleton] at hb
      subst hb
      exact fun e => hnot (e ▸ ha)
theorem meets_setdef {k : κ} {key : Value} (d : Addr) (hkey : knd.is k key = true) (hd : (d == sysModules) = false) (dv : Value) :
    MeetsIn prog w (Builtin.«dict.setdefault» ⟨[.ref d, key, dv], []⟩) (fun _ R s => ∃ kvs, s.heap.DictOf knd d kvs ∧ kvs.length ≤ sizeLine ∧ (∀ v, valueAt kvs k = some v → R (.ok (.ret v)) { s with toks := s.toks + 1 }) ∧
      (valueAt kvs k = none → ∀ h', h'.DictOf knd d (stored kvs k dv) → Heap.SameBut d s.heap h' → R (.ok (.ret dv)) { s with heap := h', toks := s.toks + 1 })) :=
  .of_wp fun A R s ⟨kvs, hm, hz, h1, h2⟩ => by
    unfold Builtin.«dict.setdefault» Builtin.Dict.keyAndDefault
    refine wpAny_bind (wpAny_bind (wpAny_notOrdered_dict hm.typeIs ?_))
    show wpAny _ _ (pure (d, key, some dv)) _ _ s
    refine wpAny_pure ?_
    show wpAny _ _ (if (d == sysModules) = true then _ else (dictSetDefault d key dv >>= _)) _ _ s
    rw [if_neg (fun e => by rw [hd] at e; cases e)]
    exact wpAny_bind (setDef hkey hm hz (fun v e => wpAny_pure ⟨v, rfl, h1 v e⟩) fun e h' dd hs => wpAny_pure ⟨dv, rfl, h2 e h' dd hs⟩)
end
end SDf
namespace L2
open PySem PySem.Spec PyProof.Rows
/-- d.setdefault(y, x) -/
def tDDef (td ty tx : TE) : TE := fun σ H Q => td σ H fun x H1 => ∃ a, x = .ref a ∧ IsD H1 a ∧ ty σ H1 fun y H2 => tx σ H2 fun z H3 => ∃ kvs k, H3 a = some (.dK kvs) ∧ y = kV k ∧ kvs.length < sizeLine ∧
  (∀ v, valV kvs k = some v → Q v H3) ∧ (valV kvs k = none → Q z (upd H3 a (.dK (putK kvs k z))))
section
variable {X : Cx} {o e f : Expr} {apos cpos : Pos} {td ty tx : TE}
theorem pe_ddef (ho : PE X o td) (he : PE X e ty) (hf : PE X f tx) (m : M2 X o "setdefault" apos e f cpos) : PE X (.Call (.Attribute o "setdefault" apos) [e, f] [] cpos) (tDDef td ty tx) := by
  intro pins s σ H Q I h
  refine wpAny_Call_method m.base m.few m.line PySem.F.plainAttrs_dict PySem.F.slot_dict_setdefault PySem.F.type_dict_setdefault (thn (ho pins s σ H _ I h) fun u s1 ⟨x, H1, I1, rx, a, ex, d, q1⟩ => ?_)
  subst ex
  obtain rfl : u = Value.ref a := rx
  obtain ⟨t1, t2, hd⟩ := isD_at I1 d
  refine ⟨t1, t2, ?_⟩
  rw [m.trees]
  refine Calls.callWith_builtin rfl (Calls.evalArgs_plain (Calls.spliced_cons (thn (he pins s1 σ H1 _ I1 q1) fun iv s2 ⟨y, H2, I2, ry, q2⟩ =>
    Calls.spliced_cons (thn (hf pins s2 σ H2 _ I2 q2) fun fv s3 ⟨z, H3, I3, rz, kvs, k, ea, ey, hl, q3, q4⟩ => Calls.spliced_nil ?_))))
  subst ey
  obtain ⟨hz, hd', vs, rel, dd⟩ := dk_of I3.hok ea
  refine call_meetsIn PySem.F.slot_dict_setdefault dd.typeIs PySem.F.entry_dict_setdefault (PySem.F.args_dict_setdefault_3 _ _ _) (SDf.meets_setdef (knd := mixKind X.prog X.w) a (kV_is ry) hd' fv) ⟨vs, dd, by rw [← rel.length]; exact hz, fun v' ev => ?_, fun ev h' dd' hs => ?_⟩
  · have hv := rel.val k
    rw [ev] at hv
    cases hk : valV kvs k with
    | none => rw [hk] at hv; exact hv.elim
    | some v =>
      rw [hk] at hv
      exact ⟨v, H3, I3.tok _, hv, q3 v hk⟩
  · have hv := rel.val k
    rw [ev] at hv
    cases hk : valV kvs k with
    | some v => rw [hk] at hv; exact hv.elim
    | none =>
      have hle : (putK kvs k z).length ≤ sizeLine := by have := length_putK kvs k z; omega
      have hx : ∃ q, h'.get? a = some q := let ⟨q, _, _, hq, _⟩ := dd'; ⟨q, hq⟩
      exact ⟨z, _, d_write I3 (by rw [ea]; exact True.intro) hs hx (dk_new hle hd' (rel.put k rz) dd'), rz, q4 hk⟩
end
end L2

set_option Elab.async false
set_option linter.all false
set_option maxRecDepth 100000
set_option maxHeartbeats 4000000
/-! sorted(a list of ints); lists and tuples that are alike, within one another. Own work. -/
namespace L2
open PySem PySem.Spec PyProof.Rows SI
section
variable {X : Cx}
/-- sorted(a list of ints) -/
theorem call_sortedL : CallR X (.builtin "sorted") (fun xs H Q => ∃ (p : Addr) (ks : List Int), xs = [.ref p] ∧ SqL X.K H p (ks.map V.int) ∧ ks.length < 64 ∧ ∀ (l : Addr) (ns : List Int), H l = none → ns.Pairwise (· ≤ ·) → ns.Perm ks → Q (.ref l) (upd H l (.lst (ns.map V.int)))) := by
  intro pins s σ H xs us Q I r h
  obtain ⟨p, ks, rfl, hq, h64, q⟩ := h
  obtain ⟨u, rfl, rx⟩ := vals1 r
  cases rx
  obtain ⟨its, rv, pl, hz⟩ := I.list hq
  have hI := intsAre_of rv
  have hlen : ks.length = its.length := by have := rv.length; rw [List.length_map] at this; exact this
  refine sorted_ints pl.isList hI (by omega) fun out ns' hI' hpm hle => ?_
  have hsz : ((s.heap.push (seqObj "list" #[] 0)).update s.heap.objs.size (Obj.mapSeq (· ++ its.toArray))).objs.size = s.heap.objs.size + 1 := by
    rw [Heap.size_update, size_push']
  have keep0 : ∀ b o, s.heap.get? b = some o → (((s.heap.push (seqObj "list" #[] 0)).update s.heap.objs.size (Obj.mapSeq (· ++ its.toArray))).push (seqObj "list" its.toArray 0)).get? b = some o := fun b o e => by
    refine Heap.get?_push_of_some _ ?_
    rw [Heap.get?_update_other _ _ (Ne.symm (Nat.ne_of_lt (Heap.lt_size e)))]
    exact Heap.get?_push_of_some _ e
  have hoL : (((s.heap.push (seqObj "list" #[] 0)).update s.heap.objs.size (Obj.mapSeq (· ++ its.toArray))).push (seqObj "list" its.toArray 0)).get? (s.heap.objs.size + 1) = some (seqObj "list" its.toArray 0) := by
    rw [← hsz]; exact Heap.get?_push_size _ rfl
  obtain ⟨e1, g1⟩ : ∃ e1, ((((s.heap.push (seqObj "list" #[] 0)).update s.heap.objs.size (Obj.mapSeq (· ++ its.toArray))).push (seqObj "list" its.toArray 0)).update (s.heap.objs.size + 1) (Obj.mapSeq fun _ => #[])).get? (s.heap.objs.size + 1) = some (seqObj "list" #[] e1) := ⟨_, get?_update_seq hoL _⟩
  have g2 : ((((((s.heap.push (seqObj "list" #[] 0)).update s.heap.objs.size (Obj.mapSeq (· ++ its.toArray))).push (seqObj "list" its.toArray 0)).update (s.heap.objs.size + 1) (Obj.mapSeq fun _ => #[])).push (seqObj "tuple" its.toArray 0)).push (seqObj "list" #[] 0)).get? (s.heap.objs.size + 1) = some (seqObj "list" #[] e1) :=
    Heap.get?_push_of_some _ (Heap.get?_push_of_some _ g1)
  have hle2 : s.heap.objs.size ≤ s.heap.objs.size + 1 := Nat.le_succ _
  refine ⟨.ref (s.heap.objs.size + 1), upd H (s.heap.objs.size + 1) (.lst (ns'.map V.int)), ?_, rfl, q _ ns' (I.hok.fresh hle2) hle hpm⟩
  refine I.laid (a := s.heap.objs.size + 1) (o := .lst (ns'.map V.int)) (t' := s.toks) (fun b o e => ?_) hle2 (show ObjOk X.prog X.w _ (sortedAll s.heap its out) _ (.lst (ns'.map V.int)) from ⟨by rw [List.length_map, hpm.length_eq, sizeLine_eq]; omega, out.toList, _, vals_ints hI', by unfold sortedAll sortedHeap; simpa using get?_update_seq g2 (fun _ => out)⟩)
  have hb : b ≠ s.heap.objs.size + 1 := Nat.ne_of_lt (Nat.lt_succ_of_lt (Heap.lt_size e))
  unfold sortedAll sortedHeap
  rw [Heap.get?_update_other _ _ (Ne.symm hb)]
  exact Heap.get?_push_of_some _ (Heap.get?_push_of_some _ ((Heap.get?_update_other _ _ (Ne.symm hb)).trans (keep0 b o e)))
end
/-! ### alike, within one another -/
def Alk (K : PySem.W.Frag) (H : Hp) : Nat → V → V → Prop
  | 0, x, y => x = y ∧ (flatV x = true ∨ ∃ a, x = .ref a)
  | d + 1, x, y => (x = y ∧ (flatV x = true ∨ ∃ a, x = .ref a)) ∨ ∃ a c xs ys, x = .ref a ∧ y = .ref c ∧ ((SqT K H a xs ∧ SqT K H c ys) ∨ (SqL K H a xs ∧ SqL K H c ys)) ∧ Paired (Alk K H d) xs ys
theorem eqV_self {x : V} (h : flatV x = true) : eqV x x = true := by
  cases x with
  | non => rfl
  | bl b => cases b <;> rfl
  | int i => show (i == i) = true; simp
  | str z => show (z == z) = true; simp
  | byt b => exact absurd (show false = true from h) Bool.false_ne_true
  | flt b => exact absurd (show false = true from h) Bool.false_ne_true
  | ref a => exact absurd (show false = true from h) Bool.false_ne_true
  | ty n => exact absurd (show false = true from h) Bool.false_ne_true
theorem all_true (n : Nat) : (List.range n).all (fun _ => true) = true := by simp
theorem paired_get {α β : Type} {R : α → β → Prop} : ∀ {xs : List α} {ys : List β}, Paired R xs ys → ∀ {j : Nat} {x : α} {y : β}, xs[j]? = some x → ys[j]? = some y → R x y
  | _, _, .nil, j, x, y, e, _ => by simp at e
  | _, _, .cons h t, 0, x, y, e1, e2 => by simp at e1 e2; subst e1 e2; exact h
  | _, _, .cons h t, j + 1, x, y, e1, e2 => paired_get t (j := j) (by simpa using e1) (by simpa using e2)
section
variable {X : Cx} {pins : List (Addr × Obj)} {σ : St} {H : Hp} {s : Shared}
theorem same_eqAt {A : Around} {x y : V} {u v : Value} (h : x = y ∧ (flatV x = true ∨ ∃ a, x = .ref a)) (ru : RelV x u) (rv : RelV y v) : SeqAt.EqAt A s u v true := by
  obtain ⟨rfl, h | ⟨a, rfl⟩⟩ := h
  · have := eqAt_V (A := A) (s := s) ru rv h h
    rw [eqV_self h] at this
    exact this
  · cases ru
    cases rv
    exact SeqAt.EqAt.same _
theorem alk_eqAt (I : Inv X pins σ H s) : ∀ (d : Nat) {A : Around} {x y : V} {u v : Value}, Alk X.K H d x y → RelV x u → RelV y v → A.units + d < cLine → SeqAt.EqAt A s u v true
  | 0, A, x, y, u, v, h, ru, rv, _ => same_eqAt h ru rv
  | d + 1, A, x, y, u, v, h, ru, rv, hu => by
    rcases h with h | ⟨a, c, xs, ys, rfl, rfl, hs, hp⟩
    · exact same_eqAt h ru rv
    · cases ru
      cases rv
      by_cases hac : a = c
      · subst hac; exact SeqAt.EqAt.same _
      · refine SeqAt.EqAt.of_refs hac ?_
        have hl := Paired.length hp
        rcases hs with ⟨h1, h2⟩ | ⟨h1, h2⟩
        · obtain ⟨i1, r1, p1, z1⟩ := I.tuple h1
          obtain ⟨i2, r2, p2, z2⟩ := I.tuple h2
          have l1 := r1.length
          have l2 := r2.length
          have := SeqAt.RcAt.tuples (A := A) (e := fun _ => true) (show s.heap.IsTuple a i1.toArray from p1) (show s.heap.IsTuple c i2.toArray from p2) (by omega) (fun j j1 j2 => by
            simp only [List.size_toArray] at j1 j2
            have k1 : j < xs.length := by omega
            have k2 : j < ys.length := by omega
            obtain ⟨u1, e1, s1⟩ := r1.get (List.getElem?_eq_getElem k1)
            obtain ⟨u2, e2, s2⟩ := r2.get (List.getElem?_eq_getElem k2)
            rw [List.getElem?_eq_getElem j1] at e1
            rw [List.getElem?_eq_getElem j2] at e2
            cases e1
            cases e2
            exact alk_eqAt I d (paired_get hp (List.getElem?_eq_getElem k1) (List.getElem?_eq_getElem k2)) s1 s2 (by show A.units + 1 + d < _; omega))
          rw [all_true, List.size_toArray, List.size_toArray, ← l1, ← l2, hl] at this
          simpa using this
        · obtain ⟨i1, r1, p1, z1⟩ := I.list h1
          obtain ⟨i2, r2, p2, z2⟩ := I.list h2
          have l1 := r1.length
          have l2 := r2.length
          have := SeqAt.RcAt.lists (A := A) (e := fun _ => true) p1.isList p2.isList (by simp; omega) (by omega) (fun j j1 j2 => by
            simp only [List.size_toArray] at j1 j2
            have k1 : j < xs.length := by omega
            have k2 : j < ys.length := by omega
            obtain ⟨u1, e1, s1⟩ := r1.get (List.getElem?_eq_getElem k1)
            obtain ⟨u2, e2, s2⟩ := r2.get (List.getElem?_eq_getElem k2)
            rw [List.getElem?_eq_getElem j1] at e1
            rw [List.getElem?_eq_getElem j2] at e2
            cases e1
            cases e2
            exact alk_eqAt I d (paired_get hp (List.getElem?_eq_getElem k1) (List.getElem?_eq_getElem k2)) s1 s2 (by show A.units + 1 + d < _; omega))
          rw [all_true] at this
          exact this
end
section
variable {X : Cx}
/-- two lists or two tuples that are alike, compared -/
def rAlk (K : PySem.W.Frag) (d : Nat) (b : Bool) : R2 := fun x y H Q => ∃ a c xs ys, x = .ref a ∧ y = .ref c ∧ ((SqT K H a xs ∧ SqT K H c ys) ∨ (SqL K H a xs ∧ SqL K H c ys)) ∧ Paired (Alk K H d) xs ys ∧ Q (.bl b) H
theorem alk_items {pins : List (Addr × Obj)} {σ : St} {H : Hp} {s : Shared} (I : Inv X pins σ H s) {d : Nat} {xs ys : List V} {i1 i2 : List Value} (hu : X.A.units + 1 + d < cLine) (hp : Paired (Alk X.K H d) xs ys) (r1 : Vals xs i1) (r2 : Vals ys i2) :
    ∀ j (j1 : j < i1.toArray.size) (j2 : j < i2.toArray.size), SeqAt.EqAt X.A.in1 s i1.toArray[j] i2.toArray[j] true := fun j j1 j2 => by
  have l1 := r1.length
  have l2 := r2.length
  simp only [List.size_toArray] at j1 j2
  have k1 : j < xs.length := by omega
  have k2 : j < ys.length := by omega
  obtain ⟨u1, e1, s1⟩ := r1.get (List.getElem?_eq_getElem k1)
  obtain ⟨u2, e2, s2⟩ := r2.get (List.getElem?_eq_getElem k2)
  rw [List.getElem?_eq_getElem j1] at e1
  rw [List.getElem?_eq_getElem j2] at e2
  cases e1
  cases e2
  exact alk_eqAt I d (paired_get hp (List.getElem?_eq_getElem k1) (List.getElem?_eq_getElem k2)) s1 s2 (by show X.A.units + 1 + d < _; omega)
theorem op_neA {d : Nat} (hu : X.A.units + 1 + d < cLine) : OpR X (compareOp .NotEq) (rAlk X.K d false) := by
  intro pins s σ H x y v u Q I rx ry h
  obtain ⟨a, c, xs, ys, rfl, rfl, hs, hp, q⟩ := h
  cases rx
  cases ry
  have hl := Paired.length hp
  rcases hs with ⟨h1, h2⟩ | ⟨h1, h2⟩
  · obtain ⟨i1, r1, p1, z1⟩ := I.tuple h1
    obtain ⟨i2, r2, p2, z2⟩ := I.tuple h2
    have l1 := r1.length
    have l2 := r2.length
    refine SeqAt.RcNeAt.tuples (e := fun _ => true) (show s.heap.IsTuple a i1.toArray from p1) (show s.heap.IsTuple c i2.toArray from p2) (by omega) (alk_items I hu hp r1 r2) X.prog X.w X.xe _ ⟨.bl false, H, I, ?_, q⟩
    show Value.bool _ = Value.bool _
    rw [all_true, List.size_toArray, List.size_toArray, ← l1, ← l2, hl]; simp
  · obtain ⟨i1, r1, p1, z1⟩ := I.list h1
    obtain ⟨i2, r2, p2, z2⟩ := I.list h2
    have l1 := r1.length
    have l2 := r2.length
    refine SeqAt.RcNeAt.lists (e := fun _ => true) p1.isList p2.isList (by simp; omega) (by omega) (alk_items I hu hp r1 r2) X.prog X.w X.xe _ ⟨.bl false, H, I, ?_, q⟩
    show Value.bool _ = Value.bool _
    rw [all_true]; rfl
end
end L2

set_option Elab.async false
set_option linter.all false
set_option maxRecDepth 100000
set_option maxHeartbeats 4000000
/-! any(a list of bools); try, where nothing is raised. Own work. -/
namespace L2
open PySem PySem.Spec PyProof.Rows SI
end L2

set_option Elab.async false
set_option linter.all false
set_option maxRecDepth 100000
set_option maxHeartbeats 4000000
/-! Tuples within one another compared to True or False; x in a list of such, its index. Own work. -/
namespace L2
open PySem PySem.Spec PyProof.Rows SI
def EqB (K : PySem.W.Frag) (H : Hp) : Nat → V → V → Bool → Prop
  | 0, x, y, b => (flatV x = true ∧ flatV y = true ∧ b = eqV x y) ∨ (∃ a, x = .ref a ∧ y = .ref a ∧ b = true)
  | d + 1, x, y, b => ((flatV x = true ∧ flatV y = true ∧ b = eqV x y) ∨ (∃ a, x = .ref a ∧ y = .ref a ∧ b = true)) ∨
    ∃ (a c : Addr) (xs ys : List V) (es : List Bool), x = .ref a ∧ y = .ref c ∧ a ≠ c ∧ SqT K H a xs ∧ SqT K H c ys ∧ xs.length = ys.length ∧ es.length = xs.length ∧ (∀ (j : Nat) x y e, xs[j]? = some x → ys[j]? = some y → es[j]? = some e → EqB K H d x y e) ∧ b = es.all id
theorem all_getD : ∀ (es : List Bool), (List.range es.length).all (fun j => es.getD j true) = es.all id := fun es => by
  have e : (List.range es.length).map (fun j => es.getD j true) = es := by
    apply List.ext_getElem?
    intro i
    rw [List.getElem?_map]
    by_cases hi : i < es.length
    · simp [hi]
    · simp [hi]
  conv => rhs; rw [← e]
  rw [List.all_map]
  rfl
section
variable {X : Cx} {pins : List (Addr × Obj)} {σ : St} {H : Hp} {s : Shared}
theorem base_eqAt {A : Around} {x y : V} {u v : Value} {b : Bool} (h : (flatV x = true ∧ flatV y = true ∧ b = eqV x y) ∨ (∃ a, x = .ref a ∧ y = .ref a ∧ b = true)) (ru : RelV x u) (rv : RelV y v) : SeqAt.EqAt A s u v b := by
  rcases h with ⟨h1, h2, rfl⟩ | ⟨a, rfl, rfl, rfl⟩
  · exact eqAt_V ru rv h1 h2
  · cases ru
    cases rv
    exact SeqAt.EqAt.same _
theorem eqB_eqAt (I : Inv X pins σ H s) : ∀ (d : Nat) {A : Around} {x y : V} {u v : Value} {b : Bool}, EqB X.K H d x y b → RelV x u → RelV y v → A.units + d < cLine → SeqAt.EqAt A s u v b
  | 0, A, x, y, u, v, b, h, ru, rv, _ => base_eqAt h ru rv
  | d + 1, A, x, y, u, v, b, h, ru, rv, hu => by
    rcases h with h | ⟨a, c, xs, ys, es, rfl, rfl, hac, h1, h2, hl, hel, he, rfl⟩
    · exact base_eqAt h ru rv
    · cases ru
      cases rv
      refine SeqAt.EqAt.of_refs hac ?_
      obtain ⟨i1, r1, p1, z1⟩ := I.tuple h1
      obtain ⟨i2, r2, p2, z2⟩ := I.tuple h2
      have l1 := r1.length
      have l2 := r2.length
      have := SeqAt.RcAt.tuples (A := A) (e := fun j => es.getD j true) (show s.heap.IsTuple a i1.toArray from p1) (show s.heap.IsTuple c i2.toArray from p2) (by omega) (fun j j1 j2 => by
        simp only [List.size_toArray] at j1 j2
        have k1 : j < xs.length := by omega
        have k2 : j < ys.length := by omega
        have k3 : j < es.length := by omega
        obtain ⟨u1, e1, s1⟩ := r1.get (List.getElem?_eq_getElem k1)
        obtain ⟨u2, e2, s2⟩ := r2.get (List.getElem?_eq_getElem k2)
        rw [List.getElem?_eq_getElem j1] at e1
        rw [List.getElem?_eq_getElem j2] at e2
        cases e1
        cases e2
        have := eqB_eqAt I d (A := A.in1) (he j _ _ _ (List.getElem?_eq_getElem k1) (List.getElem?_eq_getElem k2) (List.getElem?_eq_getElem k3)) s1 s2 (by show A.units + 1 + d < _; omega)
        simpa [List.getD, k3] using this)
      rw [List.size_toArray, List.size_toArray, ← l1, ← l2, ← hl, Nat.min_self, ← hel, all_getD] at this
      simpa using this
end
/-- which of the items are alike to x -/
def hitV (f : Addr → Bool) : V → Bool
  | .ref t => f t
  | _ => false
def hitU (f : Addr → Bool) : Value → Bool
  | .ref t => f t
  | _ => false
section
variable {X : Cx} {d : Nat}
theorem hits_any {f : Addr → Bool} : ∀ {xs : List V} {us : List Value}, Vals xs us → (∀ v ∈ xs, ∃ t, v = .ref t) → us.any (hitU f) = xs.any (hitV f)
  | _, _, .nil, _ => rfl
  | _, _, .cons r t, h => by
    obtain ⟨a, rfl⟩ := h _ List.mem_cons_self
    cases r
    rw [List.any_cons, List.any_cons, hits_any t fun v hv => h v (List.mem_cons_of_mem _ hv)]
    rfl
theorem items_eqAt {pins : List (Addr × Obj)} {σ : St} {H : Hp} {s : Shared} (I : Inv X pins σ H s) {f : Addr → Bool} {xs : List V} {us : List Value} {y : V} {v : Value} (rv : RelV y v) (r : Vals xs us) (hf : ∀ z ∈ xs, ∃ t, z = .ref t ∧ EqB X.K H d z y (f t)) {A : Around} (hu : A.units + d < cLine) :
    ∀ w, w ∈ us.toArray → SeqAt.EqAt A s w v (hitU f w) := fun w hw => by
  rw [List.mem_toArray] at hw
  obtain ⟨j, hj, e⟩ := List.getElem_of_mem hw
  have hl := r.length
  obtain ⟨u1, e1, s1⟩ := r.get (i := j) (List.getElem?_eq_getElem (by omega))
  rw [List.getElem?_eq_getElem hj, e] at e1
  cases e1
  obtain ⟨t, ht, hb⟩ := hf _ (List.getElem_mem (by omega : j < xs.length))
  have hq := eqB_eqAt I d (A := A) hb s1 rv hu
  rw [ht] at s1
  cases s1
  exact hq
def rInB (K : PySem.W.Frag) (d : Nat) : R2 := fun x y H Q => ∃ p xs f, y = .ref p ∧ SqL K H p xs ∧ (∀ z ∈ xs, ∃ t, z = .ref t ∧ EqB K H d z x (f t)) ∧ Q (.bl (xs.any (hitV f))) H
theorem op_inB (hu : X.A.units + 1 + d < cLine) : OpR X (compareOp .In) (rInB X.K d) := by
  intro pins s σ H x y v u Q I rx ry h
  obtain ⟨p, xs, f, rfl, hq, hf, q⟩ := h
  cases ry
  obtain ⟨its, r, pl, hz⟩ := I.list hq
  refine SeqAt.in_listAt (hitU f) pl.isList (items_eqAt I rx r hf hu) ⟨.bl _, H, I, rfl, ?_⟩
  rw [show its.toArray.any (hitU f) = its.any (hitU f) by simp, hits_any r fun z hz => by obtain ⟨t, e, _⟩ := hf z hz; exact ⟨t, e⟩]
  exact q
/-- a.index(x), there -/
def rIdx (K : PySem.W.Frag) (d : Nat) : V → List V → Hp → VK → Prop := fun x vs H Q => ∃ p xs y f j, x = .ref p ∧ vs = [y] ∧ SqL K H p xs ∧ (∀ z ∈ xs, ∃ t, z = .ref t ∧ EqB K H d z y (f t)) ∧ (∃ z, xs[j]? = some z ∧ hitV f z = true) ∧ (∀ (i : Nat) z, i < j → xs[i]? = some z → hitV f z = false) ∧ Q (.int (j : Nat)) H
theorem mt_index (hu : X.A.units + 3 + d < cLine) : MtR X "list.index" (rIdx X.K d) := by
  intro pins s σ H x xs v us Q I rx rs h
  obtain ⟨p, zs, y, f, j, rfl, rfl, hq, hf, ⟨z, ez, hz⟩, hbef, q⟩ := h
  cases rx
  obtain ⟨u, rfl, ru⟩ := vals1 rs
  obtain ⟨its, r, pl, hsz⟩ := I.list hq
  have hl := r.length
  obtain ⟨⟨cls, dd, data, sl⟩, ho, hc, n, hd⟩ := id pl.isList
  simp only at hc hd
  subst hc hd
  have hj : j < its.length := by have := (List.getElem?_eq_some_iff.mp ez).1; omega
  have hitat : ∀ (i : Nat) (hi : i < its.length) (w : V), zs[i]? = some w → hitU f its[i] = hitV f w := fun i hi w ew => by
    obtain ⟨u1, e1, s1⟩ := r.get ew
    rw [List.getElem?_eq_getElem hi] at e1
    cases e1
    obtain ⟨t, rfl, _⟩ := hf w (List.mem_of_getElem? ew)
    have s1' : its[i] = Value.ref t := s1
    rw [s1']
    rfl
  refine call_meets F.slot_list_index ⟨_, ho, rfl⟩ F.entry_list_index (F.args_list_index_2 _ _) (SeqAt.list_indexAt p its.toArray n dd sl u (hitU f) j (by simpa using hj) (by rw [sizeLine_eq] at hsz; omega) (by rw [← hz]; simpa using hitat j hj z ez) (fun i hi hij => ?_)) ⟨ho, items_eqAt I ru r hf ?_, ?_⟩
  · have hi' : i < its.length := by simpa using hi
    have hi2 : i < zs.length := by omega
    have := hbef i zs[i] hij (List.getElem?_eq_getElem hi2)
    rw [← this]
    simpa using hitat i hi' zs[i] (List.getElem?_eq_getElem hi2)
  · show X.A.units + _ + d < _
    omega
  · exact ⟨.int (j : Nat), H, I.tok _, ⟨_, rfl⟩, q⟩
end
end L2

/-! Sets of numbers as natural numbers: plain mathematics, own work. -/
namespace Bits

theorem tb_step (acc n : Nat) (h : acc < 2 ^ n) (m : Nat) : (acc + 2 ^ n).testBit m = (acc.testBit m || decide (m = n)) := by
  rw [Nat.add_comm]
  rcases Nat.lt_trichotomy m n with hm | hm | hm
  · rw [Nat.testBit_two_pow_add_gt hm]
    have : ¬ m = n := by omega
    simp [this]
  · subst hm
    rw [Nat.testBit_two_pow_add_eq, Nat.testBit_lt_two_pow h]
    simp
  · have h1 : 2 ^ n + acc < 2 ^ m := by
      have : 2 ^ (n + 1) ≤ 2 ^ m := Nat.pow_le_pow_right (by decide) hm
      rw [Nat.pow_succ] at this
      omega
    have h2 : acc < 2 ^ m := Nat.lt_trans h (Nat.pow_lt_pow_right (by decide) hm)
    rw [Nat.testBit_lt_two_pow h1, Nat.testBit_lt_two_pow h2]
    have : ¬ m = n := by omega
    simp [this]



theorem lt_of_bits {a n : Nat} (h : ∀ m, n ≤ m → a.testBit m = false) : a < 2 ^ n := Nat.lt_pow_two_of_testBit a (fun i hi => h i hi)


theorem low_split : ∀ x : Nat, 0 < x → ∃ t q, x = 2 ^ t * (2 * q + 1) := by
  intro x
  induction x using Nat.strongRecOn with
  | _ x ih =>
    intro h
    rcases Nat.mod_two_eq_zero_or_one x with e | e
    · obtain ⟨t, q, hq⟩ := ih (x / 2) (by omega) (by omega)
      refine ⟨t + 1, q, ?_⟩
      have : x = 2 * (x / 2) := by omega
      rw [this, hq, Nat.pow_succ]
      rw [Nat.mul_comm (2 ^ t) 2, Nat.mul_assoc]
    · exact ⟨0, x / 2, by rw [Nat.pow_zero]; omega⟩
theorem tb_odd (t q m : Nat) : (2 ^ t * (2 * q + 1)).testBit m = (decide (m = t) || (2 ^ (t + 1) * q).testBit m) := by
  have h1 := Nat.testBit_two_pow_mul_add (2 * q + 1) (b := 0) (i := t) (Nat.two_pow_pos t) m
  have h2 := Nat.testBit_two_pow_mul_add q (b := 0) (i := t + 1) (Nat.two_pow_pos _) m
  rw [Nat.add_zero] at h1 h2
  rw [h1, h2]
  rcases Nat.lt_trichotomy m t with h | h | h
  · have a1 : ¬ m = t := by omega
    have a2 : m < t + 1 := by omega
    simp [h, a1, a2]
  · subst h
    simp
  · have a1 : ¬ m = t := by omega
    have a2 : ¬ m < t + 1 := by omega
    have a3 : ¬ m < t := by omega
    simp only [a1, a2, a3, if_false, decide_false, Bool.false_or]
    obtain ⟨k, hk⟩ : ∃ k, m - t = k + 1 := ⟨m - t - 1, by omega⟩
    have hk2 : m - (t + 1) = k := by omega
    rw [hk, hk2, Nat.testBit_succ]
    congr 1
    omega
theorem and_pred (t q : Nat) : (2 ^ t * (2 * q + 1)) &&& (2 ^ t * (2 * q + 1) - 1) = 2 ^ (t + 1) * q := by
  have e : 2 ^ t * (2 * q + 1) - 1 = 2 ^ t * (2 * q) + (2 ^ t - 1) := by
    have := Nat.two_pow_pos t
    rw [Nat.mul_add, Nat.mul_one]; omega
  apply Nat.eq_of_testBit_eq
  intro m
  rw [Nat.testBit_and, tb_odd, e, Nat.testBit_two_pow_mul_add _ (by have := Nat.two_pow_pos t; omega)]
  have h2 := Nat.testBit_two_pow_mul_add q (b := 0) (i := t + 1) (Nat.two_pow_pos _) m
  rw [Nat.add_zero] at h2
  rw [h2]
  rcases Nat.lt_trichotomy m t with h | h | h
  · have a1 : ¬ m = t := by omega
    have a2 : m < t + 1 := by omega
    simp [h, a1, a2]
  · subst h
    simp
  · have a1 : ¬ m = t := by omega
    have a2 : ¬ m < t + 1 := by omega
    have a3 : ¬ m < t := by omega
    simp only [a1, a2, a3, if_false, decide_false, Bool.false_or]
    obtain ⟨k, hk⟩ : ∃ k, m - t = k + 1 := ⟨m - t - 1, by omega⟩
    have hk2 : m - (t + 1) = k := by omega
    rw [hk, hk2, Nat.testBit_succ]
    have : 2 * q / 2 = q := by omega
    rw [this, Bool.and_self]
theorem or_low (t q : Nat) : (2 ^ t * (2 * q + 1)) ||| 2 ^ t = 2 ^ t * (2 * q + 1) := by
  apply Nat.eq_of_testBit_eq
  intro m
  rw [Nat.testBit_or, tb_odd, Nat.testBit_two_pow]
  by_cases h : m = t
  · simp [h]
  · have h' : ¬ t = m := fun e => h e.symm
    simp [h, h']
theorem and_low (t q : Nat) : (2 ^ t * (2 * q + 1)) &&& 2 ^ t = 2 ^ t := by
  apply Nat.eq_of_testBit_eq
  intro m
  rw [Nat.testBit_and, tb_odd, Nat.testBit_two_pow]
  by_cases h : m = t
  · simp [h]
  · have h' : ¬ t = m := fun e => h e.symm
    simp [h']
theorem tb_high {t q m : Nat} (h : (2 ^ (t + 1) * q).testBit m = true) : t < m := by
  have h2 := Nat.testBit_two_pow_mul_add q (b := 0) (i := t + 1) (Nat.two_pow_pos _) m
  rw [Nat.add_zero] at h2
  rw [h2] at h
  rcases Nat.lt_or_ge t m with g | g
  · exact g
  · rw [if_pos (by omega)] at h
    simp at h

end Bits

set_option linter.all false
/-! Claims by plain mathematics: which lie open, which is the greatest. Own work. -/
namespace CM
def In (a b : Nat) : Prop := a &&& b = a
instance (a b : Nat) : Decidable (In a b) := inferInstanceAs (Decidable (_ = _))
theorem in_bits {a b : Nat} : In a b ↔ ∀ m, a.testBit m = true → b.testBit m = true := by
  constructor
  · intro h m ha
    have e : (a &&& b).testBit m = a.testBit m := by rw [show a &&& b = a from h]
    rw [Nat.testBit_and, ha, Bool.true_and] at e
    exact e
  · intro h
    apply Nat.eq_of_testBit_eq
    intro m
    rw [Nat.testBit_and]
    cases e : a.testBit m with
    | false => rfl
    | true => rw [h m e]; rfl
theorem in_refl (a : Nat) : In a a := Nat.and_self a
theorem in_trans {a b c : Nat} (h1 : In a b) (h2 : In b c) : In a c := in_bits.mpr fun m h => in_bits.mp h2 m (in_bits.mp h1 m h)
theorem in_le {a b : Nat} (h : In a b) : a ≤ b := by rw [← show a &&& b = a from h]; exact Nat.and_le_right
theorem in_lt {a b : Nat} (h : In a b) (hn : a ≠ b) : a < b := Nat.lt_of_le_of_ne (in_le h) hn
/-- what is greatest by a number -/
theorem exists_max (f : Nat → Nat) (p : Nat → Prop) [DecidablePred p] : ∀ (S : List Nat), (∃ j ∈ S, p j) → ∃ t ∈ S, p t ∧ ∀ i ∈ S, p i → f i ≤ f t
  | [], h => by obtain ⟨j, hj, _⟩ := h; exact nomatch hj
  | a :: r, h => by
    by_cases hr : ∃ j ∈ r, p j
    · obtain ⟨t, ht, pt, mt⟩ := exists_max f p r hr
      by_cases pa : p a ∧ f t < f a
      · refine ⟨a, List.mem_cons_self, pa.1, fun i hi pi => ?_⟩
        rcases List.mem_cons.mp hi with e | hi
        · rw [e]; exact Nat.le_refl _
        · exact Nat.le_of_lt (Nat.lt_of_le_of_lt (mt i hi pi) pa.2)
      · refine ⟨t, List.mem_cons_of_mem _ ht, pt, fun i hi pi => ?_⟩
        rcases List.mem_cons.mp hi with e | hi
        · subst e
          exact Nat.le_of_not_lt fun z => pa ⟨pi, z⟩
        · exact mt i hi pi
    · obtain ⟨j, hj, pj⟩ := h
      rcases List.mem_cons.mp hj with e | hj
      · subst e
        refine ⟨j, List.mem_cons_self, pj, fun i hi pi => ?_⟩
        rcases List.mem_cons.mp hi with e | hi
        · rw [e]; exact Nat.le_refl _
        · exact absurd ⟨i, hi, pi⟩ hr
      · exact absurd ⟨j, hj, pj⟩ hr
/-- properly within another -/
def below (f : Nat → Nat) (S : List Nat) (k : Nat) : Bool := S.any fun j => decide (f j ≠ f k) && decide (In (f k) (f j))
def tops (f : Nat → Nat) (S : List Nat) : List Nat := S.filter fun k => !below f S k
theorem below_iff {f : Nat → Nat} {S : List Nat} {k : Nat} : below f S k = true ↔ ∃ j ∈ S, f j ≠ f k ∧ In (f k) (f j) := by
  unfold below
  rw [List.any_eq_true]
  constructor
  · rintro ⟨j, hj, e⟩
    rw [Bool.and_eq_true, decide_eq_true_eq, decide_eq_true_eq] at e
    exact ⟨j, hj, e⟩
  · rintro ⟨j, hj, e⟩
    exact ⟨j, hj, by rw [Bool.and_eq_true, decide_eq_true_eq, decide_eq_true_eq]; exact e⟩
theorem mem_tops {f : Nat → Nat} {S : List Nat} {k : Nat} : k ∈ tops f S ↔ k ∈ S ∧ ¬ ∃ j ∈ S, f j ≠ f k ∧ In (f k) (f j) := by
  unfold tops
  rw [List.mem_filter, Bool.not_eq_true', ← Bool.not_eq_true, below_iff]
theorem above {f : Nat → Nat} {S : List Nat} {j : Nat} (hj : j ∈ S) : ∃ t ∈ tops f S, In (f j) (f t) := by
  obtain ⟨t, ht, pt, mt⟩ := exists_max f (fun i => In (f j) (f i)) S ⟨j, hj, in_refl _⟩
  refine ⟨t, mem_tops.mpr ⟨ht, ?_⟩, pt⟩
  rintro ⟨i, hi, hne, hin⟩
  have h1 := mt i hi (in_trans pt hin)
  have h2 := in_lt hin (fun e => hne e.symm)
  omega
theorem tops_nil {f : Nat → Nat} {S : List Nat} : tops f S = [] ↔ S = [] := by
  constructor
  · intro h
    cases S with
    | nil => rfl
    | cons a r =>
      obtain ⟨t, ht, _⟩ := above (f := f) (S := a :: r) List.mem_cons_self
      rw [h] at ht; exact nomatch ht
  · intro h; rw [h]; rfl
def union (f : Nat → Nat) (S : List Nat) : Nat := S.foldl (fun a k => a ||| f k) 0
theorem union_tb (f : Nat → Nat) (m : Nat) : ∀ (S : List Nat) (a : Nat), (S.foldl (fun a k => a ||| f k) a).testBit m = (a.testBit m || S.any fun k => (f k).testBit m)
  | [], a => by simp
  | k :: r, a => by rw [List.foldl_cons, union_tb f m r, Nat.testBit_or, List.any_cons, Bool.or_assoc]
theorem union_bits (f : Nat → Nat) (S : List Nat) (m : Nat) : (union f S).testBit m = S.any fun k => (f k).testBit m := by
  unfold union; rw [union_tb]; simp
theorem one_top {f : Nat → Nat} {S : List Nat} {k : Nat} (h : tops f S = [k]) : k ∈ S ∧ union f S = f k ∧ S.filter (fun i => decide (f i = union f S)) = [k] := by
  have hk : k ∈ tops f S := by rw [h]; exact List.mem_singleton.mpr rfl
  have hkS := (mem_tops.mp hk).1
  have all : ∀ j ∈ S, In (f j) (f k) := fun j hj => by
    obtain ⟨t, ht, hin⟩ := above (f := f) hj
    rw [h] at ht
    rw [← List.mem_singleton.mp ht]; exact hin
  have hu : union f S = f k := by
    apply Nat.eq_of_testBit_eq
    intro m
    rw [union_bits]
    cases e : (f k).testBit m with
    | true => exact List.any_eq_true.mpr ⟨k, hkS, e⟩
    | false =>
      rw [List.any_eq_false]
      intro j hj z
      rw [in_bits.mp (all j hj) m z] at e
      cases e
  refine ⟨hkS, hu, ?_⟩
  rw [← h, hu]
  unfold tops
  apply List.filter_congr
  intro i hi
  by_cases e : f i = f k
  · have : i ∈ tops f S := mem_tops.mpr ⟨hi, by
      rintro ⟨j, hj, hne, hin⟩
      rw [e] at hne hin
      exact (mem_tops.mp hk).2 ⟨j, hj, hne, hin⟩⟩
    have hb := (List.mem_filter.mp this).2
    rw [hb, decide_eq_true e]
  · have hb : below f S i = true := below_iff.mpr ⟨k, hkS, fun z => e z.symm, all i hi⟩
    rw [hb, decide_eq_false e]; rfl
/-! ### the claims by their last numbers -/
section
variable {N : Type} [DecidableEq N]
def lastOf (x : Nat) : Option Nat := if x = 0 then none else some (Nat.log2 x)
def bitsAt (rows : List (N × Nat)) (k : Nat) : Nat := (rows[k]?.map (·.2)).getD 0
def nameIs (rows : List (N × Nat)) (nm : N) (k : Nat) : Bool := rows[k]?.any fun r => decide (r.1 = nm)
/-- the numbers of the claims of a name with such a last number -/
def bucket (rows : List (N × Nat)) (nm : N) (l : Option Nat) : List Nat := (List.range rows.length).filter fun k => nameIs rows nm k && decide (lastOf (bitsAt rows k) = l)
/-- the numbers of those that lie open -/
def opens (rows : List (N × Nat)) (nm : N) (b : Nat) : List Nat := (List.range rows.length).filter fun k => nameIs rows nm k && decide (In (bitsAt rows k) b)
theorem bitsAt_old {rows : List (N × Nat)} {r : N × Nat} {k : Nat} (h : k < rows.length) : bitsAt (rows ++ [r]) k = bitsAt rows k := by
  unfold bitsAt; rw [List.getElem?_append_left h]
theorem nameIs_old {rows : List (N × Nat)} {r : N × Nat} {nm : N} {k : Nat} (h : k < rows.length) : nameIs (rows ++ [r]) nm k = nameIs rows nm k := by
  unfold nameIs; rw [List.getElem?_append_left h]
theorem bucket_snoc (rows : List (N × Nat)) (r : N × Nat) (nm : N) (l : Option Nat) : bucket (rows ++ [r]) nm l = bucket rows nm l ++ (if r.1 = nm ∧ lastOf r.2 = l then [rows.length] else []) := by
  unfold bucket
  rw [List.length_append, List.length_singleton, List.range_succ, List.filter_append]
  congr 1
  · apply List.filter_congr
    intro k hk
    have := List.mem_range.mp hk
    rw [bitsAt_old this, nameIs_old this]
  · have e1 : bitsAt (rows ++ [r]) rows.length = r.2 := by unfold bitsAt; simp
    have e2 : nameIs (rows ++ [r]) nm rows.length = decide (r.1 = nm) := by unfold nameIs; simp
    rw [List.filter_cons, e1, e2, List.filter_nil]
    by_cases h1 : r.1 = nm <;> by_cases h2 : lastOf r.2 = l <;> simp [h1, h2]
theorem mem_bucket {rows : List (N × Nat)} {nm : N} {l : Option Nat} {k : Nat} : k ∈ bucket rows nm l ↔ k < rows.length ∧ nameIs rows nm k = true ∧ lastOf (bitsAt rows k) = l := by
  unfold bucket
  rw [List.mem_filter, List.mem_range, Bool.and_eq_true, decide_eq_true_eq]
theorem mem_opens {rows : List (N × Nat)} {nm : N} {b k : Nat} : k ∈ opens rows nm b ↔ k < rows.length ∧ nameIs rows nm k = true ∧ In (bitsAt rows k) b := by
  unfold opens
  rw [List.mem_filter, List.mem_range, Bool.and_eq_true, decide_eq_true_eq]
theorem opens_sorted (rows : List (N × Nat)) (nm : N) (b : Nat) : (opens rows nm b).Pairwise (· < ·) := List.Pairwise.filter _ List.pairwise_lt_range
theorem bucket_nodup (rows : List (N × Nat)) (nm : N) (l : Option Nat) : (bucket rows nm l).Nodup := List.Pairwise.filter _ List.nodup_range
/-- what open_to gathers -/
def gath (rows : List (N × Nat)) (nm : N) (b : Nat) (ls : List Nat) : List Nat := bucket rows nm none ++ ls.flatMap fun l => (bucket rows nm (some l)).filter fun k => decide (In (bitsAt rows k) b)
theorem log2_bit {x : Nat} (h : x ≠ 0) : x.testBit (Nat.log2 x) = true := Nat.testBit_log2 h
theorem mem_gath {rows : List (N × Nat)} {nm : N} {b : Nat} {ls : List Nat} (hls : ∀ m, m ∈ ls ↔ b.testBit m = true) {k : Nat} : k ∈ gath rows nm b ls ↔ k ∈ opens rows nm b := by
  unfold gath
  rw [List.mem_append, List.mem_flatMap, mem_bucket, mem_opens]
  constructor
  · rintro (⟨h1, h2, h3⟩ | ⟨l, hl, hk⟩)
    · refine ⟨h1, h2, ?_⟩
      unfold lastOf at h3
      by_cases e : bitsAt rows k = 0
      · rw [e]; unfold In; exact Nat.zero_and b
      · rw [if_neg e] at h3; cases h3
    · obtain ⟨hb, hin⟩ := List.mem_filter.mp hk
      obtain ⟨h1, h2, _⟩ := mem_bucket.mp hb
      exact ⟨h1, h2, of_decide_eq_true hin⟩
  · rintro ⟨h1, h2, h3⟩
    by_cases e : bitsAt rows k = 0
    · exact .inl ⟨h1, h2, by unfold lastOf; rw [if_pos e]⟩
    · right
      refine ⟨Nat.log2 (bitsAt rows k), (hls _).mpr (in_bits.mp h3 _ (log2_bit e)), List.mem_filter.mpr ⟨mem_bucket.mpr ⟨h1, h2, by unfold lastOf; rw [if_neg e]⟩, decide_eq_true h3⟩⟩
theorem gath_nodup {rows : List (N × Nat)} {nm : N} {b : Nat} {ls : List Nat} (hnd : ls.Nodup) : (gath rows nm b ls).Nodup := by
  unfold gath
  rw [List.nodup_append]
  refine ⟨bucket_nodup _ _ _, ?_, ?_⟩
  · induction ls with
    | nil => exact List.nodup_nil
    | cons l r ih =>
      obtain ⟨h1, h2⟩ := List.nodup_cons.mp hnd
      rw [List.flatMap_cons, List.nodup_append]
      refine ⟨List.Pairwise.filter _ (bucket_nodup _ _ _), ih h2, ?_⟩
      intro x hx y hy e
      subst e
      obtain ⟨l', hl', hy⟩ := List.mem_flatMap.mp hy
      have e1 := (mem_bucket.mp (List.mem_filter.mp hx).1).2.2
      have e2 := (mem_bucket.mp (List.mem_filter.mp hy).1).2.2
      rw [e1] at e2
      rw [Option.some.inj e2] at h1
      exact h1 hl'
  · intro x hx y hy e
    subst e
    obtain ⟨l', hl', hy⟩ := List.mem_flatMap.mp hy
    have e1 := (mem_bucket.mp hx).2.2
    have e2 := (mem_bucket.mp (List.mem_filter.mp hy).1).2.2
    rw [e1] at e2
    cases e2
end
end CM

set_option Elab.async false
set_option linter.all false
set_option maxRecDepth 100000
set_option maxHeartbeats 4000000
/-! Sets: within, told. Own work (made of a template for each statement that reaches them). -/
namespace K25
open PySem L2 Builtin.Str
def top (i : Nat) : Stmt := PySem.Challenge.pw_macrohouse_k25_claims_kept.main.body.getD i (.Pass ⟨0, 0, 0, 0⟩)
abbrev sWithin : Stmt := top 4
abbrev sTold : Stmt := top 5
/-! ### the sets' mathematics -/
/-- the number n is the set of the ints ys -/
def BitsOf (n : Nat) (ys : List Int) : Prop := (∀ m : Nat, n.testBit m = decide ((m : Int) ∈ ys)) ∧ ∀ y ∈ ys, 0 ≤ y
theorem low_and {t q : Nat} : Builtin.bitAnd ((2 ^ t * (2 * q + 1) : Nat) : Int) (-((2 ^ t * (2 * q + 1) : Nat) : Int)) = ((2 ^ t : Nat) : Int) := by
  have hp := Nat.two_pow_pos t
  have hx : 0 < 2 ^ t * (2 * q + 1) := Nat.mul_pos hp (by omega)
  generalize hxe : 2 ^ t * (2 * q + 1) = x at hx
  have ha := Bits.and_pred t q
  rw [hxe] at ha
  unfold Builtin.bitAnd
  have d1 : decide (0 ≤ (x : Int)) = true := by simp
  have d2 : decide (0 ≤ -(x : Int)) = false := by simp; omega
  rw [d1, d2]
  show (x : Int) - (((x : Int).toNat &&& (Builtin.bitNot (-(x : Int))).toNat : Nat) : Int) = _
  have e1 : (Builtin.bitNot (-(x : Int))).toNat = x - 1 := by unfold Builtin.bitNot; omega
  rw [e1, Int.toNat_natCast, ha]
  have e2 : x = 2 ^ t + 2 ^ (t + 1) * q := by
    rw [← hxe, Nat.pow_succ, Nat.mul_add, Nat.mul_one]
    have : 2 ^ t * (2 * q) = 2 ^ t * 2 * q := by rw [Nat.mul_assoc]
    omega
  omega
theorem low_xor {t q : Nat} : Builtin.bitXor ((2 ^ t * (2 * q + 1) : Nat) : Int) ((2 ^ t : Nat) : Int) = ((2 ^ (t + 1) * q : Nat) : Int) := by
  unfold Builtin.bitXor Builtin.bitOr
  have e : Builtin.bitAnd (Builtin.bitNot ((2 ^ t * (2 * q + 1) : Nat) : Int)) (Builtin.bitNot ((2 ^ t : Nat) : Int)) = Builtin.bitNot (((2 ^ t * (2 * q + 1)) ||| 2 ^ t : Nat) : Int) := by
    unfold Builtin.bitAnd
    have d1 : ∀ z : Nat, decide (0 ≤ Builtin.bitNot (z : Int)) = false := fun z => by unfold Builtin.bitNot; simp; omega
    rw [d1, d1]
    have e1 : ∀ z : Nat, (Builtin.bitNot (Builtin.bitNot (z : Int))).toNat = z := fun z => by unfold Builtin.bitNot; omega
    show Builtin.bitNot (((Builtin.bitNot (Builtin.bitNot ((2 ^ t * (2 * q + 1) : Nat) : Int))).toNat ||| (Builtin.bitNot (Builtin.bitNot ((2 ^ t : Nat) : Int))).toNat : Nat) : Int) = _
    rw [e1, e1]
  rw [e, PyProof.Rows.bitAnd_pp (Int.natCast_nonneg _) (Int.natCast_nonneg _), Int.toNat_natCast, Int.toNat_natCast, Bits.or_low, Bits.and_low]
  have e2 : 2 ^ t * (2 * q + 1) = 2 ^ t + 2 ^ (t + 1) * q := by
    rw [Nat.pow_succ, Nat.mul_add, Nat.mul_one]
    have : 2 ^ t * (2 * q) = 2 ^ t * 2 * q := by rw [Nat.mul_assoc]
    omega
  unfold Builtin.bitNot
  omega
theorem or_nn (a b : Nat) : Builtin.bitOr (a : Int) (b : Int) = ((a ||| b : Nat) : Int) := by
  unfold Builtin.bitOr
  have e : Builtin.bitAnd (Builtin.bitNot (a : Int)) (Builtin.bitNot (b : Int)) = Builtin.bitNot ((a ||| b : Nat) : Int) := by
    unfold Builtin.bitAnd
    have d1 : ∀ z : Nat, decide (0 ≤ Builtin.bitNot (z : Int)) = false := fun z => by unfold Builtin.bitNot; simp; omega
    rw [d1, d1]
    have e1 : ∀ z : Nat, (Builtin.bitNot (Builtin.bitNot (z : Int))).toNat = z := fun z => by unfold Builtin.bitNot; omega
    show Builtin.bitNot (((Builtin.bitNot (Builtin.bitNot (a : Int))).toNat ||| (Builtin.bitNot (Builtin.bitNot (b : Int))).toNat : Nat) : Int) = _
    rw [e1, e1]
  rw [e]
  unfold Builtin.bitNot
  omega
theorem len_low (t : Nat) : ((Builtin.Int.intBits ((2 ^ t : Nat) : Int) : Nat) : Int) - 1 = (t : Int) := by
  have hp := Nat.two_pow_pos t
  unfold Builtin.Int.intBits
  have h0 : ¬ (((2 ^ t : Nat) : Int) == 0) = true := by
    rw [beq_iff_eq]; omega
  rw [if_neg h0, Int.natAbs_natCast, Nat.log2_two_pow]
  omega
/-! ### promises -/
def Sorted (ys : List Int) : Prop := ys.Pairwise (· < ·)
theorem and_nn (a b : Nat) : Builtin.bitAnd (a : Int) (b : Int) = ((a &&& b : Nat) : Int) := by
  unfold Builtin.bitAnd
  have d1 : ∀ z : Nat, decide (0 ≤ (z : Int)) = true := fun z => decide_eq_true (by omega)
  rw [d1, d1]
  rfl
theorem dec_V {x y : Int} : decide (V.int x = V.int y) = decide (x = y) := by
  rw [decide_eq_decide]; exact ⟨fun e => by injection e, fun e => by rw [e]⟩
/-- one set within another -/
def spWithin : Sp := fun vs H Q _ => ∃ x y : Nat, vs = [.int x, .int y] ∧ Q (.bl (decide (CM.In x y))) H
def spTold : Sp := fun vs H Q _ => ∃ (n : Nat) (ys : List Int), vs = [.int n] ∧ BitsOf n ys ∧ ys.length ≤ 1000 ∧ ∀ (l : Addr) (L : List Int), H l = none → Sorted L → (∀ z, z ∈ L ↔ z ∈ ys) → Q (.ref l) (upd H l (.lst (L.map V.int)))
section
variable {P : Program} {w : World} {K : PySem.W.Frag} {mg : Str → Option Value} {base : Heap}
theorem scWithin : FnScope ["one", "other"] ["one", "other"] (defScope sWithin) := ⟨rfl, rfl, rfl, by decide +kernel, rfl, by decide +kernel, by decide +kernel⟩
theorem ok_within {f : Addr} {fd : FuncData} (F : Fun K "within" "within" sWithin f fd) : FnOk P w K mg base CX0 1 f fd ["one", "other"] spWithin := by
  refine F.ok scWithin (fun vs H Q E h => ?_) (fun cdv A outer s H vs Q E hr h => ?_)
  · obtain ⟨x, y, rfl, _⟩ := h; rfl
  · obtain ⟨x, y, rfl, k⟩ := h
    refine ⟨_, pss_one (ps_ret (pe_cmpR op_eq (pe_op op_and (pv 0) (pv 1)) (pv 0) (nomark _))), ?_⟩
    refine ⟨_, rfl, _, rfl, _, _, rfl, rfl, _, rfl, rfl, ?_⟩
    have e : decide (V.int (Builtin.bitAnd (x : Int) (y : Int)) = V.int (x : Int)) = decide (CM.In x y) := by
      rw [dec_V, and_nn, decide_eq_decide]
      unfold CM.In
      omega
    show Q (.bl (decide (V.int (Builtin.bitAnd (x : Int) (y : Int)) = V.int (x : Int)))) H
    rw [e]
    exact k
theorem scTold : FnScope ["bits", "numbers", "left", "lowest"] ["bits"] (defScope sTold) := ⟨rfl, rfl, rfl, by decide +kernel, rfl, by decide +kernel, by decide +kernel⟩
theorem ok_told {f : Addr} {fd : FuncData} (F : Fun K "told" "told" sTold f fd) : FnOk P w K mg base CX0 1 f fd ["bits"] spTold := by
  refine F.ok scTold (fun vs H Q E h => ?_) (fun cdv A outer s H vs Q E hr h => ?_)
  · obtain ⟨n, ys, rfl, _⟩ := h; rfl
  · obtain ⟨n, ys, rfl, hb, hy, q⟩ := h
    have nd := scTold.nd
    refine ⟨_, pss_cons (ps_set (i := 1) nd rfl (Or.inl rfl) (pe_lst pa_nil))
      (pss_cons (ps_set (i := 2) nd rfl (Or.inl rfl) (pv 0))
      (pss_cons (ps_while PassesOwn.never (pt_cmpR op_gt (pv 2) pe_int (nomark _))
        (pss_cons (ps_set (i := 3) nd rfl (Or.inl rfl) (pe_op op_and (pv 2) (pe_un un_neg (pv 2))))
        (pss_cons (ps_expr (pe_bm PySem.F.plainAttrs_list PySem.F.slot_list_append PySem.F.type_list_append mt_append (pv 1) (pa_cons (pe_op op_sub (pe_bm0 PySem.F.plainAttrs_int PySem.F.slot_int_bit_length PySem.F.type_int_bit_length mt_bitlen (pv 3)) pe_int) pa_nil)))
        (pss_one (ps_set (i := 2) nd rfl (Or.inl rfl) (pe_op op_xor (pv 2) (pv 3)))))))
      (pss_one (ps_ret (pv 1))))), ?_⟩
    refine ⟨(by show 0 ≤ sizeLine; exact Nat.zero_le _), fun l hfr => ?_⟩
    refine ⟨_, rfl, ?_⟩
    refine while_by (fun σ H' => ∃ (L R : List Int) (r : Nat) (v : Option V), σ = [some (.int n), some (.ref l), some (.int r), v] ∧ H' = upd H l (.lst (L.map V.int)) ∧ Sorted L ∧ BitsOf r R ∧ (∀ x ∈ L, ∀ y ∈ R, x < y) ∧ (∀ z, z ∈ ys ↔ z ∈ L ∨ z ∈ R) ∧ L.Nodup ∧ ∀ z ∈ L, z ∈ ys)
      (fun σ _ => match σ with | [_, _, some (.int r), _] => r.toNat | _ => 0) ⟨[], ys, n, none, rfl, rfl, List.Pairwise.nil, hb, (fun _ h => by cases h), (fun z => by simp), List.nodup_nil, fun _ h => by cases h⟩ ?_ ?_
    · rintro σ H' ⟨L, R, r, v, rfl, rfl, hs, hR, hlr, hall, hnd, hsub⟩
      refine ⟨_, rfl, _, _, rfl, rfl, _, rfl, ?_⟩
      refine ite2 (fun hpos => ?_) (fun hz => ?_)
      · have hr0 : 0 < r := by rw [decide_eq_true_eq] at hpos; omega
        obtain ⟨t, q', hr'⟩ := Bits.low_split r hr0
        subst hr'
        refine ⟨_, rfl, _, rfl, _, rfl, _, _, rfl, rfl, ?_⟩
        dsimp only
        rw [low_and]
        have ht : (t : Int) ∈ R := by
          have := hR.1 t
          rw [Bits.tb_odd] at this
          simpa using this.symm
        have hlen : L.length < 1000 := by
          have hsub2 : ∀ z ∈ L ++ [(t : Int)], z ∈ ys := fun z hz => by
            rcases List.mem_append.mp hz with h | h
            · exact hsub z h
            · rw [List.mem_singleton.mp h]; exact (hall _).mpr (.inr ht)
          have hnd2 : (L ++ [(t : Int)]).Nodup := by
            rw [List.nodup_append]
            refine ⟨hnd, by simp, fun x hx y hy e => ?_⟩
            rw [List.mem_singleton.mp hy] at e
            have := hlr x hx t ht
            omega
          have := len_le_of_sub hnd2 hsub2
          rw [List.length_append, List.length_singleton] at this
          omega
        refine ⟨_, rfl, .inl ⟨rfl, _, SqL.of upd_same⟩, _, rfl, rfl, _, rfl, rfl, _, _, rfl, rfl, l, _, _, rfl, rfl, upd_same, ?_, ?_⟩
        · rw [List.length_map, sizeLine_eq]; omega
        dsimp only
        rw [len_low, upd_upd]
        refine ⟨_, rfl, _, rfl, _, _, rfl, rfl, ?_⟩
        dsimp only
        rw [low_xor]
        have hhi : ∀ m : Nat, (2 ^ (t + 1) * q').testBit m = decide ((m : Int) ∈ R.filter fun z => decide ((t : Int) < z)) := fun m => by
          have h1 := hR.1 m
          rw [Bits.tb_odd] at h1
          rw [Bool.eq_iff_iff, decide_eq_true_eq, List.mem_filter, decide_eq_true_eq]
          constructor
          · intro h
            rw [h, Bool.or_true] at h1
            exact ⟨by simpa using h1.symm, by have := Bits.tb_high h; omega⟩
          · rintro ⟨h2, h3⟩
            rw [decide_eq_true h2] at h1
            have : ¬ m = t := by omega
            simpa [this] using h1
        refine ⟨⟨L ++ [(t : Int)], R.filter fun z => decide ((t : Int) < z), 2 ^ (t + 1) * q', _, rfl, by rw [List.map_append]; rfl, ?_, ⟨hhi, fun y hy => hR.2 y (List.mem_filter.mp hy).1⟩, ?_, ?_, ?_, ?_⟩, ?_⟩
        · rw [Sorted, List.pairwise_append]
          refine ⟨hs, by simp, fun x hx y hy => ?_⟩
          rw [List.mem_singleton.mp hy]
          exact hlr x hx t ht
        · intro x hx y hy
          have hy' := List.mem_filter.mp hy
          rw [decide_eq_true_eq] at hy'
          rcases List.mem_append.mp hx with h | h
          · exact hlr x h y hy'.1
          · rw [List.mem_singleton.mp h]; exact hy'.2
        · intro z
          rw [hall z, List.mem_append, List.mem_singleton, List.mem_filter, decide_eq_true_eq]
          constructor
          · rintro (h | h)
            · exact .inl (.inl h)
            · have z0 := hR.2 z h
              obtain ⟨m, rfl⟩ : ∃ m : Nat, z = m := ⟨z.toNat, by omega⟩
              have h1 := hR.1 m
              rw [Bits.tb_odd, decide_eq_true h] at h1
              by_cases e : m = t
              · subst e; exact .inl (.inr rfl)
              · have h2 : (2 ^ (t + 1) * q').testBit m = true := by simpa [e] using h1
                exact .inr ⟨h, by have := Bits.tb_high h2; omega⟩
          · rintro ((h | h) | h)
            · exact .inl h
            · rw [h]; exact .inr ht
            · exact .inr h.1
        · rw [List.nodup_append]
          refine ⟨hnd, by simp, fun x hx y hy e => ?_⟩
          rw [List.mem_singleton.mp hy] at e
          have := hlr x hx t ht
          omega
        · intro z hz
          rcases List.mem_append.mp hz with h | h
          · exact hsub z h
          · rw [List.mem_singleton.mp h]; exact (hall _).mpr (.inr ht)
        · show (((2 ^ (t + 1) * q' : Nat) : Int)).toNat < (((2 ^ t * (2 * q' + 1) : Nat) : Int)).toNat
          rw [Int.toNat_natCast, Int.toNat_natCast, Nat.pow_succ, Nat.mul_add, Nat.mul_one]
          have := Nat.two_pow_pos t
          have : 2 ^ t * (2 * q') = 2 ^ t * 2 * q' := by rw [Nat.mul_assoc]
          omega
      · have hr0 : r = 0 := by rw [decide_eq_true_eq] at hz; omega
        subst hr0
        have hRe : ∀ z, ¬ z ∈ R := fun z hz' => by
          have z0 := hR.2 z hz'
          obtain ⟨m, rfl⟩ : ∃ m : Nat, z = m := ⟨z.toNat, by omega⟩
          have h1 := hR.1 m
          rw [decide_eq_true hz'] at h1
          simp at h1
        refine ⟨_, rfl, q l L hfr hs fun z => ?_⟩
        rw [hall z]
        exact ⟨.inl, fun h => h.elim id fun h => absurd h (hRe z)⟩
    · rintro σ H' Q1 Q2 hQ ⟨x, e, i, j, e1, e2, k, e3, h⟩
      exact ⟨x, e, i, j, e1, e2, k, e3, hQ _ _ h⟩

end
end K25

set_option Elab.async false
set_option linter.all false
set_option maxRecDepth 100000
set_option maxHeartbeats 4000000
/-! Claims: how they lie on the heap; put, open_to. Own work (made of a template for each statement that reaches them). -/
namespace K25
open PySem L2 Builtin.Str CM
abbrev sCInit : Stmt := inClass (top 7) 0
abbrev sCPut : Stmt := inClass (top 7) 1
abbrev sCOf : Stmt := inClass (top 7) 2
abbrev sCOpen : Stmt := inClass (top 7) 3
abbrev sLast : Stmt := top 8
/-- what is asked of the class and of the names -/
structure ClT (K : PySem.W.Frag) (mg : Str → Option Value) (C : Addr) : Prop where
  cl : Cls K C
  nR : NoAttr K C "rows"
  nB : NoAttr K C "by_last"
  mgC : mg "Claims" = some (.ref C)
  len : mg "len" = none
  list : mg "list" = none
  sorted : mg "sorted" = none
def keyL : Option Nat → Key
  | none => .inl none
  | some l => .inl (some (l : Int))
def valL : Option Nat → V
  | none => .non
  | some l => .int l
theorem keyL_inj {a b : Option Nat} (h : keyL a = keyL b) : a = b := by
  cases a with
  | none => cases b with
    | none => rfl
    | some y => exact nomatch Sum.inl.inj h
  | some x => cases b with
    | none => exact nomatch Sum.inl.inj h
    | some y =>
      have e := Option.some.inj (Sum.inl.inj h)
      have : x = y := by omega
      rw [this]
theorem kV_L (l : Option Nat) : valL l = kV (keyL l) := by cases l <;> rfl
abbrev Rw := List (Str × Nat)
def nums (ks : List Nat) : List V := ks.map fun (k : Nat) => V.int (k : Int)
/-- the parts of a Claims -/
structure CR where
  dx : Addr
  lr : Addr
  db : Addr
  D : Str → Option Addr
  L : Str → Option Nat → Option Addr
  kvs : List (Key × V)
  kv2 : Str → List (Key × V)
def Own (r : CR) (a : Addr) : Prop := a = r.lr ∨ a = r.db ∨ (∃ nm, r.D nm = some a) ∨ ∃ nm l, r.L nm l = some a
structure CL (C : Addr) (r : CR) (H : Hp) (x : Addr) (rows : Rw) (rv : List V) : Prop where
  ins : H x = some (.ins C r.dx [("rows", .ref r.lr), ("by_last", .ref r.db)])
  hlr : H r.lr = some (.lst rv)
  len : rv.length = rows.length
  row : ∀ (k : Nat) (n : Str) (b : Nat), rows[k]? = some (n, b) → ∃ t a m, rv[k]? = some (.ref t) ∧ H t = some (.tup [.str n, a, .int b, m])
  db : H r.db = some (.dK r.kvs)
  dget : ∀ nm, valV r.kvs (.inr nm) = (r.D nm).map V.ref
  dlen : r.kvs.length ≤ rows.length
  din : ∀ nm a, r.D nm = some a → H a = some (.dK (r.kv2 nm)) ∧ (r.kv2 nm).length ≤ rows.length ∧ ∀ l, valV (r.kv2 nm) (keyL l) = (r.L nm l).map V.ref
  lin : ∀ nm l a, r.L nm l = some a → H a = some (.lst (nums (bucket rows nm l)))
  lno : ∀ nm l, r.L nm l = none → bucket rows nm l = []
  dno : ∀ nm, r.D nm = none → ∀ l, r.L nm l = none
  injD : ∀ n m a, r.D n = some a → r.D m = some a → n = m
  injL : ∀ n l m k a, r.L n l = some a → r.L m k = some a → n = m ∧ l = k
  neD : ∀ n, r.D n ≠ some r.db
  neL : ∀ n l, r.L n l ≠ some r.lr
theorem CL.same {C : Addr} {r : CR} {H H' : Hp} {x : Addr} {rows : Rw} {rv : List V} (h : CL C r H x rows rv) (s : Same H H') : CL C r H' x rows rv where
  ins := s _ _ h.ins
  hlr := s _ _ h.hlr
  len := h.len
  row := fun k n b e => by obtain ⟨t, a, m, h1, h2⟩ := h.row k n b e; exact ⟨t, a, m, h1, s _ _ h2⟩
  db := s _ _ h.db
  dget := h.dget
  dlen := h.dlen
  din := fun nm a e => by obtain ⟨h1, h2, h3⟩ := h.din nm a e; exact ⟨s _ _ h1, h2, h3⟩
  lin := fun nm l a e => s _ _ (h.lin nm l a e)
  lno := h.lno
  dno := h.dno
  injD := h.injD
  injL := h.injL
  neD := h.neD
  neL := h.neL
/-- other things written than its own -/
theorem CL.off {C : Addr} {r : CR} {H H' : Hp} {x : Addr} {rows : Rw} {rv : List V} (h : CL C r H x rows rv) (s : ∀ b o, H b = some o → (Own r b ∨ b = x ∨ ∃ xs, o = .tup xs) → H' b = some o) : CL C r H' x rows rv where
  ins := s _ _ h.ins (.inr (.inl rfl))
  hlr := s _ _ h.hlr (.inl (.inl rfl))
  len := h.len
  row := fun k n b e => by obtain ⟨t, a, m, h1, h2⟩ := h.row k n b e; exact ⟨t, a, m, h1, s _ _ h2 (.inr (.inr ⟨_, rfl⟩))⟩
  db := s _ _ h.db (.inl (.inr (.inl rfl)))
  dget := h.dget
  dlen := h.dlen
  din := fun nm a e => by obtain ⟨h1, h2, h3⟩ := h.din nm a e; exact ⟨s _ _ h1 (.inl (.inr (.inr (.inl ⟨nm, e⟩)))), h2, h3⟩
  lin := fun nm l a e => s _ _ (h.lin nm l a e) (.inl (.inr (.inr (.inr ⟨nm, l, e⟩))))
  lno := h.lno
  dno := h.dno
  injD := h.injD
  injL := h.injL
  neD := h.neD
  neL := h.neL
theorem CL.lst {C : Addr} {r : CR} {H : Hp} {x : Addr} {rows : Rw} {rv : List V} (h : CL C r H x rows rv) {a : Addr} (o : Own r a) : ∃ u, H a = some u := by
  rcases o with e | e | ⟨nm, e⟩ | ⟨nm, l, e⟩
  · exact ⟨_, by rw [e]; exact h.hlr⟩
  · exact ⟨_, by rw [e]; exact h.db⟩
  · exact ⟨_, (h.din nm a e).1⟩
  · exact ⟨_, h.lin nm l a e⟩
/-! ### promises -/
def spCInit (C : Addr) : Sp := fun vs H Q _ => ∃ x dx, vs = [.ref x] ∧ H x = some (.ins C dx []) ∧ ∀ (H' : Hp) (r : CR), CL C r H' x [] [] → (∀ b o, b ≠ x → H b = some o → H' b = some o) → (∀ b, Own r b → H b = none) → Q .non H'
def spLast : Sp := fun vs H Q _ => ∃ n : Nat, vs = [.int n] ∧ Q (valL (lastOf n)) H
def spPut (C : Addr) : Sp := fun vs H Q _ => ∃ (x : Addr) (nm : Str) (at_ m : V) (b : Nat) (r : CR) (rows : Rw) (rv : List V), vs = [.ref x, .str nm, at_, .int b, m] ∧ CL C r H x rows rv ∧ rows.length ≤ 1000 ∧
  ∀ (H' : Hp) (r' : CR) (t : Addr), CL C r' H' x (rows ++ [(nm, b)]) (rv ++ [.ref t]) → H t = none → H' t = some (.tup [.str nm, at_, .int b, m]) → (∀ c o, ¬ Own r c → H c = some o → H' c = some o) → (∀ c, Own r' c → Own r c ∨ H c = none) → Q (.int (rows.length : Int)) H'
def spOpen (C : Addr) : Sp := fun vs H Q _ => ∃ (x : Addr) (nm : Str) (b : Nat) (ys : List Int) (r : CR) (rows : Rw) (rv : List V), vs = [.ref x, .str nm, .int b] ∧ CL C r H x rows rv ∧ rows.length ≤ 1000 ∧ (opens rows nm b).length < 64 ∧ BitsOf b ys ∧ ys.length ≤ 1000 ∧
  ∀ (H' : Hp) (D : Addr), Same H H' → H D = none → H' D = some (.lst (nums (opens rows nm b))) → Q (.ref D) H'
section
variable {P : Program} {w : World} {K : PySem.W.Frag} {mg : Str → Option Value} {base : Heap} {C : Addr}
theorem scCInit : FnScope ["self"] ["self"] (defScope sCInit) := ⟨rfl, rfl, rfl, by decide +kernel, rfl, by decide +kernel, by decide +kernel⟩
theorem ok_cinit {f : Addr} {fd : FuncData} (F : Fun K "__init__" "Claims.__init__" sCInit f fd) (T : ClT K mg C) : FnOk P w K mg base CX0 1 f fd ["self"] (spCInit C) := by
  refine F.ok scCInit (fun vs H Q E h => ?_) (fun cdv A outer s H vs Q E hr h => ?_)
  · obtain ⟨x, dx, rfl, _⟩ := h; rfl
  · obtain ⟨x, dx, rfl, hx, q⟩ := h
    refine ⟨_, pss_cons (ps_fld (pv 0) (pe_lst pa_nil) rfl) (pss_one (ps_fld (pv 0) pe_dnewK rfl)), ?_⟩
    refine ⟨Nat.zero_le _, fun l hl => ?_⟩
    have n1 : x ≠ l := ne_of_none hx hl
    refine ⟨_, rfl, x, C, dx, [], rfl, by rw [upd_ne n1]; exact hx, T.cl, T.nR, by decide, ?_⟩
    refine fun d hd => ?_
    have hd2 : d ≠ x := fun e => by rw [e, upd_same] at hd; cases hd
    have hd3 : d ≠ l := fun e => by rw [e, upd_ne (Ne.symm n1), upd_same] at hd; cases hd
    rw [upd_ne hd2, upd_ne hd3] at hd
    refine ⟨_, rfl, x, C, dx, _, rfl, by rw [upd_ne (Ne.symm hd2), upd_same], T.cl, T.nB, by show 1 < 1000; decide, ?_⟩
    refine q _ ⟨dx, l, d, fun _ => none, fun _ _ => none, [], fun _ => []⟩ ⟨upd_same, ?_, rfl, (fun k n b e => by simp at e), ?_, fun _ => rfl, Nat.le_refl _, (fun _ _ e => nomatch e), (fun _ _ _ e => nomatch e), fun _ _ _ => rfl, fun _ _ _ => rfl, (fun _ _ _ e => nomatch e), (fun _ _ _ _ _ e => nomatch e), (fun _ e => nomatch e), fun _ _ e => nomatch e⟩ (fun b o hb e => ?_) (fun b o => ?_)
    · show upd _ x _ l = _
      rw [upd_ne (Ne.symm n1), upd_ne (Ne.symm hd3), upd_ne (Ne.symm n1), upd_same]
    · show upd _ x _ d = _
      rw [upd_ne hd2, upd_same]
    · rw [upd_ne hb, upd_ne (ne_of_none e hd), upd_ne hb, upd_ne (ne_of_none e hl)]; exact e
    · rcases o with e | e | ⟨_, e⟩ | ⟨_, _, e⟩
      · rw [show b = l from e]; exact hl
      · rw [show b = d from e]; exact hd
      · exact nomatch e
      · exact nomatch e
theorem scLast : FnScope ["bits"] ["bits"] (defScope sLast) := ⟨rfl, rfl, rfl, by decide +kernel, rfl, by decide +kernel, by decide +kernel⟩
theorem ok_last {f : Addr} {fd : FuncData} (F : Fun K "last_of" "last_of" sLast f fd) : FnOk P w K mg base CX0 1 f fd ["bits"] spLast := by
  refine F.ok scLast (fun vs H Q E h => ?_) (fun cdv A outer s H vs Q E hr h => ?_)
  · obtain ⟨n, rfl, _⟩ := h; rfl
  · obtain ⟨n, rfl, q⟩ := h
    refine ⟨_, pss_one (ps_ret (pe_ifExp (pt_cmpR op_eq (pv 0) pe_int (nomark _)) pe_non (pe_op op_sub (pe_bm0 PySem.F.plainAttrs_int PySem.F.slot_int_bit_length PySem.F.type_int_bit_length mt_bitlen (pv 0)) pe_int))), ?_⟩
    unfold lastOf at q
    refine ⟨_, rfl, rfl, decide (n = 0), by rw [decide_eq_decide.mpr (show (V.int (n : Int) = V.int 0) ↔ n = 0 from ⟨fun e => by injection e with e; omega, fun e => by rw [e]; rfl⟩)], ?_⟩
    by_cases h0 : n = 0
    · rw [decide_eq_true h0]
      rw [if_pos h0] at q
      exact iteT q
    · rw [decide_eq_false h0]
      rw [if_neg h0] at q
      refine iteF ⟨_, rfl, rfl, _, rfl, rfl, _, _, rfl, rfl, ?_⟩
      have e : ((Builtin.Int.intBits (n : Int) : Nat) : Int) - 1 = ((Nat.log2 n : Nat) : Int) := by
        unfold Builtin.Int.intBits
        rw [if_neg (by rw [beq_iff_eq]; omega), Int.natAbs_natCast]
        omega
      dsimp only
      rw [e]
      exact q
end
end K25

set_option Elab.async false
set_option linter.all false
set_option maxRecDepth 100000
set_option maxHeartbeats 4000000
/-! Claims: put. Own work (made of a template for each statement that reaches them). -/
namespace K25
open PySem L2 Builtin.Str CM
theorem nums_snoc (ks : List Nat) (k : Nat) : nums ks ++ [.int (k : Int)] = nums (ks ++ [k]) := by unfold nums; rw [List.map_append]; rfl
section
variable {C : Addr} {r : CR} {H H' : Hp} {x : Addr} {rows : Rw} {rv : List V} {nm : Str} {b : Nat} {t : Addr} {at_ m : V}
theorem CL.row_new (h : CL C r H x rows rv) (keep : ∀ e xs, H e = some (.tup xs) → H' e = some (.tup xs)) (ft : H' t = some (.tup [.str nm, at_, .int b, m])) :
    ∀ (k : Nat) (n : Str) (c : Nat), (rows ++ [(nm, b)])[k]? = some (n, c) → ∃ t' a' m', (rv ++ [V.ref t])[k]? = some (.ref t') ∧ H' t' = some (.tup [.str n, a', .int c, m']) := fun k n c e => by
  by_cases hk : k < rows.length
  · rw [List.getElem?_append_left hk] at e
    obtain ⟨t', a', m', h1, h2⟩ := h.row k n c e
    exact ⟨t', a', m', by rw [List.getElem?_append_left (by rw [h.len]; exact hk)]; exact h1, keep _ _ h2⟩
  · have hk2 : k = rows.length := by
      have := (List.getElem?_eq_some_iff.mp e).1
      rw [List.length_append, List.length_singleton] at this
      omega
    subst hk2
    rw [List.getElem?_append_right (Nat.le_refl _), Nat.sub_self] at e
    obtain ⟨rfl, rfl⟩ : nm = n ∧ b = c := by injection e with e; injection e with e1 e2; exact ⟨e1, e2⟩
    exact ⟨t, at_, m, by rw [← h.len, List.getElem?_append_right (Nat.le_refl _), Nat.sub_self]; rfl, ft⟩
theorem buck_new {n : Str} {k : Option Nat} (hne : ¬ (nm = n ∧ lastOf b = k)) : bucket (rows ++ [(nm, b)]) n k = bucket rows n k := by
  rw [bucket_snoc, if_neg hne, List.append_nil]
theorem buck_same : bucket (rows ++ [(nm, b)]) nm (lastOf b) = bucket rows nm (lastOf b) ++ [rows.length] := by
  rw [bucket_snoc, if_pos ⟨rfl, rfl⟩]
theorem kind_ne {a c : Addr} {o u : HO} (h1 : H a = some o) (h2 : H c = some u) (h : o ≠ u) : a ≠ c := fun e => by
  subst e; rw [h1] at h2; injection h2 with h2; exact h h2
/-- its list is there -/
theorem CL.put_A (h : CL C r H x rows rv) {a c : Addr} (hD : r.D nm = some a) (hL : r.L nm (lastOf b) = some c) (keep : ∀ e o, H e = some o → e ≠ r.lr → e ≠ c → H' e = some o) (f1 : H' r.lr = some (.lst (rv ++ [.ref t])))
    (ft : H' t = some (.tup [.str nm, at_, .int b, m])) (fc : H' c = some (.lst (nums (bucket rows nm (lastOf b)) ++ [.int (rows.length : Int)]))) : CL C r H' x (rows ++ [(nm, b)]) (rv ++ [.ref t]) where
  ins := keep _ _ h.ins (kind_ne h.ins h.hlr (fun e => nomatch e)) (kind_ne h.ins (h.lin _ _ _ hL) (fun e => nomatch e))
  hlr := f1
  len := by rw [List.length_append, List.length_append, h.len]; rfl
  row := h.row_new (fun e xs q => keep _ _ q (kind_ne q h.hlr (fun e => nomatch e)) (kind_ne q (h.lin _ _ _ hL) (fun e => nomatch e))) ft
  db := keep _ _ h.db (kind_ne h.db h.hlr (fun e => nomatch e)) (kind_ne h.db (h.lin _ _ _ hL) (fun e => nomatch e))
  dget := h.dget
  dlen := by have := h.dlen; rw [List.length_append]; omega
  din := fun n a' e => by
    obtain ⟨h1, h2, h3⟩ := h.din n a' e
    exact ⟨keep _ _ h1 (kind_ne h1 h.hlr (fun e => nomatch e)) (kind_ne h1 (h.lin _ _ _ hL) (fun e => nomatch e)), by rw [List.length_append]; omega, h3⟩
  lin := fun n k a' e => by
    by_cases hc : a' = c
    · subst hc
      obtain ⟨rfl, rfl⟩ := h.injL _ _ _ _ _ e hL
      rw [fc, buck_same, nums_snoc]
    · rw [buck_new (fun z => hc (by rw [z.1, z.2, e] at hL; exact Option.some.inj hL))]
      exact keep _ _ (h.lin n k a' e) (fun z => h.neL n k (by rw [← z]; exact e)) hc
  lno := fun n k e => by
    rw [buck_new (fun z => by rw [z.1, z.2, e] at hL; cases hL)]
    exact h.lno n k e
  dno := h.dno
  injD := h.injD
  injL := h.injL
  neD := h.neD
  neL := h.neL
def setL (L : Str → Option Nat → Option Addr) (nm : Str) (l : Option Nat) (q : Addr) : Str → Option Nat → Option Addr := fun n k => if n = nm ∧ k = l then some q else L n k
theorem setL_same {L : Str → Option Nat → Option Addr} {nm : Str} {l : Option Nat} {q : Addr} : setL L nm l q nm l = some q := if_pos ⟨rfl, rfl⟩
theorem setL_ne {L : Str → Option Nat → Option Addr} {nm : Str} {l : Option Nat} {q : Addr} {n : Str} {k : Option Nat} (h : ¬ (n = nm ∧ k = l)) : setL L nm l q n k = L n k := if_neg h
def setN {α : Type} (D : Str → α) (nm : Str) (v : α) : Str → α := fun n => if n = nm then v else D n
theorem setN_same {α : Type} {D : Str → α} {nm : Str} {v : α} : setN D nm v nm = v := if_pos rfl
theorem setN_ne {α : Type} {D : Str → α} {nm : Str} {v : α} {n : Str} (h : ¬ n = nm) : setN D nm v n = D n := if_neg h
/-- its dict is there, not its list -/
theorem CL.put_B (h : CL C r H x rows rv) {a q : Addr} (hD : r.D nm = some a) (hL : r.L nm (lastOf b) = none) (hq : H q = none) (keep : ∀ e o, H e = some o → e ≠ r.lr → e ≠ a → H' e = some o) (f1 : H' r.lr = some (.lst (rv ++ [.ref t])))
    (ft : H' t = some (.tup [.str nm, at_, .int b, m])) (fa : H' a = some (.dK (putK (r.kv2 nm) (keyL (lastOf b)) (.ref q)))) (fq : H' q = some (.lst [.int (rows.length : Int)])) :
    CL C { r with L := setL r.L nm (lastOf b) q, kv2 := setN r.kv2 nm (putK (r.kv2 nm) (keyL (lastOf b)) (.ref q)) } H' x (rows ++ [(nm, b)]) (rv ++ [.ref t]) := by
  obtain ⟨ha, hl2, hg⟩ := h.din nm a hD
  have none_q : ∀ {n k e}, r.L n k = some e → e ≠ q := fun {n k e} z w => by have := h.lin _ _ _ z; rw [w, hq] at this; cases this
  refine ⟨?_, f1, ?_, ?_, ?_, h.dget, ?_, fun n a' e => ?_, fun n k a' e => ?_, fun n k e => ?_, fun n e k => ?_, h.injD, fun n k n' k' a' e e' => ?_, h.neD, fun n k e => ?_⟩
  · exact keep _ _ h.ins (kind_ne h.ins h.hlr (fun e => nomatch e)) (kind_ne h.ins ha (fun e => nomatch e))
  · rw [List.length_append, List.length_append, h.len]; rfl
  · exact h.row_new (fun e xs z => keep _ _ z (kind_ne z h.hlr (fun e => nomatch e)) (kind_ne z ha (fun e => nomatch e))) ft
  · exact keep _ _ h.db (kind_ne h.db h.hlr (fun e => nomatch e)) (fun z => h.neD nm (by rw [hD]; exact congrArg some z.symm))
  · have := h.dlen; rw [List.length_append]; show r.kvs.length ≤ _; omega
  · obtain ⟨h1, h2, h3⟩ := h.din n a' e
    by_cases hn : n = nm
    · subst hn
      have : a' = a := by rw [hD] at e; exact (Option.some.inj e).symm
      subst this
      refine ⟨by show H' a' = some (.dK (setN _ _ _ _)); rw [setN_same]; exact fa, ?_, fun l => ?_⟩
      · show List.length (setN _ _ _ _) ≤ _
        rw [setN_same, List.length_append, List.length_singleton]
        have := length_putK (r.kv2 n) (keyL (lastOf b)) (.ref q)
        omega
      · show valV (setN _ _ _ _) _ = Option.map _ (setL _ _ _ _ _ _)
        rw [setN_same, valV_put]
        by_cases hl : l = lastOf b
        · subst hl; rw [if_pos rfl, setL_same]; rfl
        · rw [if_neg (fun z => hl (keyL_inj z)), setL_ne (fun z => hl z.2)]; exact hg l
    · refine ⟨?_, ?_, fun l => ?_⟩
      · show H' a' = some (.dK (setN _ _ _ _))
        rw [setN_ne hn]
        exact keep _ _ h1 (kind_ne h1 h.hlr (fun e => nomatch e)) (fun z => hn (h.injD _ _ _ e (by rw [z]; exact hD)))
      · show List.length (setN _ _ _ _) ≤ _
        rw [setN_ne hn, List.length_append]; omega
      · show valV (setN _ _ _ _) _ = Option.map _ (setL _ _ _ _ _ _)
        rw [setN_ne hn, setL_ne (fun z => hn z.1)]; exact h3 l
  · by_cases hc : n = nm ∧ k = lastOf b
    · obtain ⟨rfl, rfl⟩ := hc
      have e : setL r.L n (lastOf b) q n (lastOf b) = some a' := e
      rw [setL_same] at e
      rw [← Option.some.inj e, fq, buck_same, h.lno _ _ hL]; rfl
    · have e : setL r.L nm (lastOf b) q n k = some a' := e
      rw [setL_ne hc] at e
      rw [buck_new (fun z => hc ⟨z.1.symm, z.2.symm⟩)]
      have h1 := h.lin n k a' e
      exact keep _ _ h1 (fun z => h.neL n k (by rw [← z]; exact e)) (kind_ne h1 ha (fun e => nomatch e))
  · by_cases hc : n = nm ∧ k = lastOf b
    · obtain ⟨rfl, rfl⟩ := hc
      have e : setL r.L n (lastOf b) q n (lastOf b) = none := e
      rw [setL_same] at e; cases e
    · have e : setL r.L nm (lastOf b) q n k = none := e
      rw [setL_ne hc] at e
      rw [buck_new (fun z => hc ⟨z.1.symm, z.2.symm⟩)]
      exact h.lno n k e
  · show setL _ _ _ _ n k = none
    rw [setL_ne (fun z => by rw [z.1, hD] at e; cases e)]
    exact h.dno n e k
  · have e : setL r.L nm (lastOf b) q n k = some a' := e
    have e' : setL r.L nm (lastOf b) q n' k' = some a' := e'
    by_cases hc : n = nm ∧ k = lastOf b <;> by_cases hc' : n' = nm ∧ k' = lastOf b
    · exact ⟨hc.1.trans hc'.1.symm, hc.2.trans hc'.2.symm⟩
    · rw [hc.1, hc.2, setL_same] at e
      rw [setL_ne hc'] at e'
      exact absurd (Option.some.inj e).symm (none_q e')
    · rw [hc'.1, hc'.2, setL_same] at e'
      rw [setL_ne hc] at e
      exact absurd (Option.some.inj e').symm (none_q e)
    · rw [setL_ne hc] at e
      rw [setL_ne hc'] at e'
      exact h.injL _ _ _ _ _ e e'
  · have e : setL r.L nm (lastOf b) q n k = some r.lr := e
    by_cases hc : n = nm ∧ k = lastOf b
    · rw [hc.1, hc.2, setL_same] at e
      have := h.hlr
      rw [← Option.some.inj e, hq] at this; cases this
    · rw [setL_ne hc] at e
      exact h.neL n k e
/-- its dict is not there -/
theorem CL.put_C (h : CL C r H x rows rv) {p q : Addr} (hD : r.D nm = none) (hp : H p = none) (hq : H q = none) (hpq : p ≠ q) (keep : ∀ e o, H e = some o → e ≠ r.lr → e ≠ r.db → H' e = some o) (f1 : H' r.lr = some (.lst (rv ++ [.ref t])))
    (ft : H' t = some (.tup [.str nm, at_, .int b, m])) (fd : H' r.db = some (.dK (putK r.kvs (.inr nm) (.ref p)))) (fp : H' p = some (.dK [(keyL (lastOf b), .ref q)])) (fq : H' q = some (.lst [.int (rows.length : Int)])) :
    CL C { r with D := setN r.D nm (some p), L := setL r.L nm (lastOf b) q, kvs := putK r.kvs (.inr nm) (.ref p), kv2 := setN r.kv2 nm [(keyL (lastOf b), .ref q)] } H' x (rows ++ [(nm, b)]) (rv ++ [.ref t]) := by
  have hL := h.dno nm hD
  have none_q : ∀ {n k e}, r.L n k = some e → e ≠ q := fun {n k e} z w => by have := h.lin _ _ _ z; rw [w, hq] at this; cases this
  have none_p : ∀ {n e}, r.D n = some e → e ≠ p := fun {n e} z w => by have := (h.din _ _ z).1; rw [w, hp] at this; cases this
  refine ⟨?_, f1, ?_, ?_, fd, fun n => ?_, ?_, fun n a' e => ?_, fun n k a' e => ?_, fun n k e => ?_, fun n e k => ?_, fun n n' a' e e' => ?_, fun n k n' k' a' e e' => ?_, fun n e => ?_, fun n k e => ?_⟩
  · exact keep _ _ h.ins (kind_ne h.ins h.hlr (fun e => nomatch e)) (kind_ne h.ins h.db (fun e => nomatch e))
  · rw [List.length_append, List.length_append, h.len]; rfl
  · exact h.row_new (fun e xs z => keep _ _ z (kind_ne z h.hlr (fun e => nomatch e)) (kind_ne z h.db (fun e => nomatch e))) ft
  · show valV (putK _ _ _) _ = Option.map _ (setN _ _ _ _)
    rw [valV_put]
    by_cases hn : n = nm
    · subst hn; rw [if_pos rfl, setN_same]; rfl
    · rw [if_neg (fun z => hn (Sum.inr.inj z)), setN_ne hn]; exact h.dget n
  · show (putK r.kvs _ _).length ≤ _
    have := length_putK r.kvs (.inr nm : Key) (.ref p)
    have := h.dlen
    rw [List.length_append, List.length_singleton]; omega
  · have e : setN r.D nm (some p) n = some a' := e
    by_cases hn : n = nm
    · subst hn
      rw [setN_same] at e
      have := Option.some.inj e
      subst this
      refine ⟨by show H' p = some (.dK (setN _ _ _ _)); rw [setN_same]; exact fp, ?_, fun l => ?_⟩
      · show List.length (setN _ _ _ _) ≤ _
        rw [setN_same, List.length_append, List.length_singleton, List.length_singleton]; omega
      · show valV (setN _ _ _ _) _ = Option.map _ (setL _ _ _ _ _ _)
        rw [setN_same]
        by_cases hl : l = lastOf b
        · subst hl; rw [setL_same, valV_pos rfl]; rfl
        · rw [setL_ne (fun z => hl z.2), hL, valV_neg (fun z => hl (keyL_inj z).symm)]; rfl
    · rw [setN_ne hn] at e
      obtain ⟨h1, h2, h3⟩ := h.din n a' e
      refine ⟨?_, ?_, fun l => ?_⟩
      · show H' a' = some (.dK (setN _ _ _ _))
        rw [setN_ne hn]
        exact keep _ _ h1 (kind_ne h1 h.hlr (fun e => nomatch e)) (fun z => h.neD n (by rw [e, z]))
      · show List.length (setN _ _ _ _) ≤ _
        rw [setN_ne hn, List.length_append]; omega
      · show valV (setN _ _ _ _) _ = Option.map _ (setL _ _ _ _ _ _)
        rw [setN_ne hn, setL_ne (fun z => hn z.1)]; exact h3 l
  · have e : setL r.L nm (lastOf b) q n k = some a' := e
    by_cases hc : n = nm ∧ k = lastOf b
    · obtain ⟨rfl, rfl⟩ := hc
      rw [setL_same] at e
      rw [← Option.some.inj e, fq, buck_same, h.lno _ _ (hL _)]; rfl
    · rw [setL_ne hc] at e
      rw [buck_new (fun z => hc ⟨z.1.symm, z.2.symm⟩)]
      have h1 := h.lin n k a' e
      exact keep _ _ h1 (fun z => h.neL n k (by rw [← z]; exact e)) (kind_ne h1 h.db (fun e => nomatch e))
  · have e : setL r.L nm (lastOf b) q n k = none := e
    by_cases hc : n = nm ∧ k = lastOf b
    · obtain ⟨rfl, rfl⟩ := hc
      rw [setL_same] at e; cases e
    · rw [setL_ne hc] at e
      rw [buck_new (fun z => hc ⟨z.1.symm, z.2.symm⟩)]
      exact h.lno n k e
  · have e : setN r.D nm (some p) n = none := e
    by_cases hn : n = nm
    · rw [hn, setN_same] at e; cases e
    · rw [setN_ne hn] at e
      show setL _ _ _ _ n k = none
      rw [setL_ne (fun z => hn z.1)]
      exact h.dno n e k
  · have e : setN r.D nm (some p) n = some a' := e
    have e' : setN r.D nm (some p) n' = some a' := e'
    by_cases hn : n = nm <;> by_cases hn' : n' = nm
    · rw [hn, hn']
    · rw [hn, setN_same] at e
      rw [setN_ne hn'] at e'
      exact absurd (Option.some.inj e).symm (none_p e')
    · rw [hn', setN_same] at e'
      rw [setN_ne hn] at e
      exact absurd (Option.some.inj e').symm (none_p e)
    · rw [setN_ne hn] at e
      rw [setN_ne hn'] at e'
      exact h.injD _ _ _ e e'
  · have e : setL r.L nm (lastOf b) q n k = some a' := e
    have e' : setL r.L nm (lastOf b) q n' k' = some a' := e'
    by_cases hc : n = nm ∧ k = lastOf b <;> by_cases hc' : n' = nm ∧ k' = lastOf b
    · exact ⟨hc.1.trans hc'.1.symm, hc.2.trans hc'.2.symm⟩
    · rw [hc.1, hc.2, setL_same] at e
      rw [setL_ne hc'] at e'
      exact absurd (Option.some.inj e).symm (none_q e')
    · rw [hc'.1, hc'.2, setL_same] at e'
      rw [setL_ne hc] at e
      exact absurd (Option.some.inj e').symm (none_q e)
    · rw [setL_ne hc] at e
      rw [setL_ne hc'] at e'
      exact h.injL _ _ _ _ _ e e'
  · have e : setN r.D nm (some p) n = some r.db := e
    by_cases hn : n = nm
    · rw [hn, setN_same] at e
      have := h.db
      rw [← Option.some.inj e, hp] at this; cases this
    · rw [setN_ne hn] at e
      exact h.neD n e
  · have e : setL r.L nm (lastOf b) q n k = some r.lr := e
    by_cases hc : n = nm ∧ k = lastOf b
    · rw [hc.1, hc.2, setL_same] at e
      have := h.hlr
      rw [← Option.some.inj e, hq] at this; cases this
    · rw [setL_ne hc] at e
      exact h.neL n k e
end
end K25

set_option Elab.async false
set_option linter.all false
set_option maxRecDepth 100000
set_option maxHeartbeats 4000000
/-! Claims: put, open_to. Own work (made of a template for each statement that reaches them). -/
namespace K25
open PySem L2 Builtin.Str CM
section
variable {P : Program} {w : World} {K : PySem.W.Frag} {mg : Str → Option Value} {base : Heap} {C : Addr}
theorem scCPut : FnScope ["self", "name", "at", "bits", "meaning", "number", "numbers"] ["self", "name", "at", "bits", "meaning"] (defScope sCPut) := ⟨rfl, rfl, rfl, by decide +kernel, rfl, by decide +kernel, by decide +kernel⟩
theorem ok_put {f fL : Addr} {fd fdL : FuncData} (F : Fun K "put" "Claims.put" sCPut f fd) (T : ClT K mg C) (FL : Fun K "last_of" "last_of" sLast fL fdL) (bL : Binds K fdL ["bits"] []) (mL : mg "last_of" = some (.ref fL)) :
    FnOk P w K mg base CX0 2 f fd ["self", "name", "at", "bits", "meaning"] (spPut C) := by
  have GL : FnOk P w K mg base CX0 1 fL fdL ["bits"] spLast := ok_last FL
  refine F.ok scCPut (fun vs H Q E h => ?_) (fun cdv A outer s H vs Q E hr h => ?_)
  · obtain ⟨x, nm, at_, m, b, r, rows, rv, rfl, _⟩ := h; rfl
  · obtain ⟨x, nm, at_, m, b, r, rows, rv, rfl, h, hlen, q⟩ := h
    have nd := scCPut.nd
    refine ⟨_, pss_cons (ps_set (i := 5) nd rfl (Or.inl rfl) (pe_callB call_len_seq (by rfl) T.len bt_len (pa_cons (pe_fld (pv 0) rfl : PE _ _ (tFld K (tVar 0) ("rows" : Str))) pa_nil)))
      (pss_cons (ps_expr (pe_bm PySem.F.plainAttrs_list PySem.F.slot_list_append PySem.F.type_list_append mt_append (pe_fld (pv 0) rfl : PE _ _ (tFld K (tVar 0) ("rows" : Str))) (pa_cons (pe_tup (pa_cons (pv 1) (pa_cons (pv 2) (pa_cons (pv 3) (pa_cons (pv 4) pa_nil))))) pa_nil)))
      (pss_cons (ps_set (i := 6) nd rfl (Or.inl rfl) (pe_ddef (pe_fld (pv 0) rfl : PE _ _ (tFld K (tVar 0) ("by_last" : Str))) (pv 1) pe_dnewK ⟨rfl, rfl, rfl, rfl⟩))
      (pss_cons (ps_expr (pe_bm PySem.F.plainAttrs_list PySem.F.slot_list_append PySem.F.type_list_append mt_append (pe_ddef (pv 6) (pe_call GL hr (by rfl) mL FL.kp bL .nil pass0 (pa_cons (pv 3) pa_nil)) (pe_lst pa_nil) ⟨rfl, rfl, rfl, rfl⟩) (pa_cons (pv 5) pa_nil)))
      (pss_one (ps_ret (pv 5)))))), ?_⟩
    -- the number
    refine ⟨_, rfl, x, C, r.dx, _, .ref r.lr, rfl, h.ins, T.cl, T.nR, rfl, r.lr, _, rfl, .inl (SqL.of h.hlr), ?_⟩
    rw [h.len]
    -- the row
    refine ⟨_, rfl, x, C, r.dx, _, .ref r.lr, rfl, h.ins, T.cl, T.nR, rfl, .inl ⟨rfl, _, SqL.of h.hlr⟩, _, rfl, _, rfl, _, rfl, _, rfl, by show 4 ≤ sizeLine; rw [sizeLine_eq]; decide, fun t ht => ?_⟩
    have st := same_upd (o := .tup [.str nm, at_, .int b, m]) ht
    refine ⟨r.lr, _, _, rfl, rfl, st _ _ h.hlr, by rw [h.len, sizeLine_eq]; omega, ?_⟩
    have ntl : t ≠ r.lr := fun e => by rw [e] at ht; rw [h.hlr] at ht; cases ht
    have ntx : t ≠ x := fun e => by rw [e] at ht; rw [h.ins] at ht; cases ht
    have nxl : x ≠ r.lr := kind_ne h.ins h.hlr (fun e => nomatch e)
    have ndl : r.db ≠ r.lr := kind_ne h.db h.hlr (fun e => nomatch e)
    -- what is there behind the row
    have keep2 : ∀ e o, H e = some o → e ≠ r.lr → upd (upd H t (.tup [.str nm, at_, .int b, m])) r.lr (.lst (rv ++ [.ref t])) e = some o := fun e o he n => by rw [upd_ne n]; exact st _ _ he
    have none2 : ∀ e, upd (upd H t (.tup [.str nm, at_, .int b, m])) r.lr (.lst (rv ++ [.ref t])) e = none → H e = none ∧ e ≠ t ∧ e ≠ r.lr := fun e he => by
      have n1 : e ≠ r.lr := fun z => by rw [z, upd_same] at he; cases he
      rw [upd_ne n1] at he
      have n2 : e ≠ t := fun z => by rw [z, upd_same] at he; cases he
      rw [upd_ne n2] at he
      exact ⟨he, n2, n1⟩
    have f1 : upd (upd H t (.tup [.str nm, at_, .int b, m])) r.lr (.lst (rv ++ [.ref t])) r.lr = some (.lst (rv ++ [.ref t])) := upd_same
    have ft : upd (upd H t (.tup [.str nm, at_, .int b, m])) r.lr (.lst (rv ++ [.ref t])) t = some (.tup [.str nm, at_, .int b, m]) := by rw [upd_ne ntl, upd_same]
    generalize upd (upd H t (.tup [.str nm, at_, .int b, m])) r.lr (.lst (rv ++ [.ref t])) = H2 at keep2 none2 f1 ft ⊢
    have hdb2 := keep2 _ _ h.db ndl
    have notown : ∀ e, ¬ Own r e → e ≠ r.lr := fun e n z => n (.inl z)
    -- its dict
    refine ⟨_, rfl, x, C, r.dx, _, .ref r.db, rfl, keep2 _ _ h.ins nxl, T.cl, T.nB, rfl, r.db, rfl, .inl ⟨_, .inl hdb2⟩, _, rfl, fun p hp => ?_⟩
    obtain ⟨hpn, npt, npl⟩ := none2 p hp
    have sp := same_upd (o := .dK []) hp
    refine ⟨r.kvs, .inr nm, sp _ _ hdb2, rfl, by have := h.dlen; rw [sizeLine_eq]; omega, fun v hv => ?_, fun hv => ?_⟩
    · -- there
      rw [h.dget] at hv
      obtain ⟨a, hD, rfl⟩ := Option.map_eq_some_iff.mp hv
      obtain ⟨ha, hal, hag⟩ := h.din nm a hD
      have nal : a ≠ r.lr := kind_ne ha h.hlr (fun e => nomatch e)
      have ha3 := sp _ _ (keep2 _ _ ha nal)
      refine ⟨_, rfl, a, rfl, .inl ⟨_, .inl ha3⟩, _, rfl, b, rfl, ?_⟩
      refine ⟨Nat.zero_le _, fun g hg => ?_⟩
      have sg := same_upd (o := .lst []) hg
      have gp : g ≠ p := fun z => by rw [z, upd_same] at hg; cases hg
      obtain ⟨hgn, ngt, ngl⟩ := none2 g (by rw [upd_ne gp] at hg; exact hg)
      refine ⟨r.kv2 nm, keyL (lastOf b), sg _ _ ha3, (kV_L _), by rw [sizeLine_eq]; omega, fun v hv => ?_, fun hv => ?_⟩
      · rw [hag] at hv
        obtain ⟨c, hL, rfl⟩ := Option.map_eq_some_iff.mp hv
        have hc := h.lin _ _ _ hL
        have ncl : c ≠ r.lr := fun z => h.neL _ _ (by rw [hL, z])
        have hc5 := sg _ _ (sp _ _ (keep2 _ _ hc ncl))
        refine ⟨.inl ⟨rfl, _, SqL.of hc5⟩, _, rfl, c, _, _, rfl, rfl, hc5, ?_, _, rfl, ?_⟩
        · have hbl : (bucket rows nm (lastOf b)).length ≤ rows.length := by
            have := List.length_filter_le (fun k => nameIs rows nm k && decide (lastOf (bitsAt rows k) = lastOf b)) (List.range rows.length)
            rw [List.length_range] at this
            exact this
          show (nums _).length < _
          unfold nums
          rw [List.length_map, sizeLine_eq]; omega
        have ntc : t ≠ c := fun z => by rw [← z, ht] at hc; cases hc
        have nlc : r.lr ≠ c := Ne.symm ncl
        refine q _ r t (h.put_A (at_ := at_) (m := m) hD hL (fun e o he n1 n2 => ?_) ?_ ?_ upd_same) ht ?_ (fun e o n he => ?_) (fun e o => .inl o)
        · rw [upd_ne n2]; exact sg _ _ (sp _ _ (keep2 _ _ he n1))
        · rw [upd_ne nlc]; exact sg _ _ (sp _ _ f1)
        · rw [upd_ne ntc]; exact sg _ _ (sp _ _ ft)
        · rw [upd_ne ntc]; exact sg _ _ (sp _ _ ft)
        · rw [upd_ne (fun z => n (.inr (.inr (.inr ⟨nm, lastOf b, by rw [hL, z]⟩))))]; exact sg _ _ (sp _ _ (keep2 _ _ he (notown e n)))
      · rw [hag] at hv
        have hL : r.L nm (lastOf b) = none := by
          cases z : r.L nm (lastOf b) with
          | none => rfl
          | some c => rw [z] at hv; cases hv
        have nag : a ≠ g := fun z => by rw [← z, ha] at hgn; cases hgn
        have ngg : upd (upd (upd H2 p (.dK [])) g (.lst [])) a (.dK (putK (r.kv2 nm) (keyL (lastOf b)) (.ref g))) g = some (.lst []) := by rw [upd_ne (Ne.symm nag), upd_same]
        refine ⟨.inl ⟨rfl, _, SqL.of ngg⟩, _, rfl, g, _, _, rfl, rfl, ngg, by decide, _, rfl, ?_⟩
        have nta : t ≠ a := fun z => by rw [z, ha] at ht; cases ht
        have ntg : t ≠ g := fun z => ngt z.symm
        have nlg : r.lr ≠ g := fun z => ngl z.symm
        refine q _ _ t (h.put_B (at_ := at_) (m := m) hD hL hgn (fun e o he n1 n2 => ?_) ?_ ?_ ?_ upd_same) ht ?_ (fun e o n he => ?_) (fun e o => ?_)
        · rw [upd_ne (fun z => by rw [z, hgn] at he; cases he), upd_ne n2]; exact sg _ _ (sp _ _ (keep2 _ _ he n1))
        · rw [upd_ne nlg, upd_ne (Ne.symm nal)]; exact sg _ _ (sp _ _ f1)
        · rw [upd_ne ntg, upd_ne nta]; exact sg _ _ (sp _ _ ft)
        · rw [upd_ne nag, upd_same]
        · rw [upd_ne ntg, upd_ne nta]; exact sg _ _ (sp _ _ ft)
        · rw [upd_ne (fun z => by rw [z, hgn] at he; cases he), upd_ne (fun z => n (.inr (.inr (.inl ⟨nm, by rw [hD, z]⟩))))]; exact sg _ _ (sp _ _ (keep2 _ _ he (notown e n)))
        · rcases o with z | z | ⟨n, z⟩ | ⟨n, l, z⟩
          · exact .inl (.inl z)
          · exact .inl (.inr (.inl z))
          · exact .inl (.inr (.inr (.inl ⟨n, z⟩)))
          · have z : setL r.L nm (lastOf b) g n l = some e := z
            by_cases hc : n = nm ∧ l = lastOf b
            · rw [hc.1, hc.2, setL_same] at z
              right; rw [← Option.some.inj z]; exact hgn
            · rw [setL_ne hc] at z
              exact .inl (.inr (.inr (.inr ⟨n, l, z⟩)))
    · -- not there
      have hD : r.D nm = none := by
        rw [h.dget] at hv
        cases z : r.D nm with
        | none => rfl
        | some c => rw [z] at hv; cases hv
      have ndp : r.db ≠ p := fun z => by rw [← z, h.db] at hpn; cases hpn
      have hp4 : upd (upd H2 p (.dK [])) r.db (.dK (putK r.kvs (.inr nm) (.ref p))) p = some (.dK []) := by rw [upd_ne (Ne.symm ndp), upd_same]
      have ntd : t ≠ r.db := fun z => by rw [z, h.db] at ht; cases ht
      refine ⟨_, rfl, p, rfl, .inl ⟨_, .inl hp4⟩, _, rfl, b, rfl, ?_⟩
      refine ⟨Nat.zero_le _, fun g hg => ?_⟩
      have gd : g ≠ r.db := fun z => by rw [z, upd_same] at hg; cases hg
      have gp : g ≠ p := fun z => by rw [z, hp4] at hg; cases hg
      obtain ⟨hgn, ngt, ngl⟩ := none2 g (by rw [upd_ne gd, upd_ne gp] at hg; exact hg)
      refine ⟨[], keyL (lastOf b), by rw [upd_ne (Ne.symm gp)]; exact hp4, (kV_L _), by decide, (fun v hv => nomatch hv), fun _ => ?_⟩
      have ngg : upd (upd (upd (upd H2 p (.dK [])) r.db (.dK (putK r.kvs (.inr nm) (.ref p)))) g (.lst [])) p (.dK (putK [] (keyL (lastOf b)) (.ref g))) g = some (.lst []) := by rw [upd_ne gp, upd_same]
      refine ⟨.inl ⟨rfl, _, SqL.of ngg⟩, _, rfl, g, _, _, rfl, rfl, ngg, by decide, _, rfl, ?_⟩
      have ntg : t ≠ g := fun z => ngt z.symm
      have ntp : t ≠ p := fun z => npt z.symm
      have nlg : r.lr ≠ g := fun z => ngl z.symm
      have nlp : r.lr ≠ p := fun z => npl z.symm
      refine q _ _ t (h.put_C (at_ := at_) (m := m) (p := p) (q := g) hD hpn hgn (Ne.symm gp) (fun e o he n1 n2 => ?_) ?_ ?_ ?_ ?_ upd_same) ht ?_ (fun e o n he => ?_) (fun e o => ?_)
      · rw [upd_ne (fun z => by rw [z, hgn] at he; cases he), upd_ne (fun z => by rw [z, hpn] at he; cases he), upd_ne (fun z => by rw [z, hgn] at he; cases he), upd_ne n2]; exact sp _ _ (keep2 _ _ he n1)
      · rw [upd_ne nlg, upd_ne nlp, upd_ne nlg, upd_ne (Ne.symm ndl)]; exact sp _ _ f1
      · rw [upd_ne ntg, upd_ne ntp, upd_ne ntg, upd_ne ntd]; exact sp _ _ ft
      · rw [upd_ne (Ne.symm gd), upd_ne ndp, upd_ne (Ne.symm gd), upd_same]
      · rw [upd_ne (Ne.symm gp), upd_same]; rfl
      · rw [upd_ne ntg, upd_ne ntp, upd_ne ntg, upd_ne ntd]; exact sp _ _ ft
      · rw [upd_ne (fun z => by rw [z, hgn] at he; cases he), upd_ne (fun z => by rw [z, hpn] at he; cases he), upd_ne (fun z => by rw [z, hgn] at he; cases he), upd_ne (fun z => n (.inr (.inl z)))]; exact sp _ _ (keep2 _ _ he (notown e n))
      · rcases o with z | z | ⟨n, z⟩ | ⟨n, l, z⟩
        · exact .inl (.inl z)
        · exact .inl (.inr (.inl z))
        · have z : setN r.D nm (some p) n = some e := z
          by_cases hn : n = nm
          · rw [hn, setN_same] at z
            right; rw [← Option.some.inj z]; exact hpn
          · rw [setN_ne hn] at z
            exact .inl (.inr (.inr (.inl ⟨n, z⟩)))
        · have z : setL r.L nm (lastOf b) g n l = some e := z
          by_cases hc : n = nm ∧ l = lastOf b
          · rw [hc.1, hc.2, setL_same] at z
            right; rw [← Option.some.inj z]; exact hgn
          · rw [setL_ne hc] at z
            exact .inl (.inr (.inr (.inr ⟨n, l, z⟩)))
end
end K25

set_option Elab.async false
set_option linter.all false
set_option maxRecDepth 100000
set_option maxHeartbeats 4000000
/-! Claims: open_to. Own work (made of a template for each statement that reaches them). -/
namespace K25
open PySem L2 Builtin.Str CM
theorem bitsAt_of {rows : Rw} {k : Nat} {n : Str} {b : Nat} (h : rows[k]? = some (n, b)) : bitsAt rows k = b := by unfold bitsAt; rw [h]; rfl
theorem row_at {rows : Rw} {k : Nat} (h : k < rows.length) : ∃ n b, rows[k]? = some (n, b) ∧ bitsAt rows k = b := by
  refine ⟨rows[k].1, rows[k].2, List.getElem?_eq_getElem h, ?_⟩
  exact bitsAt_of (n := rows[k].1) (List.getElem?_eq_getElem h)
theorem atI_nat {α : Type} {xs : List α} {k : Nat} {x : α} (h : xs[k]? = some x) : atI xs (k : Int) = some x := by
  have hk := (List.getElem?_eq_some_iff.mp h).1
  unfold atI ixN
  rw [if_pos (by omega), if_pos (by omega)]
  show xs[((k : Nat) : Int).toNat]? = _
  rw [Int.toNat_natCast]; exact h
/-- the bits of the claim of a number, read -/
theorem CL.bits {C : Addr} {r : CR} {H : Hp} {x : Addr} {rows : Rw} {rv : List V} (h : CL C r H x rows rv) {k : Nat} (hk : k < rows.length) : ∃ t n a m, atI rv (k : Int) = some (.ref t) ∧ H t = some (.tup [.str n, a, .int (bitsAt rows k : Int), m]) := by
  obtain ⟨n, b, e, eb⟩ := row_at hk
  obtain ⟨t, a, m, h1, h2⟩ := h.row k n b e
  exact ⟨t, n, a, m, atI_nat h1, by rw [eb]; exact h2⟩
theorem nums_len (ks : List Nat) : (nums ks).length = ks.length := by unfold nums; rw [List.length_map]
theorem nums_ints (ks : List Nat) : nums ks = (ks.map fun (k : Nat) => (k : Int)).map V.int := by unfold nums; rw [List.map_map]; rfl
theorem bucket_lt {rows : Rw} {nm : Str} {l : Option Nat} {k : Nat} (h : k ∈ bucket rows nm l) : k < rows.length := (mem_bucket.mp h).1
theorem bucket_le (rows : Rw) (nm : Str) (l : Option Nat) : (bucket rows nm l).length ≤ rows.length := by
  have := List.length_filter_le (fun k => nameIs rows nm k && decide (lastOf (bitsAt rows k) = l)) (List.range rows.length)
  rw [List.length_range] at this
  exact this
/-- sorted lists of the same numbers are the same -/
theorem sorted_same : ∀ {L M : List Int}, L.Pairwise (· < ·) → M.Pairwise (· < ·) → (∀ z, z ∈ L ↔ z ∈ M) → L = M
  | [], [], _, _, _ => rfl
  | [], m :: M, _, _, h => nomatch (h m).mpr List.mem_cons_self
  | l :: L, [], _, _, h => nomatch (h l).mp List.mem_cons_self
  | l :: L, m :: M, hl, hm, h => by
    have h1 := List.pairwise_cons.mp hl
    have h2 := List.pairwise_cons.mp hm
    have e : l = m := by
      rcases List.mem_cons.mp ((h l).mp List.mem_cons_self) with e | e
      · exact e
      · rcases List.mem_cons.mp ((h m).mpr List.mem_cons_self) with e' | e'
        · exact e'.symm
        · have a := h2.1 l e
          have b := h1.1 m e'
          omega
    subst e
    rw [sorted_same h1.2 h2.2 fun z => ?_]
    have hz := h z
    rw [List.mem_cons, List.mem_cons] at hz
    constructor
    · intro q
      rcases hz.mp (.inr q) with e | e
      · have := h1.1 z q; omega
      · exact e
    · intro q
      rcases hz.mpr (.inr q) with e | e
      · have := h2.1 z q; omega
      · exact e
section
variable {P : Program} {w : World} {K : PySem.W.Frag} {mg : Str → Option Value} {base : Heap} {C : Addr}
theorem scCOpen : FnScope ["self", "name", "bits", "by_last", "numbers", "last"] ["self", "name", "bits"] (defScope sCOpen) := ⟨rfl, rfl, rfl, by decide +kernel, rfl, by decide +kernel, by decide +kernel⟩
theorem lcOpen1 : LcS (defScope sCOpen).names [(".0", .local), ("number", .local), ("within", .globalImplicit), ("bits", .free), ("self", .free)] ["self", "name", "bits", "by_last", "numbers", "last"] [true, false, true, false, false, false] := ⟨by decide +kernel, by decide +kernel, by decide +kernel, by decide +kernel, by decide +kernel, rfl⟩
theorem ndOpen1 : (["self", "name", "bits", "by_last", "numbers", "last", "number"] : List Str).Nodup := by decide +kernel
theorem bt_sorted' : bootBuiltins "sorted" = some (.builtin "sorted") := by decide +kernel
theorem ok_open {f fO fI : Addr} {fd fdO fdI : FuncData} (F : Fun K "open_to" "Claims.open_to" sCOpen f fd) (T : ClT K mg C) (FO : Fun K "told" "told" sTold fO fdO) (bO : Binds K fdO ["bits"] []) (mO : mg "told" = some (.ref fO))
    (FI : Fun K "within" "within" sWithin fI fdI) (bI : Binds K fdI ["one", "other"] []) (mI : mg "within" = some (.ref fI)) : FnOk P w K mg base CX0 2 f fd ["self", "name", "bits"] (spOpen C) := by
  have GO : FnOk P w K mg base CX0 1 fO fdO ["bits"] spTold := ok_told FO
  have GI : FnOk P w K mg base CX0 1 fI fdI ["one", "other"] spWithin := ok_within FI
  refine F.ok scCOpen (fun vs H Q E h => ?_) (fun cdv A outer s H vs Q E hr h => ?_)
  · obtain ⟨x, nm, b, ys, r, rows, rv, rfl, _⟩ := h; rfl
  · obtain ⟨x, nm, b, ys, r, rows, rv, rfl, h, hlen, hop64, hb, hy, q⟩ := h
    have nd := scCOpen.nd
    have hu := hu_of hr
    refine ⟨_, pss_cons (ps_if (pt_cmp (pc_dnotin hu (pv 1) (pe_fld (pv 0) rfl : PE _ _ (tFld K (tVar 0) ("by_last" : Str))))) (pss_one (ps_ret (pe_lst pa_nil))) pss_nil)
      (pss_cons (ps_set (i := 3) nd rfl (Or.inl rfl) (pe_dget hu (pe_fld (pv 0) rfl : PE _ _ (tFld K (tVar 0) ("by_last" : Str))) (pv 1) (fun _ _ => rfl)))
      (pss_cons (ps_set (i := 4) nd rfl (Or.inl rfl) (pe_callTy call_list_of (by rfl) T.list bt_list (pa_cons (pe_dget2 hu (pv 3) pe_non (pe_lst pa_nil) ⟨rfl, rfl, rfl, rfl⟩) pa_nil)))
      (pss_cons (ps_for PassesOwn.never rfl (pi_list (pe_call GO hr (by rfl) mO FO.kp bO .nil pass0 (pa_cons (pv 2) pa_nil))) (pg_name (i := 5) nd rfl (Or.inl rfl))
        (pss_one (ps_expr (pe_bm PySem.F.plainAttrs_list PySem.F.slot_list_extend PySem.F.type_list_extend mt_extend (pv 4) (pa_cons (pe_lc (ext := ["number"]) lcOpen1 rfl (pi_list (pe_dget2 hu (pv 3) (pv 5) (pe_lst pa_nil) ⟨rfl, rfl, rfl, rfl⟩))
          ⟨fun _ _ _ _ _ => (pg_name (i := 6) ndOpen1 rfl (Or.inl rfl) (.inr rfl)), fun _ _ _ _ _ => (pts_one (pt_val (pe_call GI hr (by rfl) mI FI.kp bI .nil pass0 (pa_cons (pe_ix (ix_tup : IxR _ (rIxT K)) (pe_ix (ix_list : IxR _ (rIxL K)) (pe_fld (pv 0) rfl : PE _ _ (tFld K (tVar 0) ("rows" : Str))) (pv 6) (fun _ _ => rfl)) pe_int (fun _ _ => rfl)) (pa_cons (pv 2) pa_nil))))), fun _ _ _ _ _ => (pv 6)⟩) pa_nil)))))
      (pss_one (ps_ret (pe_callB call_sortedL (by rfl) T.sorted bt_sorted' (pa_cons (pv 4) pa_nil))))))), ?_⟩
    have hget : DGet H r.db (.str nm) ((r.D nm).map V.ref) := by
      have := DGet.k (k := (.inr nm : Key)) h.db
      rw [h.dget] at this
      exact this
    refine ⟨_, rfl, _, rfl, x, C, r.dx, _, .ref r.db, rfl, h.ins, T.cl, T.nB, rfl, r.db, _, rfl, hget, _, rfl, ?_⟩
    cases hD : r.D nm with
    | none =>
      refine iteT ⟨Nat.zero_le _, fun p hp => ?_⟩
      have hno : opens rows nm b = [] := by
        rw [List.eq_nil_iff_forall_not_mem]
        intro k hk
        obtain ⟨h1, h2, _⟩ := mem_opens.mp hk
        have : k ∈ bucket rows nm (lastOf (bitsAt rows k)) := mem_bucket.mpr ⟨h1, h2, rfl⟩
        rw [h.lno _ _ (h.dno nm hD _)] at this
        exact nomatch this
      exact q _ p (same_upd hp) hp (by rw [upd_same, hno]; rfl)
    | some a =>
      obtain ⟨ha, hal, hag⟩ := h.din nm a hD
      rw [hD] at hget
      refine iteF ⟨_, rfl, x, C, r.dx, _, .ref r.db, rfl, h.ins, T.cl, T.nB, rfl, _, rfl, r.db, .ref a, rfl, hget, ?_⟩
      -- what a bucket is
      have buck : ∀ (l : Option Nat) (H1 : Hp), Same H H1 → ∀ z, H1 z = none → ∃ o c, DGet (upd H1 z (.lst [])) a (valL l) o ∧ o.getD (.ref z) = .ref c ∧ SqL K (upd H1 z (.lst [])) c (nums (bucket rows nm l)) := fun l H1 s1 z hz => by
        have sz := same_upd (o := .lst []) hz
        have hg := DGet.k (k := keyL l) (sz _ _ (s1 _ _ ha))
        rw [hag, ← kV_L] at hg
        cases hL : r.L nm l with
        | none =>
          rw [hL] at hg
          refine ⟨none, z, hg, rfl, ?_⟩
          rw [h.lno _ _ hL]
          exact SqL.of upd_same
        | some c =>
          rw [hL] at hg
          exact ⟨some (.ref c), c, hg, rfl, SqL.of (sz _ _ (s1 _ _ (h.lin _ _ _ hL)))⟩
      refine ⟨_, rfl, a, rfl, .inl ⟨_, .inl ha⟩, Nat.zero_le _, fun z hz => ?_⟩
      obtain ⟨o, c, hg, ho, hc⟩ := buck none H (Same.refl _) z hz
      have sz := same_upd (o := .lst []) hz
      refine ⟨o, hg, ?_⟩
      rw [ho]
      refine ⟨c, _, rfl, .inl hc, fun N hN => ?_⟩
      have sN := sz.trans (same_upd (o := .lst (nums (bucket rows nm none))) hN)
      have hNn : H N = none := by
        have n1 : N ≠ z := fun e => by rw [e, upd_same] at hN; cases hN
        rw [upd_ne n1] at hN; exact hN
      have hN1 : upd (upd H z (.lst [])) N (.lst (nums (bucket rows nm none))) N = some (.lst (nums (bucket rows nm none))) := upd_same
      generalize upd (upd H z (.lst [])) N (.lst (nums (bucket rows nm none))) = H1 at sN hN1 ⊢
      -- the numbers of the set
      refine ⟨_, rfl, b, ys, rfl, hb, hy, fun Tl L hTl hsL hmL => ⟨Tl, rfl, ⟨_, SqL.of upd_same⟩, ?_⟩⟩
      have sT := same_upd (o := .lst (L.map V.int)) hTl
      have hL0 : ∀ z ∈ L, 0 ≤ z := fun z hz => hb.2 z ((hmL z).mp hz)
      have htb : ∀ m : Nat, m ∈ L.map Int.toNat ↔ b.testBit m = true := fun m => by
        rw [hb.1 m, decide_eq_true_eq, ← hmL]
        constructor
        · intro hm
          obtain ⟨z, hz, e⟩ := List.mem_map.mp hm
          have := hL0 z hz
          have : z = (m : Int) := by omega
          rw [← this]; exact hz
        · intro hm
          exact List.mem_map.mpr ⟨(m : Int), hm, by omega⟩
      have hnd : (L.map Int.toNat).Nodup := by
        have : (L.map Int.toNat).Pairwise (· < ·) := by
          rw [List.pairwise_map]
          refine List.Pairwise.imp_of_mem (fun {x y} hx hy hxy => ?_) hsL
          have := hL0 x hx
          omega
        exact this.imp fun h => Nat.ne_of_lt h
      have hTN : Tl ≠ N := fun e => by rw [e, hN1] at hTl; cases hTl
      have gsub : ∀ i, (gath rows nm b ((L.map Int.toNat).take i)).length ≤ rows.length := fun i => by
        have hn' := hnd.sublist (List.take_sublist i (L.map Int.toNat))
        have : (gath rows nm b ((L.map Int.toNat).take i)).length ≤ (List.range rows.length).length := List.Nodup.length_le_of_subset (gath_nodup hn') fun k hk => by
          unfold gath at hk
          rw [List.mem_range]
          rcases List.mem_append.mp hk with z | z
          · exact bucket_lt z
          · obtain ⟨l, _, z⟩ := List.mem_flatMap.mp z
            exact bucket_lt (List.mem_filter.mp z).1
        rwa [List.length_range] at this
      have sA : Same H (upd H1 Tl (.lst (L.map V.int))) := sN.trans sT
      have hTl2 : upd H1 Tl (.lst (L.map V.int)) Tl = some (.lst (L.map V.int)) := upd_same
      have hNT : upd H1 Tl (.lst (L.map V.int)) N = some (.lst (nums (bucket rows nm none))) := by rw [upd_ne (Ne.symm hTN)]; exact hN1
      generalize upd H1 Tl (.lst (L.map V.int)) = H2 at sA hTl2 hNT ⊢
      refine for_list (xs := L.map V.int) (fun i σ H' => (∃ v, σ = [some (.ref x), some (.str nm), some (.int (b : Int)), some (.ref a), some (.ref N), v]) ∧ Same H H' ∧ H' Tl = some (.lst (L.map V.int)) ∧ H' N = some (.lst (nums (gath rows nm b ((L.map Int.toNat).take i)))))
        ⟨⟨_, rfl⟩, sA, hTl2, by rw [hNT]; unfold gath; rw [List.take_zero, List.flatMap_nil, List.append_nil]⟩ (fun i σ H' _ hP => SqL.of hP.2.2.1) ?_ ?_
      · rintro i v σ H' hi ⟨⟨v', rfl⟩, s1, hT1, hN2⟩
        obtain ⟨z0, ez, rfl⟩ : ∃ z0, L[i]? = some z0 ∧ V.int z0 = v := by
          rw [List.getElem?_map] at hi
          exact Option.map_eq_some_iff.mp hi
        obtain ⟨l, rfl⟩ := Int.eq_ofNat_of_zero_le (hL0 z0 (List.mem_of_getElem? ez))
        have h1 := h.same s1
        refine ⟨_, rfl, .inl ⟨rfl, _, SqL.of hN2⟩, _, rfl, a, rfl, .inl ⟨_, .inl (s1 _ _ ha)⟩, _, rfl, Nat.zero_le _, fun z hz => ?_⟩
        obtain ⟨o, c, hg, ho, hc⟩ := buck (some l) H' s1 z hz
        have sz := same_upd (o := .lst []) hz
        refine ⟨o, hg, ?_⟩
        rw [ho]
        have s2 := s1.trans sz
        have hT3 := sz _ _ hT1
        have hN3 := sz _ _ hN2
        generalize upd H' z (.lst []) = H3 at hc s2 hT3 hN3 hg ⊢
        have h3 := h.same s2
        refine ⟨c, rfl, ⟨_, hc⟩, fun D hD' => ?_⟩
        have sD : ∀ ys', Same H3 (upd H3 D (.lst ys')) := fun ys' => same_upd hD'
        refine lc_list (K := K) (a := c) (i := 6) (xs := nums (bucket rows nm (some l))) (fun v => match v with | .int k => decide (In (bitsAt rows k.toNat) b) | _ => false) (fun v => v) (fun ys' => (sD ys').seq hc) (by rw [nums_len, sizeLine_eq]; have := bucket_le rows nm (some l); omega) ?_ ?_ ?_
        · intro k y v ys' R hk hR
          unfold nums at hk
          rw [List.getElem?_map] at hk
          obtain ⟨k', ek, rfl⟩ := Option.map_eq_some_iff.mp hk
          have hk' := bucket_lt (List.mem_of_getElem? ek)
          have h4 := h3.same (sD ys')
          obtain ⟨t, n, a', m, e1, e2⟩ := h4.bits hk'
          refine ⟨_, rfl, x, C, r.dx, _, .ref r.lr, rfl, h4.ins, T.cl, T.nR, rfl, _, rfl, r.lr, _, _, _, rfl, rfl, SqL.of h4.hlr, e1, t, _, _, _, rfl, rfl, SqT.of e2, rfl, _, rfl, bitsAt rows k', b, rfl, ⟨_, rfl, ?_⟩⟩
          exact hR _ rfl
        · intro k y v ys' R hk hp hR
          exact ⟨_, rfl, hR _ rfl⟩
        · intro H5 e5
          have efil : ((nums (bucket rows nm (some l))).filter (fun v => match v with | .int k => decide (In (bitsAt rows k.toNat) b) | _ => false)).map (fun v => v) = nums ((bucket rows nm (some l)).filter fun k => decide (In (bitsAt rows k) b)) := by
            unfold nums
            rw [List.map_id', List.filter_map]
            rfl
          rw [efil] at e5
          have hnD : D ≠ N := fun e => by rw [e, hN3] at hD'; cases hD'
          have hD5 : H5 D = some (.lst (nums ((bucket rows nm (some l)).filter fun k => decide (In (bitsAt rows k) b)))) := by rw [e5, upd_same]
          have hN5 : H5 N = some (.lst (nums (gath rows nm b ((L.map Int.toNat).take i)))) := by rw [e5, upd_ne (Ne.symm hnD)]; exact hN3
          have hT5 : H5 Tl = some (.lst (L.map V.int)) := by rw [e5]; exact sD _ _ _ hT3
          have s5 : Same H H5 := by rw [e5]; exact s2.trans (sD _)
          have etake : (L.map Int.toNat).take (i + 1) = (L.map Int.toNat).take i ++ [l] := by
            rw [List.take_succ, List.getElem?_map, ez]; rfl
          have egath : gath rows nm b ((L.map Int.toNat).take (i + 1)) = gath rows nm b ((L.map Int.toNat).take i) ++ ((bucket rows nm (some l)).filter fun k => decide (In (bitsAt rows k) b)) := by
            rw [etake]
            unfold gath
            rw [List.flatMap_append, ← List.append_assoc, List.flatMap_cons, List.flatMap_nil, List.append_nil]
          have hglen := gsub (i + 1)
          rw [egath, List.length_append] at hglen
          refine ⟨N, D, _, _, rfl, rfl, hN5, hD5, by rw [nums_len, nums_len, sizeLine_eq]; omega, ⟨_, rfl⟩, fun e o he => ?_, ?_, ?_⟩
          · rw [upd_ne (ne_of_none he hNn)]; exact s5 _ _ he
          · rw [upd_ne hTN]; exact hT5
          · rw [upd_same, egath]; unfold nums; rw [List.map_append]
      · rintro σ H' ⟨⟨v', rfl⟩, s1, hT1, hN2⟩
        have hlenL : (L.map V.int).length = (L.map Int.toNat).length := by rw [List.length_map, List.length_map]
        rw [hlenL, List.take_length] at hN2
        refine ⟨_, rfl, N, _, rfl, by rw [← nums_ints]; exact SqL.of hN2, ?_, fun R ns hR hle hpm => ?_⟩
        · rw [List.length_map]
          have : (gath rows nm b (L.map Int.toNat)).length ≤ (opens rows nm b).length := List.Nodup.length_le_of_subset (gath_nodup hnd) fun k hk => (mem_gath htb).mp hk
          omega
        · have hRn : H R = none := by
            cases e : H R with
            | none => rfl
            | some o => rw [s1 _ _ e] at hR; cases hR
          refine q _ R (s1.trans (same_upd hR)) hRn ?_
          have hg_nd : ((gath rows nm b (L.map Int.toNat)).map fun (k : Nat) => (k : Int)).Nodup := by
            have : ((gath rows nm b (L.map Int.toNat)).map fun (k : Nat) => (k : Int)).Pairwise (· ≠ ·) := by
              rw [List.pairwise_map]
              exact (gath_nodup hnd).imp fun h e => h (by omega)
            exact this
          have hlt : ns.Pairwise (· < ·) := (hle.and (hpm.symm.nodup hg_nd)).imp fun {a b} ⟨h1, h2⟩ => by omega
          have hop : ((opens rows nm b).map fun (k : Nat) => (k : Int)).Pairwise (· < ·) := by
            rw [List.pairwise_map]
            exact (opens_sorted rows nm b).imp fun h => by omega
          have e : ns = (opens rows nm b).map fun (k : Nat) => (k : Int) := sorted_same hlt hop fun z => by
            rw [hpm.mem_iff, List.mem_map, List.mem_map]
            exact ⟨fun ⟨k, hk, e⟩ => ⟨k, (mem_gath htb).mp hk, e⟩, fun ⟨k, hk, e⟩ => ⟨k, (mem_gath htb).mpr hk, e⟩⟩
          rw [upd_same, e, nums_ints]
end
end K25

set_option Elab.async false
set_option linter.all false
set_option maxRecDepth 100000
set_option maxHeartbeats 4000000
/-! Claims: claim_of, where none of two is told. Own work (made of a template for each statement that reaches it). -/
namespace K25
open PySem L2 Builtin.Str CM
def topV : List Nat → V
  | [] => .non
  | k :: _ => .int (k : Int)
/-- the tops of what lies open -/
def topsOf (rows : Rw) (nm : Str) (b : Nat) : List Nat := tops (bitsAt rows) (opens rows nm b)
def spOf (C : Addr) : Sp := fun vs H Q _ => ∃ (x : Addr) (nm : Str) (b : Nat) (ys : List Int) (r : CR) (rows : Rw) (rv : List V), vs = [.ref x, .str nm, .int b] ∧ CL C r H x rows rv ∧ rows.length ≤ 1000 ∧ (opens rows nm b).length < 64 ∧ BitsOf b ys ∧ ys.length ≤ 1000 ∧ (topsOf rows nm b).length ≤ 1 ∧
  ∀ H', Same H H' → Q (topV (topsOf rows nm b)) H'
section
variable {P : Program} {w : World} {K : PySem.W.Frag} {mg : Str → Option Value} {base : Heap} {C : Addr}
abbrev NOf : List Str := ["self", "name", "bits", "numbers", "union", "number", "widest", "outer"]
theorem scCOf : FnScope NOf ["self", "name", "bits"] (defScope sCOf) := ⟨rfl, rfl, rfl, by decide +kernel, rfl, by decide +kernel, by decide +kernel⟩
theorem lcOf1 : LcS (defScope sCOf).names [(".0", .local), ("number", .local), ("self", .free), ("union", .free)] NOf [true, false, false, false, true, false, false, false] := ⟨by decide +kernel, by decide +kernel, by decide +kernel, by decide +kernel, by decide +kernel, rfl⟩
theorem ndOf1 : NOf.Nodup := by decide +kernel
theorem nums_mem {ks : List Nat} {i : Nat} {v : V} (h : (nums ks)[i]? = some v) : ∃ k, ks[i]? = some k ∧ V.int (k : Int) = v := by
  unfold nums at h
  rw [List.getElem?_map] at h
  exact Option.map_eq_some_iff.mp h
theorem fold_succ {f : Nat → Nat} {S : List Nat} {i k : Nat} (h : S[i]? = some k) : (S.take (i + 1)).foldl (fun a k => a ||| f k) 0 = (S.take i).foldl (fun a k => a ||| f k) 0 ||| f k := by
  rw [List.take_succ, h, List.foldl_append]; rfl
theorem ok_of {f fO fI fP : Addr} {fd fdO fdI fdP : FuncData} (F : Fun K "claim_of" "Claims.claim_of" sCOf f fd) (T : ClT K mg C) (FO : Fun K "told" "told" sTold fO fdO) (bO : Binds K fdO ["bits"] []) (mO : mg "told" = some (.ref fO))
    (FI : Fun K "within" "within" sWithin fI fdI) (bI : Binds K fdI ["one", "other"] []) (mI : mg "within" = some (.ref fI)) (FP : Fun K "open_to" "Claims.open_to" sCOpen fP fdP) (bP : Binds K fdP ["self", "name", "bits"] []) (mP : Meth K C "open_to" fP) :
    FnOk P w K mg base CX0 3 f fd ["self", "name", "bits"] (spOf C) := by
  have GP : FnOk P w K mg base CX0 2 fP fdP ["self", "name", "bits"] (spOpen C) := ok_open FP T FO bO mO FI bI mI
  refine F.ok scCOf (fun vs H Q E h => ?_) (fun cdv A outer s H vs Q E hr h => ?_)
  · obtain ⟨x, nm, b, ys, r, rows, rv, rfl, _⟩ := h; rfl
  · obtain ⟨x, nm, b, ys, r, rows, rv, rfl, h, hlen, hop64, hb, hy, htop, q⟩ := h
    have nd := scCOf.nd
    refine ⟨_, pss_cons (ps_set (i := 3) nd rfl (Or.inl rfl) (pe_meth (pv 0) T.cl mP GP hr bP .nil pass0 (pa_cons (pv 1) (pa_cons (pv 2) pa_nil))))
      (pss_cons (ps_if (pt_cmpR op_eq (pe_callB call_len_seq (by rfl) T.len bt_len (pa_cons (pv 3) pa_nil)) pe_int (nomark _)) (pss_one (ps_ret pe_non)) pss_nil)
      (pss_cons (ps_set (i := 4) nd rfl (Or.inr rfl) pe_int)
      (pss_cons (ps_for PassesOwn.never rfl (pi_list (pv 3)) (pg_name (i := 5) nd rfl (Or.inl rfl))
        (pss_one (ps_set (i := 4) nd rfl (Or.inr rfl) (pe_op op_or (pv 4) (pe_ix ix_tup (pe_ix ix_list (pe_fld (pv 0) rfl : PE _ _ (tFld K (tVar 0) ("rows" : Str))) (pv 5) (fun _ _ => rfl)) pe_int (fun _ _ => rfl))))))
      (pss_cons (ps_lc (i := 6) (ext := []) nd rfl rfl lcOf1 rfl (pi_list (pv 3))
          ⟨fun _ _ _ _ _ => (pg_name (i := 5) ndOf1 rfl (Or.inl rfl) (.inr rfl)), fun _ _ _ _ _ => (pts_one (pt_cmpR op_eq (pe_ix (ix_tup : IxR _ (rIxT K)) (pe_ix (ix_list : IxR _ (rIxL K)) (pe_fld (pv 0) rfl : PE _ _ (tFld K (tVar 0) ("rows" : Str))) (pv 5) (fun _ _ => rfl)) pe_int (fun _ _ => rfl)) (pv 4) (nomark _))), fun _ _ _ _ _ => (pv 5)⟩)
      (pss_cons (ps_if (pt_cmpR op_eq (pe_callB call_len_seq (by rfl) T.len bt_len (pa_cons (pv 6) pa_nil)) pe_int (nomark _)) (pss_one (ps_ret (pe_ix ix_list (pv 6) pe_int (fun _ _ => rfl)))) pss_nil)
      (pss_cons ps_never (pss_one ps_never))))))), ?_⟩
    refine ⟨_, rfl, x, r.dx, _, rfl, h.ins, rfl, _, rfl, _, rfl, x, nm, b, ys, r, rows, rv, rfl, h, hlen, hop64, hb, hy, fun H1 N s1 hN hN1 => ?_⟩
    have h1 := h.same s1
    refine ⟨_, rfl, N, _, rfl, .inl (SqL.of hN1), rfl, decide (opens rows nm b = []), ?_, ?_⟩
    · rw [nums_len]
      congr 1
      rw [decide_eq_decide]
      constructor
      · intro e
        injection e with e
        exact List.length_eq_zero_iff.mp (by omega)
      · intro e; rw [e]; rfl
    by_cases h0 : opens rows nm b = []
    · rw [decide_eq_true h0]
      have e : topsOf rows nm b = [] := tops_nil.mpr h0
      rw [e] at q
      exact iteT (q H1 s1)
    rw [decide_eq_false h0]
    refine iteF ?_
    obtain ⟨k0, hk0⟩ : ∃ k0, topsOf rows nm b = [k0] := by
      have hn : topsOf rows nm b ≠ [] := fun e => h0 (tops_nil.mp e)
      cases ht : topsOf rows nm b with
      | nil => exact absurd ht hn
      | cons k0 r' =>
        rw [ht, List.length_cons] at htop
        have : r' = [] := List.length_eq_zero_iff.mp (by omega)
        exact ⟨k0, by rw [this]⟩
    rw [hk0] at q
    obtain ⟨hkS, hun, hfil⟩ := one_top hk0
    have hlt : ∀ k ∈ opens rows nm b, k < rows.length := fun k hk => (mem_opens.mp hk).1
    have hol : (opens rows nm b).length ≤ rows.length := by
      have := List.length_filter_le (fun k => nameIs rows nm k && decide (In (bitsAt rows k) b)) (List.range rows.length)
      rw [List.length_range] at this
      exact this
    refine ⟨_, rfl, N, rfl, ⟨_, SqL.of hN1⟩, for_list (xs := nums (opens rows nm b)) (fun i σ H' => (∃ v, σ = [some (.ref x), some (.str nm), some (.int (b : Int)), some (.ref N), some (.int (((opens rows nm b).take i).foldl (fun a k => a ||| bitsAt rows k) 0 : Nat)), v, none, none]) ∧ H' = H1)
      ⟨⟨_, rfl⟩, rfl⟩ (fun i σ H' _ hP => by rw [hP.2]; exact SqL.of hN1) ?_ ?_⟩
    · rintro i v σ H' hi ⟨⟨v', rfl⟩, rfl⟩
      obtain ⟨k, ek, rfl⟩ := nums_mem hi
      obtain ⟨t, n, a', m, e1, e2⟩ := h1.bits (hlt k (List.mem_of_getElem? ek))
      refine ⟨_, rfl, _, rfl, x, C, r.dx, _, .ref r.lr, rfl, h1.ins, T.cl, T.nR, rfl, _, rfl, r.lr, _, _, _, rfl, rfl, SqL.of h1.hlr, e1, t, _, _, _, rfl, rfl, SqT.of e2, rfl, _, _, rfl, rfl, ⟨some (.int (k : Int)), ?_⟩, rfl⟩
      rw [fold_succ ek, ← or_nn]
      rfl
    · rintro σ H' ⟨⟨v', rfl⟩, rfl⟩
      rw [nums_len, List.take_length, show (opens rows nm b).foldl (fun a k => a ||| bitsAt rows k) 0 = union (bitsAt rows) (opens rows nm b) from rfl, hun]
      refine ⟨_, rfl, N, rfl, ⟨_, SqL.of hN1⟩, fun D hD => ?_⟩
      have sD : ∀ ys', Same H' (upd H' D (.lst ys')) := fun ys' => same_upd hD
      refine lc_list (K := K) (a := N) (i := 5) (xs := nums (opens rows nm b)) (fun v => match v with | .int k => decide (bitsAt rows k.toNat = bitsAt rows k0) | _ => false) (fun v => v) (fun ys' => SqL.of (sD ys' _ _ hN1)) (by rw [nums_len, sizeLine_eq]; omega) ?_ ?_ ?_
      · intro k y v ys' R hk hR
        obtain ⟨k', ek, rfl⟩ := nums_mem hk
        have h4 := h1.same (sD ys')
        obtain ⟨t, n, a', m, e1, e2⟩ := h4.bits (hlt k' (List.mem_of_getElem? ek))
        refine ⟨_, rfl, x, C, r.dx, _, .ref r.lr, rfl, h4.ins, T.cl, T.nR, rfl, _, rfl, r.lr, _, _, _, rfl, rfl, SqL.of h4.hlr, e1, t, _, _, _, rfl, rfl, SqT.of e2, rfl, _, rfl, rfl, decide (bitsAt rows k' = bitsAt rows k0), ?_, hR _ rfl⟩
        rw [dec_V, decide_eq_decide.mpr (show ((bitsAt rows k' : Nat) : Int) = ((bitsAt rows k0 : Nat) : Int) ↔ bitsAt rows k' = bitsAt rows k0 from by omega)]
      · intro k y v ys' R hk hp hR
        exact ⟨_, rfl, hR _ rfl⟩
      · intro H5 e5
        have efil : ((nums (opens rows nm b)).filter (fun v => match v with | .int k => decide (bitsAt rows k.toNat = bitsAt rows k0) | _ => false)).map (fun v => v) = nums [k0] := by
          rw [hun] at hfil
          rw [← hfil]
          unfold nums
          rw [List.map_id', List.filter_map]
          rfl
        rw [efil] at e5
        subst e5
        refine ⟨_, rfl, D, _, rfl, .inl (SqL.of upd_same), rfl, true, rfl, iteT ?_⟩
        exact ⟨_, rfl, D, _, _, _, rfl, rfl, SqL.of upd_same, rfl, q _ (s1.trans (same_upd hD))⟩
end
end K25

set_option Elab.async false
set_option linter.all false
set_option maxRecDepth 100000
set_option maxHeartbeats 4000000
/-! The law's own cells, whole numbers and names (laws of claims). Own work (made of a template). -/
namespace K25
open PySem L2 Builtin.Str
abbrev sCell : Stmt := top 11
abbrev sWhole : Stmt := top 12
abbrev sNames : Stmt := top 13
structure Txt (mg : Str → Option Value) : Prop where
  len : mg "len" = none
  range : mg "range" = none
  isi : mg "isinstance" = none
  int : mg "int" = none
  bool : mg "bool" = none
  any : mg "any" = none
  sum : mg "sum" = none
/-- what the cell of a number is -/
def cellF (ns : List Int) (k : Int) : Int := if k < (ns.length : Int) then ns.getD k.toNat 0 else
  if 0 < ns.length then ((ns.getD (k * 7 % (ns.length : Int)).toNat 0 * 48271 + k * 7919) % 2147483647) * ((ns.getD (k * 7 % (ns.length : Int)).toNat 0 * 48271 + k * 7919) % 2147483647) % 2147483629 else (k * 7919 + 5) * (k * 7919 + 5) % 2147483629
def spCell (K : PySem.W.Frag) : Sp := fun vs H Q _ => ∃ (a : Addr) (k : Int) (ns : List Int), vs = [.ref a, .int k] ∧ SqL K H a (ns.map V.int) ∧ 0 ≤ k ∧ k ≤ 1000 ∧ ns.length ≤ 63 ∧ Q (.int (cellF ns k)) H
def spWhole : Sp := fun vs H Q _ => ∃ z : Int, vs = [.int z] ∧ Q (.bl true) H
def spNames : Sp := fun vs H Q _ => ∃ (n many : Int), vs = [.int n, .int many] ∧ 0 ≤ many ∧ many ≤ 10 ∧
  ∀ (H' : Hp) (D : Addr) (zs : List Str), Same H H' → H D = none → H' D = some (.lst (zs.map V.str)) → zs.length = many.toNat → (∀ z ∈ zs, z.length ≤ 200) → (∀ z0 z1, zs[0]? = some z0 → zs[1]? = some z1 → z0 ≠ z1) → Q (.ref D) H'
theorem atI_ints {ns : List Int} {k : Int} (h0 : 0 ≤ k) (h1 : k < ns.length) : atI (ns.map V.int) k = some (.int (ns.getD k.toNat 0)) := by
  have hk : k.toNat < ns.length := by omega
  unfold atI ixN
  rw [if_pos h0, if_pos (by rw [List.length_map]; exact h1)]
  show (ns.map V.int)[k.toNat]? = _
  rw [List.getElem?_map, List.getElem?_eq_getElem hk]
  simp [List.getD, List.getElem?_eq_getElem hk]
theorem atI_mem {α : Type} {xs : List α} {i : Int} (h0 : 0 ≤ i) (h : i < xs.length) : ∃ c, atI xs i = some c ∧ c ∈ xs := by
  have hk : i.toNat < xs.length := by omega
  refine ⟨xs[i.toNat], ?_, List.getElem_mem hk⟩
  unfold atI ixN
  rw [if_pos h0, if_pos h]
  exact List.getElem?_eq_getElem hk
theorem join_len : ∀ (xs : List Str), (∀ x ∈ xs, x.length = 1) → (Str.join "" xs).length = xs.length
  | [], _ => rfl
  | [x], h => by show x.length = 1; exact h x List.mem_cons_self
  | x :: y :: r, h => by
    have ih := join_len (y :: r) fun z hz => h z (List.mem_cons_of_mem _ hz)
    show (x ++ "" ++ Str.join "" (y :: r)).length = _
    rw [← cpl_len, cpl_cat, cpl_cat, List.length_append, List.length_append, cpl_len, cpl_len, cpl_len, ih, h x List.mem_cons_self, List.length_cons (a := x)]
    show 1 + 0 + _ = _
    omega
/-- how the name of a number is made -/
def NmP (n : Int) (bs : Str) (i : Nat) (z : Str) : Prop := (n / 11 % 3 = 0 ∧ z.length = bs.length + i) ∨ (¬ n / 11 % 3 = 0 ∧ ∃ c : Nat, atI (cpl ("abcdefghijklmnopqrstuvwxyz" : Str)) ((n / 5 + (i : Int)) % 26) = some c ∧ z = Txt.slice bs none (some (n / 7 % (bs.length : Int))) ++ ⟨#[c]⟩ ++ Txt.slice bs (some (n / 7 % (bs.length : Int) + 1)) none)
theorem abc_apart : ∀ i j : Fin 26, i ≠ j → (cpl ("abcdefghijklmnopqrstuvwxyz" : Str))[i.val]? ≠ (cpl ("abcdefghijklmnopqrstuvwxyz" : Str))[j.val]? := by decide +kernel
theorem atI_26 {i : Int} (h0 : 0 ≤ i) (h1 : i < 26) : atI (cpl ("abcdefghijklmnopqrstuvwxyz" : Str)) i = (cpl ("abcdefghijklmnopqrstuvwxyz" : Str))[i.toNat]? := by
  unfold atI ixN
  rw [if_pos h0, if_pos (by rw [show (cpl ("abcdefghijklmnopqrstuvwxyz" : Str)).length = 26 from by decide]; exact h1)]
  rfl
theorem names_apart {n : Int} {bs z0 z1 : Str} (h0 : NmP n bs 0 z0) (h1 : NmP n bs 1 z1) : z0 ≠ z1 := by
  intro e
  subst e
  rcases h0 with ⟨a0, b0⟩ | ⟨a0, c0, e0, f0⟩
  · rcases h1 with ⟨a1, b1⟩ | ⟨a1, _⟩
    · omega
    · exact a1 a0
  · rcases h1 with ⟨a1, _⟩ | ⟨a1, c1, e1, f1⟩
    · exact a0 a1
    · have hc : c0 = c1 := by
        rw [f0] at f1
        have := congrArg cpl f1
        rw [cpl_cat, cpl_cat, cpl_cat, cpl_cat] at this
        have h2 := List.append_cancel_right this
        have h3 := List.append_cancel_left h2
        have h4 : [c0] = [c1] := h3
        injection h4
      subst hc
      have g0 := Int.emod_nonneg (n / 5 + ((0 : Nat) : Int)) (show (26 : Int) ≠ 0 by decide)
      have g1 := Int.emod_lt_of_pos (n / 5 + ((0 : Nat) : Int)) (show (0 : Int) < 26 by decide)
      have k0 := Int.emod_nonneg (n / 5 + ((1 : Nat) : Int)) (show (26 : Int) ≠ 0 by decide)
      have k1 := Int.emod_lt_of_pos (n / 5 + ((1 : Nat) : Int)) (show (0 : Int) < 26 by decide)
      rw [atI_26 g0 g1] at e0
      rw [atI_26 k0 k1] at e1
      refine abc_apart ⟨((n / 5 + ((0 : Nat) : Int)) % 26).toNat, by omega⟩ ⟨((n / 5 + ((1 : Nat) : Int)) % 26).toNat, by omega⟩ (fun z => ?_) (e0.trans e1.symm)
      injection z with z
      omega
section
variable {P : Program} {w : World} {K : PySem.W.Frag} {mg : Str → Option Value} {base : Heap}
theorem scCell : FnScope ["_law_script", "_law_k", "_law_number"] ["_law_script", "_law_k"] (defScope sCell) := ⟨rfl, rfl, rfl, by decide +kernel, rfl, by decide +kernel, by decide +kernel⟩
theorem ok_cell {f : Addr} {fd : FuncData} (F : Fun K "_law_cell" "_law_cell" sCell f fd) (T : Txt mg) : FnOk P w K mg base CX0 1 f fd ["_law_script", "_law_k"] (spCell K) := by
  refine F.ok scCell (fun vs H Q E h => ?_) (fun cdv A outer s H vs Q E hr h => ?_)
  · obtain ⟨a, k, ns, rfl, _⟩ := h; rfl
  · obtain ⟨a, k, ns, rfl, hS, k0, k1, hl, q⟩ := h
    have nd := scCell.nd
    refine ⟨_, pss_cons (ps_if (pt_cmpR op_lt (pv 1) (pe_callB call_len_seq (by rfl) T.len bt_len (pa_cons (pv 0) pa_nil)) (nomark _)) (pss_one (ps_ret (pe_ix ix_list (pv 0) (pv 1) (fun _ _ => rfl)))) pss_nil)
      (pss_cons (ps_set (i := 2) nd rfl (Or.inl rfl) (pe_op op_add (pe_op op_mul (pv 1) pe_int) pe_int))
      (pss_cons (ps_if (pt_cmpR op_gt (pe_callB call_len_seq (by rfl) T.len bt_len (pa_cons (pv 0) pa_nil)) pe_int (nomark _))
        (pss_one (ps_set (i := 2) nd rfl (Or.inl rfl) (pe_op op_mod (pe_op op_add (pe_op op_mul (pe_ix ix_list (pv 0) (pe_op op_mod (pe_op op_mul (pv 1) pe_int) (pe_callB call_len_seq (by rfl) T.len bt_len (pa_cons (pv 0) pa_nil))) (fun _ _ => rfl)) pe_int) (pe_op op_mul (pv 1) pe_int)) pe_int))) pss_nil)
      (pss_one (ps_ret (pe_op op_mod (pe_op op_mul (pv 2) (pv 2)) pe_int))))), ?_⟩
    have hlen : ((ns.map V.int).length : Int) = ns.length := by rw [List.length_map]
    refine ⟨_, rfl, _, rfl, a, _, rfl, .inl hS, _, _, rfl, rfl, _, rfl, ?_⟩
    refine ite2 (fun hlt => ?_) (fun hge => ?_)
    · -- return script[k]
      have hlt' : k < ns.length := by rw [decide_eq_true_eq, hlen] at hlt; exact hlt
      have hk : k.toNat < ns.length := by omega
      unfold cellF at q
      rw [if_pos hlt'] at q
      exact ⟨_, rfl, _, rfl, a, _, _, _, rfl, rfl, hS, atI_ints k0 hlt', q⟩
    · have hge' : ¬ k < (ns.length : Int) := by rw [decide_eq_true_eq, hlen] at hge; exact hge
      unfold cellF at q
      rw [if_neg hge'] at q
      refine ⟨_, rfl, _, _, rfl, rfl, .inl ⟨by omega, by omega⟩, _, _, rfl, rfl, ?_⟩
      refine ⟨_, rfl, a, _, rfl, .inl hS, _, _, rfl, rfl, _, rfl, ?_⟩
      refine ite2 (fun hpos => ?_) (fun hz => ?_)
      · have hpos' : 0 < ns.length := by
          rw [decide_eq_true_eq, hlen] at hpos; omega
        rw [if_pos hpos'] at q
        have hm0 : 0 ≤ k * 7 % (ns.length : Int) := Int.emod_nonneg _ (by omega)
        have hm1 : k * 7 % (ns.length : Int) < ns.length := Int.emod_lt_of_pos _ (by omega)
        have hi : (k * 7 % (ns.length : Int)).toNat < ns.length := by omega
        refine ⟨_, rfl, _, rfl, _, _, rfl, rfl, .inl ⟨by omega, by omega⟩, _, rfl, a, _, rfl, .inl hS, _, _, rfl, rfl, (by rw [hlen]; omega), a, _, _, _, rfl, rfl, hS, (by rw [hlen]; exact atI_ints hm0 hm1), _, _, rfl, rfl, .inr ⟨by decide, by decide⟩, _, rfl, _, _, rfl, rfl, .inl ⟨by omega, by omega⟩, _, _, rfl, rfl, _, _, rfl, rfl, (by show (0 : Int) < _; decide), ?_⟩
        have z0 := Int.emod_nonneg (ns.getD (k * 7 % (ns.length : Int)).toNat 0 * 48271 + k * 7919) (show (2147483647 : Int) ≠ 0 by decide)
        have z1 := Int.emod_lt_of_pos (ns.getD (k * 7 % (ns.length : Int)).toNat 0 * 48271 + k * 7919) (show (0 : Int) < 2147483647 by decide)
        exact ⟨_, rfl, _, rfl, _, _, rfl, rfl, .inl ⟨by show -(2 ^ 64 : Int) < (ns.getD (k * 7 % (ns.length : Int)).toNat 0 * 48271 + k * 7919) % 2147483647; omega, by show (ns.getD (k * 7 % (ns.length : Int)).toNat 0 * 48271 + k * 7919) % 2147483647 < (2 ^ 64 : Int); omega⟩, _, _, rfl, rfl, (by show (0 : Int) < _; decide), q⟩
      · have hz0 : ¬ 0 < ns.length := by rw [decide_eq_true_eq, hlen] at hz; omega
        rw [if_neg hz0] at q
        exact ⟨_, rfl, _, rfl, _, _, rfl, rfl, .inl ⟨by omega, by omega⟩, _, _, rfl, rfl, (by show (0 : Int) < _; decide), q⟩
theorem scWhole : FnScope ["_law_found_here"] ["_law_found_here"] (defScope sWhole) := ⟨rfl, rfl, rfl, by decide +kernel, rfl, by decide +kernel, by decide +kernel⟩
theorem ok_whole {f : Addr} {fd : FuncData} (F : Fun K "_law_whole" "_law_whole" sWhole f fd) (T : Txt mg) : FnOk P w K mg base CX0 1 f fd ["_law_found_here"] spWhole := by
  refine F.ok scWhole (fun vs H Q E h => ?_) (fun cdv A outer s H vs Q E hr h => ?_)
  · obtain ⟨x, rfl, _⟩ := h; rfl
  · obtain ⟨x, rfl, q⟩ := h
    refine ⟨_, pss_one (ps_ret (pe_and (pe_callB call_isI (by rfl) T.isi bt_isinstance (pa_cons (pv 0) (pa_cons (pe_bltn (v := .ty "int") (by rfl) T.int bt_int rfl) pa_nil)))
      (pe_one (pe_not (pe_callB call_isI (by rfl) T.isi bt_isinstance (pa_cons (pv 0) (pa_cons (pe_bltn (v := .ty "bool") (by rfl) T.bool bt_bool rfl) pa_nil))))))), ?_⟩
    refine ⟨_, rfl, .int x, .ty "int", _, _, true, rfl, rfl, TyOf.int x, rfl, true, rfl, iteT ?_⟩
    exact ⟨_, rfl, .int x, .ty "bool", _, _, false, rfl, rfl, TyOf.int x, rfl, false, rfl, q⟩
/-! ### names -/
abbrev NN : List Str := ["_law_cell_here", "_law_many", "_law_letters", "_law_size", "_law_base", "_law_at", "_law_names_here", "_law_k", "_law_name"]
theorem scNames : FnScope NN ["_law_cell_here", "_law_many"] (defScope sNames) := ⟨rfl, rfl, rfl, by decide +kernel, rfl, by decide +kernel, by decide +kernel⟩
theorem lcNames1 : LcS (defScope sNames).names [(".0", .local), ("_law_k", .local), ("_law_cell_here", .free), ("_law_letters", .free)] NN [true, false, true, false, false, false, false, false, false] := ⟨by decide +kernel, by decide +kernel, by decide +kernel, by decide +kernel, by decide +kernel, rfl⟩
theorem ndNames1 : NN.Nodup := by decide +kernel
theorem yes_if {σ : St} {H : Hp} {A B : Hp → Prop} (h : A H) : tYes σ H (fun b H3 => if b = true then A H3 else B H3) := by
  show if true = true then A H else B H
  rw [if_pos rfl]; exact h
theorem rep_len1 (c : Str) (k : Nat) (hc : c.length = 1) : (ofL (List.replicate k (cpl c)).flatten).length = k := by
  rw [← cpl_len, cpl_ofL]
  simp only [List.length_flatten, List.map_replicate, List.sum_replicate_nat]
  rw [cpl_len, hc, Nat.mul_one]
theorem ok_names {f : Addr} {fd : FuncData} (F : Fun K "_law_names" "_law_names" sNames f fd) (T : Txt mg) : FnOk P w K mg base CX0 1 f fd ["_law_cell_here", "_law_many"] spNames := by
  refine F.ok scNames (fun vs H Q E h => ?_) (fun cdv A outer s H vs Q E hr h => ?_)
  · obtain ⟨n, m, rfl, _⟩ := h; rfl
  · obtain ⟨n, many, rfl, m0, m1, q⟩ := h
    have nd := scNames.nd
    have letr : ∀ i : Int, ∃ c : Nat, atI (cpl ("abcdefghijklmnopqrstuvwxyz" : Str)) (i % 26) = some c := fun i => by
      have g0 := Int.emod_nonneg i (show (26 : Int) ≠ 0 by decide)
      have g1 := Int.emod_lt_of_pos i (show (0 : Int) < 26 by decide)
      obtain ⟨c, ec, _⟩ := atI_mem (xs := cpl ("abcdefghijklmnopqrstuvwxyz" : Str)) (i := i % 26) g0 (by rw [show (cpl ("abcdefghijklmnopqrstuvwxyz" : Str)).length = 26 from by decide]; exact g1)
      exact ⟨c, ec⟩
    have REST : ∃ t : TS, PSs (cxOf CX0 P w K mg base NN "_law_names" (defScope sNames) f cdv A outer s H E).nox ((defBody sNames).drop 3) t ∧ ∀ sz : Int, 1 ≤ sz → sz ≤ 60 →
        t { nx := fun _ H' => Q .non H', rt := Q } [some (.int n), some (.int many), some (.str "abcdefghijklmnopqrstuvwxyz"), some (.int sz), none, none, none, none, none] H := by
      refine ⟨_, pss_cons (ps_set (i := 4) nd rfl (Or.inl rfl) (pe_bm PySem.F.plainAttrs_str PySem.F.slot_str_join PySem.F.type_str_join mt_join pe_str (pa_cons (pe_lc (ext := []) lcNames1 rfl (pi_range1 rfl T.range (pa_cons (pv 3) pa_nil))
          ⟨fun _ _ _ _ _ => (pg_name (i := 7) ndNames1 rfl (Or.inl rfl) (.inr rfl)), fun _ _ _ _ _ => pts_nil, fun _ _ _ _ _ => (pe_ix ix_str (pv 2) (pe_op op_mod (pe_op op_add (pe_op op_mod (pv 0) pe_int) (pe_op op_mul pe_int (pv 7))) pe_int) (fun _ _ => rfl))⟩) pa_nil)))
        (pss_cons (ps_set (i := 5) nd rfl (Or.inl rfl) (pe_op op_mod (pe_op op_fdiv (pv 0) pe_int) (pe_callB call_len_str (by rfl) T.len bt_len (pa_cons (pv 4) pa_nil))))
        (pss_cons (ps_set (i := 6) nd rfl (Or.inl rfl) (pe_lst pa_nil))
        (pss_cons (ps_for PassesOwn.never rfl (pi_range1 rfl T.range (pa_cons (pv 1) pa_nil)) (pg_name (i := 7) nd rfl (Or.inl rfl))
        (pss_cons (ps_set (i := 8) nd rfl (Or.inl rfl) (pe_op op_add_str (pe_op op_add_str (pe_slice sl_str (pv 4) po_none (po_some (pv 5))) (pe_ix ix_str (pv 2) (pe_op op_mod (pe_op op_add (pe_op op_fdiv (pv 0) pe_int) (pv 7)) pe_int) (fun _ _ => rfl))) (pe_slice sl_str (pv 4) (po_some (pe_op op_add (pv 5) pe_int)) po_none)))
          (pss_cons (ps_if (pt_cmpR op_eq (pe_op op_mod (pe_op op_fdiv (pv 0) pe_int) pe_int) pe_int (nomark _))
          (pss_one (ps_set (i := 8) nd rfl (Or.inl rfl) (pe_op op_add_str (pv 4) (pe_op op_repS (pe_ix ix_str pe_str (pe_op op_mod (pe_op op_fdiv (pv 0) pe_int) pe_int) (fun _ _ => rfl)) (pv 7)))))
          pss_nil)
          (pss_one (ps_expr (pe_bm PySem.F.plainAttrs_list PySem.F.slot_list_append PySem.F.type_list_append mt_append (pv 6) (pa_cons (pv 8) pa_nil)))))))
        (pss_one (ps_ret (pv 6)))))), ?_⟩
      intro sz z0 z1
      refine ⟨rfl, _, rfl, sz, rfl, by omega, by omega, fun D hD => ?_⟩
      refine lc_rng (lo := 0) (n := sz.toNat) (fun k ys σ' H' => (∃ v, σ' = [some (.int n), none, some (.str "abcdefghijklmnopqrstuvwxyz"), none, none, none, none, v, none]) ∧ H' = upd H D (.lst ys) ∧ ∃ xs : List Str, ys = xs.map V.str ∧ (∀ x ∈ xs, x.length = 1) ∧ xs.length = k)
        ⟨⟨_, rfl⟩, rfl, [], rfl, (fun x h => nomatch h), rfl⟩ ?_ ?_
      · rintro k ys σ' H' hk ⟨⟨v, rfl⟩, rfl, xs, hys, hx1, hxl⟩
        unfold gName
        refine yes_if ?_
        obtain ⟨c, ec⟩ := letr (n % 10007 + 7 * (0 + (k : Int)))
        refine ⟨_, rfl, _, rfl, _, _, rfl, rfl, (by show (0 : Int) < _; decide), _, rfl, _, _, rfl, rfl, .inl ⟨by decide, by decide⟩, _, _, rfl, rfl, _, _, rfl, rfl, (by show (0 : Int) < _; decide), ("abcdefghijklmnopqrstuvwxyz" : Str), _, c, rfl, rfl, by decide, ec, ?_⟩
        refine ⟨upd_same, by rw [hys, List.length_map, hxl, sizeLine_eq]; omega, Beh.of hk ⟨⟨_, rfl⟩, by rw [upd_upd], xs ++ [⟨#[c]⟩], by rw [List.map_append, hys]; rfl, fun x hx => ?_, by rw [List.length_append, hxl]; rfl⟩⟩
        rcases List.mem_append.mp hx with h | h
        · exact hx1 x h
        · rw [List.mem_singleton.mp h]; rfl
      · rintro ys σ' H1 ⟨_, rfl, xs, rfl, hx1, hxl⟩
        have s1 := same_upd (o := .lst (xs.map V.str)) hD
        have hbl : (Str.join "" xs).length = sz.toNat := by rw [join_len xs hx1, hxl]
        refine ⟨_, D, xs, rfl, rfl, SqL.of upd_same, joinOk_of (B := 1) (fun y hy => by rw [hx1 y hy]; exact Nat.le_refl _) (by show xs.length * 1 + xs.length * 0 ≤ _; omega), ?_⟩
        generalize Str.join "" xs = bs at hbl ⊢
        generalize upd H D (.lst (xs.map V.str)) = H1 at s1 ⊢
        refine ⟨_, rfl, _, _, rfl, rfl, ⟨by decide, by decide⟩, _, rfl, bs, rfl, by rw [sizeLine_eq]; omega, _, _, rfl, rfl, (by show (0 : Int) < ((bs.length : Nat) : Int); omega), ?_⟩
        refine ⟨Nat.zero_le _, fun N hN => ?_⟩
        have hNn : H N = none := by
          cases e : H N with
          | none => rfl
          | some o => rw [s1 _ _ e] at hN; cases hN
        have sN := s1.trans (same_upd (o := .lst []) hN)
        refine ⟨_, rfl, many, rfl, by omega, by omega, for_range (lo := 0) (n := many.toNat) (fun i σ H' => ∃ (zs : List Str) (v7 v8 : Option V), σ = [some (.int n), some (.int many), some (.str "abcdefghijklmnopqrstuvwxyz"), some (.int sz), some (.str bs), some (.int (n / 7 % (bs.length : Int))), some (.ref N), v7, v8] ∧ Same H H' ∧ H' N = some (.lst (zs.map V.str)) ∧ zs.length = i ∧ (∀ z ∈ zs, z.length ≤ 200) ∧ ∀ (j : Nat) z, zs[j]? = some z → NmP n bs j z)
          ⟨[], none, none, rfl, sN, upd_same, rfl, (fun z h => nomatch h), fun j z e => by simp at e⟩ ?_ ?_⟩
        · rintro i σ H' hi ⟨zs, v7, v8, rfl, s2, hN2, hzl, hz2, hnp⟩
          have grow : ∀ z, NmP n bs i z → ∀ (j : Nat) y, (zs ++ [z])[j]? = some y → NmP n bs j y := fun z hz j y e => by
            by_cases hj : j < zs.length
            · rw [List.getElem?_append_left hj] at e; exact hnp j y e
            · have hj2 : j = zs.length := by
                have := (List.getElem?_eq_some_iff.mp e).1
                rw [List.length_append, List.length_singleton] at this
                omega
              subst hj2
              rw [List.getElem?_append_right (Nat.le_refl _), Nat.sub_self] at e
              have e' : z = y := by injection e
              rw [← e', hzl]; exact hz
          obtain ⟨c, ec⟩ := letr (n / 5 + (0 + (i : Int)))
          have l1 := Txt.slice_le bs none (some (n / 7 % (bs.length : Int)))
          have l2 := Txt.slice_le bs (some (n / 7 % (bs.length : Int) + 1)) none
          refine ⟨_, rfl, _, rfl, _, rfl, bs, rfl, by rw [sizeLine_eq]; omega, _, rfl, _, rfl, _, _, rfl, rfl, ⟨by decide, by decide⟩, _, rfl, _, _, rfl, rfl, _, _, rfl, rfl, (by show (0 : Int) < _; decide), ("abcdefghijklmnopqrstuvwxyz" : Str), _, c, rfl, rfl, by decide, ec, _, _, rfl, rfl, ?_, _, rfl, _, rfl, _, _, rfl, rfl, _, rfl, bs, rfl, by rw [sizeLine_eq]; omega, _, _, rfl, rfl, ?_, ?_⟩
          · show (Txt.slice bs none (some (n / 7 % (bs.length : Int)))).length + 1 ≤ _
            rw [sizeLine_eq]; omega
          · rw [← cpl_len, cpl_cat, List.length_append, cpl_len, cpl_len, sizeLine_eq]
            show _ + 1 + _ ≤ _
            omega
          have hnmp : ¬ n / 11 % 3 = 0 → NmP n bs i (Txt.slice bs none (some (n / 7 % (bs.length : Int))) ++ ⟨#[c]⟩ ++ Txt.slice bs (some (n / 7 % (bs.length : Int) + 1)) none) := fun hne => .inr ⟨hne, c, by rw [show (i : Int) = 0 + (i : Int) by omega]; exact ec, rfl⟩
          obtain ⟨nm, enm, hnl⟩ : ∃ nm : Str, Txt.slice bs none (some (n / 7 % (bs.length : Int))) ++ ⟨#[c]⟩ ++ Txt.slice bs (some (n / 7 % (bs.length : Int) + 1)) none = nm ∧ nm.length ≤ 200 := by
            refine ⟨_, rfl, ?_⟩
            rw [← cpl_len, cpl_cat, cpl_cat, List.length_append, List.length_append, cpl_len, cpl_len, cpl_len]
            show _ + 1 + _ ≤ _
            omega
          rw [enm] at hnmp
          dsimp only
          rw [enm]
          refine ⟨_, rfl, _, _, rfl, rfl, ⟨by decide, by decide⟩, _, _, rfl, rfl, (by show (0 : Int) < _; decide), rfl, _, rfl, ite2 (fun hcc => ?_) (fun hcc => ?_)⟩
          · have hc0 : n / 11 % 3 = 0 := by have := of_decide_eq_true hcc; injection this
            have g0 := Int.emod_nonneg (n / 5) (show (10 : Int) ≠ 0 by decide)
            have g1 := Int.emod_lt_of_pos (n / 5) (show (0 : Int) < 10 by decide)
            obtain ⟨d, ed, _⟩ := atI_mem (xs := cpl ("0123456789" : Str)) (i := n / 5 % 10) g0 (by rw [show (cpl ("0123456789" : Str)).length = 10 from by decide]; exact g1)
            refine ⟨_, rfl, _, rfl, _, _, rfl, rfl, ⟨by decide, by decide⟩, _, _, rfl, rfl, (by show (0 : Int) < _; decide), ("0123456789" : Str), _, d, rfl, rfl, by decide, ed, _, rfl, ⟨#[d]⟩, _, rfl, rfl, by omega, by omega, ?_, by show 1 ≤ 1000000; decide, _, _, rfl, rfl, ?_, ?_⟩
            · show 1 * _ ≤ _; rw [sizeLine_eq]; omega
            · show bs.length + (ofL (List.replicate (0 + (i : Int)).toNat (cpl ⟨#[d]⟩)).flatten).length ≤ _
              rw [rep_len1 ⟨#[d]⟩ _ rfl, sizeLine_eq]; omega
            refine ⟨_, rfl, .inl ⟨rfl, _, SqL.of hN2⟩, _, rfl, N, _, _, rfl, rfl, hN2, by rw [List.length_map, hzl, sizeLine_eq]; omega, ?_⟩
            refine ⟨zs ++ [bs ++ ofL (List.replicate (0 + (i : Int)).toNat (cpl ⟨#[d]⟩)).flatten], _, _, rfl, fun e o he => ?_, by rw [upd_same, List.map_append]; rfl, by rw [List.length_append, hzl]; rfl, fun z hz => ?_, ?_⟩
            · rw [upd_ne (ne_of_none he hNn)]; exact s2 _ _ he
            · rcases List.mem_append.mp hz with h | h
              · exact hz2 z h
              · rw [List.mem_singleton.mp h, ← cpl_len, cpl_cat, List.length_append, cpl_len, cpl_len, rep_len1 ⟨#[d]⟩ _ rfl]; omega
            · refine grow _ (.inl ⟨hc0, ?_⟩)
              rw [← cpl_len, cpl_cat, List.length_append, cpl_len, cpl_len, rep_len1 ⟨#[d]⟩ _ rfl]; omega
          · refine ⟨_, rfl, .inl ⟨rfl, _, SqL.of hN2⟩, _, rfl, N, _, _, rfl, rfl, hN2, by rw [List.length_map, hzl, sizeLine_eq]; omega, ?_⟩
            refine ⟨zs ++ [nm], _, _, rfl, fun e o he => ?_, by rw [upd_same, List.map_append]; rfl, by rw [List.length_append, hzl]; rfl, fun z hz => ?_, ?_⟩
            · rw [upd_ne (ne_of_none he hNn)]; exact s2 _ _ he
            · rcases List.mem_append.mp hz with h | h
              · exact hz2 z h
              · rw [List.mem_singleton.mp h]; exact hnl
            · exact grow _ (hnmp fun z => hcc (decide_eq_true (by show V.int (n / 11 % 3) = V.int 0; rw [z])))
        · rintro σ H' ⟨zs, v7, v8, rfl, s2, hN2, hzl, hz2, hnp⟩
          exact ⟨_, rfl, q H' N zs s2 hNn hN2 hzl hz2 fun z0 z1 e0 e1 => names_apart (hnp 0 z0 e0) (hnp 1 z1 e1)⟩
    obtain ⟨tR, hR, hrest⟩ := REST
    refine ⟨_, pss_cons (ps_set (i := 2) nd rfl (Or.inr rfl) pe_str)
      (pss_cons (ps_set (i := 3) nd rfl (Or.inl rfl) (pe_op op_add pe_int (pe_op op_mod (pv 0) pe_int)))
      (pss_cons (ps_if (pt_cmpR op_eq (pe_op op_mod (pe_op op_fdiv (pv 0) pe_int) pe_int) pe_int (nomark _))
      (pss_one (ps_set (i := 3) nd rfl (Or.inl rfl) (pe_op op_add pe_int (pe_op op_mod (pe_op op_fdiv (pv 0) pe_int) pe_int)))) pss_nil) hR)), ?_⟩
    have g0 := Int.emod_nonneg n (show (6 : Int) ≠ 0 by decide)
    have g1 := Int.emod_lt_of_pos n (show (0 : Int) < 6 by decide)
    have k0 := Int.emod_nonneg (n / 616) (show (60 : Int) ≠ 0 by decide)
    have k1 := Int.emod_lt_of_pos (n / 616) (show (0 : Int) < 60 by decide)
    refine ⟨_, rfl, _, _, rfl, rfl, (by show (0 : Int) < _; decide), _, _, rfl, rfl, ?_⟩
    refine ⟨_, rfl, _, _, rfl, rfl, ⟨by decide, by decide⟩, _, _, rfl, rfl, (by show (0 : Int) < _; decide), rfl, _, rfl, ite2 (fun _ => ?_) (fun _ => ?_)⟩
    · refine ⟨_, rfl, _, _, rfl, rfl, ⟨by decide, by decide⟩, _, _, rfl, rfl, (by show (0 : Int) < _; decide), _, _, rfl, rfl, ?_⟩
      exact hrest _ (by show (1 : Int) ≤ 1 + n / 616 % 60; omega) (by show 1 + n / 616 % 60 ≤ (60 : Int); omega)
    · exact hrest _ (by show (1 : Int) ≤ 1 + n % 6; omega) (by show 1 + n % 6 ≤ (60 : Int); omega)
end
end K25

set_option Elab.async false
set_option linter.all false
set_option maxRecDepth 100000
set_option maxHeartbeats 4000000
set_option exponentiation.threshold 30000
/-! k25: what the claims are, by their numbers. Own work. -/
namespace K25
open PySem L2 Builtin.Str CM
structure Ct where
  n : Str
  a : Int
  b : Nat
  k : Str
  z : Int
/-- the claim of a number -/
def U (ns : List Int) (zs : List Str) (k : Nat) : Ct :=
  ⟨zs.getD (cellF ns (3 + (k : Int)) % 3).toNat "", cellF ns (3 + (k : Int)) / 2 % (10 ^ 15 + 1), if cellF ns (3 + (k : Int)) / 3 % 2 = 1 then 2 ^ (1000 * k + (cellF ns (3 + (k : Int)) / 6 % 999).toNat) + 2 ^ (1000 * k + (cellF ns (3 + (k : Int)) / 6 % 999).toNat + 1) else 2 ^ (1000 * k + (cellF ns (3 + (k : Int)) / 6 % 999).toNat),
    if cellF ns (3 + (k : Int)) / 7 % 2 = 1 then "macro" else "seen", cellF ns (3 + (k : Int)) / 5 % (10 ^ 15 + 1)⟩
def Ah (nm : Str) (a0 : Int) (j : Nat) : Ct := ⟨nm, a0 * (j : Int), 2 ^ (18000 + j), "seen", (j : Int)⟩
def ct (ns : List Int) (zs : List Str) (id : Nat) : Ct := if id < 18 then U ns zs id else Ah (zs.getD 3 "") (cellF ns 22 % 1009) (id - 100)
def lo (id : Nat) : Nat := if id < 18 then 1000 * id else 18000 + (id - 100)
def hi (id : Nat) : Nat := if id < 18 then 1000 * id + 1000 else 18000 + (id - 100) + 1
def Vd (id : Nat) : Prop := id < 18 ∨ (100 ≤ id ∧ id < 221)
theorem tb_two (n m : Nat) : (2 ^ n + 2 ^ (n + 1)).testBit m = (decide (m = n) || decide (m = n + 1)) := by
  rw [Bits.tb_step (2 ^ n) (n + 1) (Nat.pow_lt_pow_right (by decide) (Nat.lt_succ_self n)) m, Nat.testBit_two_pow]
  congr 1
  rw [decide_eq_decide]
  exact ⟨fun h => h.symm, fun h => h.symm⟩
theorem tb_one (n m : Nat) : (2 ^ n).testBit m = decide (m = n) := by
  rw [Nat.testBit_two_pow, decide_eq_decide]
  exact ⟨fun h => h.symm, fun h => h.symm⟩
theorem num_lt (z : Int) : (z / 6 % 999).toNat < 999 := by
  have h0 := Int.emod_nonneg (z / 6) (show (999 : Int) ≠ 0 by decide)
  have h1 := Int.emod_lt_of_pos (z / 6) (show (0 : Int) < 999 by decide)
  omega
section
variable {ns : List Int} {zs : List Str}
theorem ct_bits {id m : Nat} (h : (ct ns zs id).b.testBit m = true) : lo id ≤ m ∧ m < hi id := by
  unfold ct at h
  unfold lo hi
  by_cases hid : id < 18
  · rw [if_pos hid] at h
    rw [if_pos hid, if_pos hid]
    have hn := num_lt (cellF ns (3 + (id : Int)))
    unfold U at h
    dsimp only at h
    split at h
    · rw [tb_two] at h
      simp only [Bool.or_eq_true, decide_eq_true_eq] at h
      omega
    · rw [tb_one] at h
      simp only [decide_eq_true_eq] at h
      omega
  · rw [if_neg hid] at h
    rw [if_neg hid, if_neg hid]
    have h : (2 ^ (18000 + (id - 100))).testBit m = true := h
    rw [tb_one] at h
    simp only [decide_eq_true_eq] at h
    omega
theorem ct_pos (ns : List Int) (zs : List Str) (id : Nat) : (ct ns zs id).b ≠ 0 := by
  unfold ct
  by_cases hid : id < 18
  · rw [if_pos hid]
    unfold U
    dsimp only
    split
    · have := Nat.two_pow_pos (1000 * id + (cellF ns (3 + (id : Int)) / 6 % 999).toNat)
      omega
    · have := Nat.two_pow_pos (1000 * id + (cellF ns (3 + (id : Int)) / 6 % 999).toNat)
      omega
  · rw [if_neg hid]
    show 2 ^ (18000 + (id - 100)) ≠ 0
    have := Nat.two_pow_pos (18000 + (id - 100))
    omega
theorem blocks {i j m : Nat} (vi : Vd i) (vj : Vd j) (h1 : lo i ≤ m) (h2 : m < hi i) (h3 : lo j ≤ m) (h4 : m < hi j) : i = j := by
  unfold lo at h1 h3
  unfold hi at h2 h4
  unfold Vd at vi vj
  split at h1 <;> split at h3 <;> simp_all <;> omega
theorem hi_le {i : Nat} (v : Vd i) : hi i ≤ 19000 := by
  unfold hi
  unfold Vd at v
  split <;> omega
/-- what is asked: a claim's own set, or that and one more number -/
def Ask (ns : List Int) (zs : List Str) (id q : Nat) : Prop := q = (ct ns zs id).b ∨ q = (ct ns zs id).b + 2 ^ 19000
theorem ct_lt {id : Nat} (v : Vd id) : (ct ns zs id).b < 2 ^ 19000 := Bits.lt_of_bits fun m hm => by
  cases e : (ct ns zs id).b.testBit m with
  | false => rfl
  | true => have := (ct_bits e).2; have := hi_le v; omega
theorem ask_bits {id q m : Nat} (v : Vd id) (h : Ask ns zs id q) (hm : q.testBit m = true) : (ct ns zs id).b.testBit m = true ∨ m = 19000 := by
  rcases h with rfl | rfl
  · exact .inl hm
  · rw [Bits.tb_step _ _ (ct_lt v)] at hm
    simpa using hm
theorem ask_in {id q : Nat} (v : Vd id) (h : Ask ns zs id q) : CM.In (ct ns zs id).b q := in_bits.mpr fun m hm => by
  rcases h with rfl | rfl
  · exact hm
  · rw [Bits.tb_step _ _ (ct_lt v), hm]; rfl
theorem in_one {i id q : Nat} (vi : Vd i) (v : Vd id) (h : Ask ns zs id q) (hin : CM.In (ct ns zs i).b q) : i = id := by
  have hb := log2_bit (ct_pos ns zs i)
  have hq := in_bits.mp hin _ hb
  obtain ⟨l1, l2⟩ := ct_bits hb
  rcases ask_bits v h hq with e | e
  · obtain ⟨l3, l4⟩ := ct_bits e
    exact blocks vi v l1 l2 l3 l4
  · have := hi_le vi; omega
theorem ct_inj {i j : Nat} (vi : Vd i) (vj : Vd j) (h : ct ns zs i = ct ns zs j) : i = j :=
  in_one vi vj (.inl rfl) (by rw [h]; exact in_refl _)
def rowsOf (cs : List Ct) : Rw := cs.map fun c => (c.n, c.b)
theorem rowsOf_at {cs : List Ct} {i : Nat} {c : Ct} (h : cs[i]? = some c) : (rowsOf cs)[i]? = some (c.n, c.b) := by unfold rowsOf; rw [List.getElem?_map, h]; rfl
theorem only_one {L : List Nat} (hs : L.Pairwise (· < ·)) {i : Nat} (h : ∀ x, x ∈ L ↔ x = i) : L = [i] := by
  cases L with
  | nil => exact nomatch (h i).mpr rfl
  | cons a r =>
    have ha := (h a).mp List.mem_cons_self
    subst ha
    cases r with
    | nil => rfl
    | cons b r =>
      have hb := (h b).mp (List.mem_cons_of_mem _ List.mem_cons_self)
      have := (List.pairwise_cons.mp hs).1 b List.mem_cons_self
      omega
theorem top_one (f : Nat → Nat) (i : Nat) : tops f [i] = [i] := by
  unfold tops below
  simp
variable {ids : List Nat}
theorem open_mem {nm : Str} {q k : Nat} : k ∈ opens (rowsOf (ids.map (ct ns zs))) nm q ↔ ∃ id, ids[k]? = some id ∧ (ct ns zs id).n = nm ∧ CM.In (ct ns zs id).b q := by
  rw [mem_opens]
  constructor
  · rintro ⟨h1, h2, h3⟩
    unfold rowsOf at h1
    rw [List.length_map, List.length_map] at h1
    have e : ids[k]? = some ids[k] := List.getElem?_eq_getElem h1
    have er : (rowsOf (ids.map (ct ns zs)))[k]? = some ((ct ns zs ids[k]).n, (ct ns zs ids[k]).b) := rowsOf_at (by rw [List.getElem?_map, e]; rfl)
    refine ⟨ids[k], e, ?_, ?_⟩
    · unfold nameIs at h2
      rw [er] at h2
      exact of_decide_eq_true h2
    · rw [bitsAt_of er] at h3; exact h3
  · rintro ⟨id, e, h2, h3⟩
    have er : (rowsOf (ids.map (ct ns zs)))[k]? = some ((ct ns zs id).n, (ct ns zs id).b) := rowsOf_at (by rw [List.getElem?_map, e]; rfl)
    refine ⟨(List.getElem?_eq_some_iff.mp er).1, ?_, ?_⟩
    · unfold nameIs; rw [er]; exact decide_eq_true h2
    · rw [bitsAt_of er]; exact h3
theorem none_open {nm : Str} {q : Nat} (h : ∀ id ∈ ids, (ct ns zs id).n = nm → ¬ CM.In (ct ns zs id).b q) : opens (rowsOf (ids.map (ct ns zs))) nm q = [] := by
  rw [List.eq_nil_iff_forall_not_mem]
  intro k hk
  obtain ⟨id, e, h2, h3⟩ := open_mem.mp hk
  exact h id (List.mem_of_getElem? e) h2 h3
theorem tops_there {id q i : Nat} (hv : ∀ j ∈ ids, Vd j) (hnd : ids.Nodup) (v : Vd id) (h : Ask ns zs id q) (hi : ids[i]? = some id) : opens (rowsOf (ids.map (ct ns zs))) (ct ns zs id).n q = [i] := by
  refine only_one (opens_sorted _ _ _) fun k => ?_
  rw [open_mem]
  constructor
  · rintro ⟨id', e, h2, h3⟩
    have := in_one (hv id' (List.mem_of_getElem? e)) v h h3
    subst this
    obtain ⟨a1, b1⟩ := List.getElem?_eq_some_iff.mp e
    obtain ⟨a2, b2⟩ := List.getElem?_eq_some_iff.mp hi
    exact (List.getElem_inj hnd).mp (b1.trans b2.symm)
  · rintro rfl
    exact ⟨id, hi, rfl, ask_in v h⟩
theorem tops_not {id q : Nat} {nm : Str} (hv : ∀ j ∈ ids, Vd j) (v : Vd id) (h : Ask ns zs id q) (hn : id ∉ ids ∨ (ct ns zs id).n ≠ nm) : opens (rowsOf (ids.map (ct ns zs))) nm q = [] := by
  refine none_open fun j hj e hin => ?_
  have := in_one (hv j hj) v h hin
  subst this
  rcases hn with hn | hn
  · exact hn hj
  · exact hn e
theorem tops_zero {nm : Str} : opens (rowsOf (ids.map (ct ns zs))) nm 0 = [] := by
  refine none_open fun j hj e hin => ct_pos ns zs j ?_
  have h : (ct ns zs j).b &&& 0 = (ct ns zs j).b := hin
  rw [Nat.and_zero] at h
  exact h.symm
/-- a set's numbers -/
theorem ct_nums (ns : List Int) (zs : List Str) (id : Nat) : ∃ ys : List Int, BitsOf (ct ns zs id).b ys ∧ ys.length ≤ 2 ∧ ∀ y ∈ ys, (lo id : Int) ≤ y ∧ y < (hi id : Int) := by
  unfold ct lo hi
  by_cases hid : id < 18
  · rw [if_pos hid, if_pos hid, if_pos hid]
    have hn := num_lt (cellF ns (3 + (id : Int)))
    unfold U
    dsimp only
    split
    · refine ⟨[((1000 * id + (cellF ns (3 + (id : Int)) / 6 % 999).toNat : Nat) : Int), ((1000 * id + (cellF ns (3 + (id : Int)) / 6 % 999).toNat + 1 : Nat) : Int)], ⟨fun m => ?_, fun y hy => ?_⟩, Nat.le_refl _, fun y hy => ?_⟩
      · rw [tb_two, Bool.eq_iff_iff]
        simp only [Bool.or_eq_true, decide_eq_true_eq, List.mem_cons, List.not_mem_nil, or_false]
        omega
      · simp only [List.mem_cons, List.not_mem_nil, or_false] at hy
        rcases hy with rfl | rfl <;> omega
      · simp only [List.mem_cons, List.not_mem_nil, or_false] at hy
        rcases hy with rfl | rfl <;> omega
    · refine ⟨[((1000 * id + (cellF ns (3 + (id : Int)) / 6 % 999).toNat : Nat) : Int)], ⟨fun m => ?_, fun y hy => ?_⟩, by show 1 ≤ 2; decide, fun y hy => ?_⟩
      · rw [tb_one, Bool.eq_iff_iff]
        simp only [decide_eq_true_eq, List.mem_cons, List.not_mem_nil, or_false]
        omega
      · rw [List.mem_singleton.mp hy]; omega
      · rw [List.mem_singleton.mp hy]; omega
  · rw [if_neg hid, if_neg hid, if_neg hid]
    refine ⟨[((18000 + (id - 100) : Nat) : Int)], ⟨fun m => ?_, fun y hy => ?_⟩, by show 1 ≤ 2; decide, fun y hy => ?_⟩
    · show (2 ^ (18000 + (id - 100))).testBit m = _
      rw [tb_one, Bool.eq_iff_iff]
      simp only [decide_eq_true_eq, List.mem_cons, List.not_mem_nil, or_false]
      omega
    · rw [List.mem_singleton.mp hy]; omega
    · rw [List.mem_singleton.mp hy]; omega
theorem ask_nums {id q : Nat} (v : Vd id) (h : Ask ns zs id q) : ∃ ys : List Int, BitsOf q ys ∧ ys.length ≤ 1000 := by
  obtain ⟨ys, h1, h2, h3⟩ := ct_nums ns zs id
  rcases h with rfl | rfl
  · exact ⟨ys, h1, by omega⟩
  · refine ⟨ys ++ [((19000 : Nat) : Int)], ⟨fun m => ?_, fun y hy => ?_⟩, by rw [List.length_append, List.length_singleton]; omega⟩
    · rw [Bits.tb_step _ _ (ct_lt v), h1.1 m, Bool.eq_iff_iff]
      simp only [Bool.or_eq_true, decide_eq_true_eq, List.mem_append, List.mem_singleton]
      constructor
      · rintro (h | h)
        · exact .inl h
        · exact .inr (by omega)
      · rintro (h | h)
        · exact .inl h
        · exact .inr (by omega)
    · rcases List.mem_append.mp hy with q | q
      · exact h1.2 y q
      · rw [List.mem_singleton.mp q]; omega
end
end K25

set_option Elab.async false
set_option linter.all false
set_option maxRecDepth 100000
set_option maxHeartbeats 4000000
set_option exponentiation.threshold 30000
/-! k25: a claim as it lies on the heap; the claim of a number. Own work. -/
namespace K25
open PySem L2 Builtin.Str CM
abbrev sClaim : Stmt := top 14
abbrev sAhead : Stmt := top 15
abbrev sKept : Stmt := top 16
abbrev sFound : Stmt := top 17
abbrev sLaw : Stmt := top 18
structure TxB (mg : Str → Option Value) : Prop where
  tuple : mg "tuple" = none
  all : mg "all" = none
theorem bt_tuple' : bootBuiltins "tuple" = some (.type "tuple") := by decide +kernel
theorem shl_one (k : Nat) : (1 : Int) * 2 ^ ((k : Nat) : Int).toNat = ((2 ^ k : Nat) : Int) := by
  rw [Int.one_mul, Int.toNat_natCast]; norm_cast
def RowV (H : Hp) (v : V) (c : Ct) : Prop := ∃ t m, v = .ref t ∧ H t = some (.tup [.str c.n, .int c.a, .int (c.b : Int), .ref m]) ∧ H m = some (.tup [.str c.k, .int c.z])
theorem RowV.same {H H' : Hp} {v : V} {c : Ct} (h : RowV H v c) (s : Same H H') : RowV H' v c := by
  obtain ⟨t, m, e, h1, h2⟩ := h
  exact ⟨t, m, e, s _ _ h1, s _ _ h2⟩
theorem RowV.one {H : Hp} {v : V} {c c' : Ct} (h : RowV H v c) (h' : RowV H v c') : c = c' := by
  obtain ⟨t, m, rfl, h1, h2⟩ := h
  obtain ⟨t', m', e, h3, h4⟩ := h'
  injection e with e
  subst e
  rw [h1] at h3
  injection h3 with h3
  injection h3 with h3
  simp only [List.cons.injEq, V.str.injEq, V.int.injEq, V.ref.injEq, and_true] at h3
  obtain ⟨e1, e2, e3, rfl⟩ := h3
  rw [h2] at h4
  injection h4 with h4
  injection h4 with h4
  simp only [List.cons.injEq, V.str.injEq, V.int.injEq, and_true] at h4
  obtain ⟨e4, e5⟩ := h4
  have e3 : c.b = c'.b := by omega
  cases c; cases c'
  simp_all
theorem eqV_str {a b : Str} : eqV (.str a) (.str b) = true ↔ a = b := by show (a == b) = true ↔ _; simp
theorem eqV_int {a b : Int} : eqV (.int a) (.int b) = true ↔ a = b := by show (a == b) = true ↔ _; simp
theorem eqB_rows {K : PySem.W.Frag} {H : Hp} {v v' : V} {c c' : Ct} {b : Bool} (h : RowV H v c) (h' : RowV H v' c') (hb : b = true ↔ c = c') : EqB K H 2 v v' b := by
  by_cases hv : v = v'
  · subst hv
    have := h.one h'
    obtain ⟨t, m, rfl, h1, h2⟩ := h
    exact .inl (.inr ⟨t, rfl, rfl, hb.mpr this⟩)
  obtain ⟨t, m, rfl, h1, h2⟩ := h
  obtain ⟨t', m', rfl, h3, h4⟩ := h'
  have ht : t ≠ t' := fun e => hv (by rw [e])
  have key : ∃ bm : Bool, EqB K H 1 (.ref m) (.ref m') bm ∧ (bm = true ↔ c.k = c'.k ∧ c.z = c'.z) := by
    by_cases hm : m = m'
    · subst hm
      refine ⟨true, .inl (.inr ⟨m, rfl, rfl, rfl⟩), ?_⟩
      rw [h2] at h4
      injection h4 with h4
      injection h4 with h4
      simp only [List.cons.injEq, V.str.injEq, V.int.injEq, and_true] at h4
      exact ⟨fun _ => h4, fun _ => rfl⟩
    · refine ⟨[eqV (.str c.k) (.str c'.k), eqV (.int c.z) (.int c'.z)].all id, .inr ⟨m, m', _, _, [eqV (.str c.k) (.str c'.k), eqV (.int c.z) (.int c'.z)], rfl, rfl, hm, SqT.of h2, SqT.of h4, rfl, rfl, fun j x y e hx hy he => ?_, rfl⟩, ?_⟩
      · match j, hx, hy, he with
        | 0, hx, hy, he =>
          simp at hx hy he; subst hx hy he
          exact .inl ⟨rfl, rfl, rfl⟩
        | 1, hx, hy, he =>
          simp at hx hy he; subst hx hy he
          exact .inl ⟨rfl, rfl, rfl⟩
        | j + 2, hx, hy, he => simp at hx
      · rw [← eqV_str, ← eqV_int]
        simp only [List.all_cons, List.all_nil, id, Bool.and_true, Bool.and_eq_true]
  obtain ⟨bm, hbm, hbi⟩ := key
  refine .inr ⟨t, t', _, _, [eqV (.str c.n) (.str c'.n), eqV (.int c.a) (.int c'.a), eqV (.int (c.b : Int)) (.int (c'.b : Int)), bm], rfl, rfl, ht, SqT.of h1, SqT.of h3, rfl, rfl, fun j x y e hx hy he => ?_, ?_⟩
  · match j, hx, hy, he with
    | 0, hx, hy, he =>
      simp at hx hy he; subst hx hy he
      exact .inl (.inl ⟨rfl, rfl, rfl⟩)
    | 1, hx, hy, he =>
      simp at hx hy he; subst hx hy he
      exact .inl (.inl ⟨rfl, rfl, rfl⟩)
    | 2, hx, hy, he =>
      simp at hx hy he; subst hx hy he
      exact .inl (.inl ⟨rfl, rfl, rfl⟩)
    | 3, hx, hy, he =>
      simp at hx hy he; subst hx hy he
      exact hbm
    | j + 4, hx, hy, he => simp at hx
  · rw [Bool.eq_iff_iff, hb]
    simp only [List.all_cons, List.all_nil, id, Bool.and_true, Bool.and_eq_true]
    rw [eqV_str, eqV_int, eqV_int, hbi]
    constructor
    · intro e; subst e; exact ⟨rfl, rfl, rfl, rfl, rfl⟩
    · rintro ⟨e1, e2, e3, e4, e5⟩
      have e3 : c.b = c'.b := by omega
      cases c; cases c'
      simp_all
def spClaim (K : PySem.W.Frag) : Sp := fun vs H Q _ => ∃ (a nl : Addr) (k : Nat) (ns : List Int) (zs : List Str), vs = [.ref a, .int (k : Int), .ref nl] ∧ SqL K H a (ns.map V.int) ∧ ns.length ≤ 63 ∧ k < 18 ∧ H nl = some (.lst (zs.map V.str)) ∧ zs.length = 4 ∧
  ∀ H' v, Same H H' → RowV H' v (U ns zs k) → Q v H'
section
variable {P : Program} {w : World} {K : PySem.W.Frag} {mg : Str → Option Value} {base : Heap} {C : Addr}
theorem zs_get {zs : List Str} {i : Int} (h0 : 0 ≤ i) (h1 : i < zs.length) : atI (zs.map V.str) i = some (.str (zs.getD i.toNat "")) := by
  have hk : i.toNat < zs.length := by omega
  unfold atI ixN
  rw [if_pos h0, if_pos (by rw [List.length_map]; exact h1)]
  show (zs.map V.str)[i.toNat]? = _
  rw [List.getElem?_map, List.getElem?_eq_getElem hk]
  simp [List.getD, List.getElem?_eq_getElem hk]
abbrev NClaim : List Str := ["_law_script", "_law_k", "_law_names_here", "_law_cell_here", "_law_number", "_law_bits", "_law_kind"]
theorem scClaim : FnScope NClaim ["_law_script", "_law_k", "_law_names_here"] (defScope sClaim) := ⟨rfl, rfl, rfl, by decide +kernel, rfl, by decide +kernel, by decide +kernel⟩
theorem ok_claim {f fC : Addr} {fd fdC : FuncData} (F : Fun K "_law_claim" "_law_claim" sClaim f fd) (T : Txt mg) (FC : Fun K "_law_cell" "_law_cell" sCell fC fdC) (bC : Binds K fdC ["_law_script", "_law_k"] []) (mC : mg "_law_cell" = some (.ref fC)) :
    FnOk P w K mg base CX0 2 f fd ["_law_script", "_law_k", "_law_names_here"] (spClaim K) := by
  have GC : FnOk P w K mg base CX0 1 fC fdC ["_law_script", "_law_k"] (spCell K) := ok_cell FC T
  refine F.ok scClaim (fun vs H Q E h => ?_) (fun cdv A outer s H vs Q E hr h => ?_)
  · obtain ⟨a, nl, k, ns, zs, rfl, _⟩ := h; rfl
  · obtain ⟨a, nl, k, ns, zs, rfl, hS, hl, hk, hn, hz, q⟩ := h
    have nd := scClaim.nd
    have REST2 : ∃ t : TS, PSs (cxOf CX0 P w K mg base NClaim "_law_claim" (defScope sClaim) f cdv A outer s H E).nox ((defBody sClaim).drop 6) t ∧
        ∀ (n0 : Option V), t { nx := fun _ H' => Q .non H', rt := Q } [some (.ref a), some (.int (k : Int)), some (.ref nl), some (.int (cellF ns (3 + (k : Int)))), n0, some (.int ((U ns zs k).b : Int)), some (.str (U ns zs k).k)] H := by
      refine ⟨_, (pss_one (ps_ret (pe_tup (pa_cons (pe_ix ix_list (pv 2) (pe_op op_mod (pv 3) pe_int) (fun _ _ => rfl)) (pa_cons (pe_op op_mod (pe_op op_fdiv (pv 3) pe_int) (pe_op op_add (pe_op op_pow pe_int pe_int) pe_int)) (pa_cons (pv 5) (pa_cons (pe_tup (pa_cons (pv 6) (pa_cons (pe_op op_mod (pe_op op_fdiv (pv 3) pe_int) (pe_op op_add (pe_op op_pow pe_int pe_int) pe_int)) pa_nil))) pa_nil))))))), ?_⟩
      intro n0
      have c0 := Int.emod_nonneg (cellF ns (3 + (k : Int))) (show (3 : Int) ≠ 0 by decide)
      have c1 := Int.emod_lt_of_pos (cellF ns (3 + (k : Int))) (show (0 : Int) < 3 by decide)
      refine ⟨_, rfl, _, rfl, _, _, rfl, rfl, (by show (0 : Int) < _; decide), nl, _, _, _, rfl, rfl, SqL.of hn, zs_get c0 (by rw [hz]; omega), _, rfl, _, _, rfl, rfl, ⟨by decide, by decide⟩, _, _, rfl, rfl, ⟨by decide, by decide, by decide⟩, _, _, rfl, rfl, _, _, rfl, rfl, (by show (0 : Int) < _; decide), _, rfl, _, rfl, _, rfl, _, _, rfl, rfl, ⟨by decide, by decide⟩, _, _, rfl, rfl, ⟨by decide, by decide, by decide⟩, _, _, rfl, rfl, _, _, rfl, rfl, (by show (0 : Int) < _; decide), by show 2 ≤ sizeLine; rw [sizeLine_eq]; decide, fun m hm => ?_⟩
      have s1 := same_upd (o := .tup [.str (U ns zs k).k, .int (cellF ns (3 + (k : Int)) / 5 % (10 ^ 15 + 1))]) hm
      refine ⟨by show 4 ≤ sizeLine; rw [sizeLine_eq]; decide, fun t ht => ?_⟩
      have s2 := same_upd (o := .tup [.str (U ns zs k).n, .int (cellF ns (3 + (k : Int)) / 2 % (10 ^ 15 + 1)), .int ((U ns zs k).b : Int), .ref m]) ht
      exact q _ _ (s1.trans s2) ⟨t, m, rfl, upd_same, s2 _ _ upd_same⟩
    obtain ⟨tR2, hR2, hrest2⟩ := REST2
    have REST : ∃ t : TS, PSs (cxOf CX0 P w K mg base NClaim "_law_claim" (defScope sClaim) f cdv A outer s H E).nox ((defBody sClaim).drop 4) t ∧
        ∀ (n0 : Option V), t { nx := fun _ H' => Q .non H', rt := Q } [some (.ref a), some (.int (k : Int)), some (.ref nl), some (.int (cellF ns (3 + (k : Int)))), n0, some (.int ((U ns zs k).b : Int)), none] H := by
      refine ⟨_, (pss_cons (ps_set (i := 6) nd rfl (Or.inl rfl) pe_str)
        (pss_cons (ps_if (pt_cmpR op_eq (pe_op op_mod (pe_op op_fdiv (pv 3) pe_int) pe_int) pe_int (nomark _))
        (pss_one (ps_set (i := 6) nd rfl (Or.inl rfl) pe_str))
        pss_nil) hR2)), ?_⟩
      intro n0
      refine ⟨_, rfl, _, _, rfl, rfl, ⟨by decide, by decide⟩, _, _, rfl, rfl, (by show (0 : Int) < _; decide), rfl, _, rfl, ite2 (fun hc => ?_) (fun hc => ?_)⟩
      · have hc' : cellF ns (3 + (k : Int)) / 7 % 2 = 1 := by have := of_decide_eq_true hc; injection this
        have e : (U ns zs k).k = "macro" := if_pos hc'
        have := hrest2 n0
        rw [e] at this
        exact this
      · have hc' : ¬ cellF ns (3 + (k : Int)) / 7 % 2 = 1 := fun z => hc (decide_eq_true (by show V.int (cellF ns (3 + (k : Int)) / 7 % 2) = V.int 1; rw [z]))
        have e : (U ns zs k).k = "seen" := if_neg hc'
        have := hrest2 n0
        rw [e] at this
        exact this
    obtain ⟨tR, hR, hrest⟩ := REST
    refine ⟨_, pss_cons (ps_set (i := 3) nd rfl (Or.inl rfl) (pe_call GC hr (by rfl) mC FC.kp bC .nil pass0 (pa_cons (pv 0) (pa_cons (pe_op op_add pe_int (pv 1)) pa_nil))))
      (pss_cons (ps_set (i := 4) nd rfl (Or.inl rfl) (pe_op op_add (pe_op op_mul (pv 1) pe_int) (pe_op op_mod (pe_op op_fdiv (pv 3) pe_int) pe_int)))
      (pss_cons (ps_set (i := 5) nd rfl (Or.inl rfl) (pe_op op_shl pe_int (pv 4)))
      (pss_cons (ps_if (pt_cmpR op_eq (pe_op op_mod (pe_op op_fdiv (pv 3) pe_int) pe_int) pe_int (nomark _))
      (pss_one (ps_set (i := 5) nd rfl (Or.inl rfl) (pe_op op_add (pv 5) (pe_op op_shl pe_int (pe_op op_add (pv 4) pe_int)))))
      pss_nil) hR))), ?_⟩
    refine ⟨_, rfl, _, rfl, _, _, rfl, rfl, a, 3 + (k : Int), ns, rfl, hS, by omega, by omega, hl, ?_⟩
    have g0 := Int.emod_nonneg (cellF ns (3 + (k : Int)) / 6) (show (999 : Int) ≠ 0 by decide)
    have g1 := Int.emod_lt_of_pos (cellF ns (3 + (k : Int)) / 6) (show (0 : Int) < 999 by decide)
    have en : (k : Int) * 1000 + cellF ns (3 + (k : Int)) / 6 % 999 = ((1000 * k + (cellF ns (3 + (k : Int)) / 6 % 999).toNat : Nat) : Int) := by omega
    have en1 : (k : Int) * 1000 + cellF ns (3 + (k : Int)) / 6 % 999 + 1 = ((1000 * k + (cellF ns (3 + (k : Int)) / 6 % 999).toNat + 1 : Nat) : Int) := by omega
    refine ⟨_, rfl, _, _, rfl, rfl, .inl ⟨by omega, by omega⟩, _, rfl, _, _, rfl, rfl, ⟨by decide, by decide⟩, _, _, rfl, rfl, (by show (0 : Int) < _; decide), _, _, rfl, rfl, ?_⟩
    refine ⟨_, rfl, _, _, rfl, rfl, ⟨by show (0 : Int) ≤ (k : Int) * 1000 + cellF ns (3 + (k : Int)) / 6 % 999; omega, by show (k : Int) * 1000 + cellF ns (3 + (k : Int)) / 6 % 999 ≤ (1000000 : Int); omega, by decide⟩, ?_⟩
    refine ⟨_, rfl, _, _, rfl, rfl, ⟨by decide, by decide⟩, _, _, rfl, rfl, (by show (0 : Int) < _; decide), rfl, _, rfl, ite2 (fun hc => ?_) (fun hc => ?_)⟩
    · have hc' : cellF ns (3 + (k : Int)) / 3 % 2 = 1 := by have := of_decide_eq_true hc; injection this
      refine ⟨_, rfl, _, rfl, _, _, rfl, rfl, _, _, rfl, rfl, ⟨by show (0 : Int) ≤ (k : Int) * 1000 + cellF ns (3 + (k : Int)) / 6 % 999 + 1; omega, by show (k : Int) * 1000 + cellF ns (3 + (k : Int)) / 6 % 999 + 1 ≤ (1000000 : Int); omega, by decide⟩, _, _, rfl, rfl, ?_⟩
      have e : (U ns zs k).b = 2 ^ (1000 * k + (cellF ns (3 + (k : Int)) / 6 % 999).toNat) + 2 ^ (1000 * k + (cellF ns (3 + (k : Int)) / 6 % 999).toNat + 1) := if_pos hc'
      have h := hrest (some (.int ((k : Int) * 1000 + cellF ns (3 + (k : Int)) / 6 % 999)))
      rw [e, Int.natCast_add, ← shl_one, ← shl_one, ← en, ← en1] at h
      exact h
    · have hc' : ¬ cellF ns (3 + (k : Int)) / 3 % 2 = 1 := fun z => hc (decide_eq_true (by show V.int (cellF ns (3 + (k : Int)) / 3 % 2) = V.int 1; rw [z]))
      have e : (U ns zs k).b = 2 ^ (1000 * k + (cellF ns (3 + (k : Int)) / 6 % 999).toNat) := if_neg hc'
      have h := hrest (some (.int ((k : Int) * 1000 + cellF ns (3 + (k : Int)) / 6 % 999)))
      rw [e, ← shl_one, ← en] at h
      exact h
end
end K25

set_option Elab.async false
set_option linter.all false
set_option maxRecDepth 100000
set_option maxHeartbeats 4000000
set_option exponentiation.threshold 30000
/-! k25: claims and what was kept of them; whether all is kept, whether a claim is found. Own work. -/
namespace K25
open PySem L2 Builtin.Str CM
/-- claims and the list of what was put -/
structure Sd (C : Addr) (H : Hp) (x kl : Addr) (r : CR) (cs : List Ct) (rv kv : List V) : Prop where
  cl : CL C r H x (rowsOf cs) rv
  hk : H kl = some (.lst kv)
  klen : kv.length = cs.length
  pr : ∀ (k : Nat) c, cs[k]? = some c → ∃ t t' m, rv[k]? = some (.ref t) ∧ kv[k]? = some (.ref t') ∧ H t = some (.tup [.str c.n, .int c.a, .int (c.b : Int), .ref m]) ∧ H t' = some (.tup [.str c.n, .int c.a, .int (c.b : Int), .ref m]) ∧ H m = some (.tup [.str c.k, .int c.z])
  noK : ¬ Own r kl
section
variable {C : Addr} {H H' : Hp} {x kl : Addr} {r r' : CR} {cs : List Ct} {rv kv : List V}
theorem rowsOf_len (cs : List Ct) : (rowsOf cs).length = cs.length := by unfold rowsOf; rw [List.length_map]
theorem Sd.off (h : Sd C H x kl r cs rv kv) (s : ∀ e o, H e = some o → (Own r e ∨ e = x ∨ e = kl ∨ ∃ xs, o = .tup xs) → H' e = some o) : Sd C H' x kl r cs rv kv where
  cl := h.cl.off fun e o q z => s e o q (z.imp id (Or.imp id .inr))
  hk := s _ _ h.hk (.inr (.inr (.inl rfl)))
  klen := h.klen
  pr := fun k c e => by
    obtain ⟨t, t', m, h1, h2, h3, h4, h5⟩ := h.pr k c e
    exact ⟨t, t', m, h1, h2, s _ _ h3 (.inr (.inr (.inr ⟨_, rfl⟩))), s _ _ h4 (.inr (.inr (.inr ⟨_, rfl⟩))), s _ _ h5 (.inr (.inr (.inr ⟨_, rfl⟩)))⟩
  noK := h.noK
theorem Sd.same (h : Sd C H x kl r cs rv kv) (s : Same H H') : Sd C H' x kl r cs rv kv := h.off fun e o q _ => s e o q
theorem Sd.row (h : Sd C H x kl r cs rv kv) {k : Nat} {c : Ct} (e : cs[k]? = some c) : ∃ v, kv[k]? = some v ∧ RowV H v c := by
  obtain ⟨t, t', m, h1, h2, h3, h4, h5⟩ := h.pr k c e
  exact ⟨_, h2, t', m, rfl, h4, h5⟩
theorem Sd.rvlen (h : Sd C H x kl r cs rv kv) : rv.length = cs.length := by rw [h.cl.len, rowsOf_len]
/-- behind a row put into both -/
theorem Sd.put (h : Sd C H x kl r cs rv kv) {c : Ct} {t t' m : Addr} (tk : ∀ e xs, H e = some (.tup xs) → H' e = some (.tup xs)) (hc : CL C r' H' x (rowsOf cs ++ [(c.n, c.b)]) (rv ++ [.ref t]))
    (ht : H' t = some (.tup [.str c.n, .int c.a, .int (c.b : Int), .ref m])) (ht' : H' t' = some (.tup [.str c.n, .int c.a, .int (c.b : Int), .ref m])) (hm : H' m = some (.tup [.str c.k, .int c.z])) (hk : H' kl = some (.lst (kv ++ [.ref t']))) (no : ¬ Own r' kl) :
    Sd C H' x kl r' (cs ++ [c]) (rv ++ [.ref t]) (kv ++ [.ref t']) where
  cl := by unfold rowsOf at hc ⊢; rw [List.map_append]; exact hc
  hk := hk
  klen := by rw [List.length_append, List.length_append, h.klen]; rfl
  pr := fun k c' e => by
    by_cases hlt : k < cs.length
    · rw [List.getElem?_append_left hlt] at e
      obtain ⟨u, u', n, h1, h2, h3, h4, h5⟩ := h.pr k c' e
      exact ⟨u, u', n, by rw [List.getElem?_append_left (by rw [h.rvlen]; exact hlt)]; exact h1, by rw [List.getElem?_append_left (by rw [h.klen]; exact hlt)]; exact h2, tk _ _ h3, tk _ _ h4, tk _ _ h5⟩
    · have hk2 : k = cs.length := by
        have := (List.getElem?_eq_some_iff.mp e).1
        rw [List.length_append, List.length_singleton] at this
        omega
      subst hk2
      rw [List.getElem?_append_right (Nat.le_refl _), Nat.sub_self] at e
      have e' : c = c' := by injection e
      subst e'
      exact ⟨t, t', m, by rw [← h.rvlen, List.getElem?_append_right (Nat.le_refl _), Nat.sub_self]; rfl, by rw [← h.klen, List.getElem?_append_right (Nat.le_refl _), Nat.sub_self]; rfl, ht, ht', hm⟩
  noK := no
theorem Sd.alike {K : PySem.W.Frag} (h : Sd C H x kl r cs rv kv) : Paired (Alk K H 1) rv kv := by
  have hl : rv.length = kv.length := by rw [h.rvlen, h.klen]
  have key : ∀ (xs ys : List V), xs.length = ys.length → (∀ (k : Nat) v, xs[k]? = some v → ∃ w, ys[k]? = some w ∧ Alk K H 1 v w) → Paired (Alk K H 1) xs ys := fun xs => by
    induction xs with
    | nil => intro ys hl _; rw [List.length_eq_zero_iff.mp hl.symm]; exact .nil
    | cons u r ih =>
      intro ys hl hk
      cases ys with
      | nil => cases hl
      | cons z ys =>
        obtain ⟨w, hw, ha⟩ := hk 0 u rfl
        have : z = w := Option.some.inj hw
        subst this
        exact .cons ha (ih ys (by simpa using hl) fun k v e => by
          obtain ⟨w, hw, ha⟩ := hk (k + 1) v (by simpa using e)
          exact ⟨w, by simpa using hw, ha⟩)
  refine key rv kv hl fun k v e => ?_
  have hk : k < cs.length := by rw [← h.rvlen]; exact (List.getElem?_eq_some_iff.mp e).1
  obtain ⟨t, t', m, h1, h2, h3, h4, h5⟩ := h.pr k cs[k] (List.getElem?_eq_getElem hk)
  rw [h1] at e
  cases e
  exact ⟨.ref t', h2, .inr ⟨t, t', _, _, rfl, rfl, .inl ⟨SqT.of h3, SqT.of h4⟩, .cons ⟨rfl, .inl rfl⟩ (.cons ⟨rfl, .inl rfl⟩ (.cons ⟨rfl, .inl rfl⟩ (.cons ⟨rfl, .inr ⟨_, rfl⟩⟩ .nil)))⟩⟩
end
def spKept (C : Addr) : Sp := fun vs H Q _ => ∃ (x kl : Addr) (r : CR) (cs : List Ct) (rv kv : List V), vs = [.ref x, .ref kl] ∧ Sd C H x kl r cs rv kv ∧ Q (.bl true) H
section
variable {P : Program} {w : World} {K : PySem.W.Frag} {mg : Str → Option Value} {base : Heap} {C : Addr}
theorem hud_of {A : Around} {k d : Nat} (hr : Room k A) (h : d ≤ 60) : A.units + 1 + d < cLine := by have := hr.un; omega
theorem scKept : FnScope ["_law_claims", "_law_rows", "_law_row"] ["_law_claims", "_law_rows"] (defScope sKept) := ⟨rfl, rfl, rfl, by decide +kernel, rfl, by decide +kernel, by decide +kernel⟩
theorem ok_kept {f fH : Addr} {fd fdH : FuncData} (F : Fun K "_law_kept" "_law_kept" sKept f fd) (T : Txt mg) (TC : ClT K mg C) (TB : TxB mg) (FH : Fun K "_law_whole" "_law_whole" sWhole fH fdH) (bH : Binds K fdH ["_law_found_here"] []) (mH : mg "_law_whole" = some (.ref fH)) :
    FnOk P w K mg base CX0 2 f fd ["_law_claims", "_law_rows"] (spKept C) := by
  have GH : FnOk P w K mg base CX0 1 fH fdH ["_law_found_here"] spWhole := ok_whole FH T
  refine F.ok scKept (fun vs H Q E h => ?_) (fun cdv A outer s H vs Q E hr h => ?_)
  · obtain ⟨x, kl, r, cs, rv, kv, rfl, _⟩ := h; rfl
  · obtain ⟨x, kl, r, cs, rv, kv, rfl, h, q⟩ := h
    have nd := scKept.nd
    have hu2 := hud_of hr (d := 1) (by decide)
    refine ⟨_, pss_cons (ps_if (PW.pt (pw_or (pt_not (pt_val (pe_callB call_isI (by rfl) T.isi bt_isinstance (pa_cons (pe_fld (pv 0) rfl : PE _ _ (tFld K (tVar 0) ("rows" : Str))) (pa_cons (pe_bltn (v := .ty "list") (by rfl) TC.list bt_list rfl) pa_nil))))) (pw_or1 (pt_cmpR (op_neA hu2) (pe_fld (pv 0) rfl : PE _ _ (tFld K (tVar 0) ("rows" : Str))) (pv 1) (nomark _)))))
      (pss_one (ps_ret pe_bl))
      pss_nil)
      (pss_cons (ps_for PassesOwn.never rfl (pi_list (pe_fld (pv 0) rfl : PE _ _ (tFld K (tVar 0) ("rows" : Str)))) (pg_name (i := 2) nd rfl (Or.inl rfl))
      (pss_one (ps_if (PW.pt (pw_or (pt_not (pt_val (pe_callB call_isI (by rfl) T.isi bt_isinstance (pa_cons (pv 2) (pa_cons (pe_bltn (v := .ty "tuple") (by rfl) TB.tuple bt_tuple' rfl) pa_nil))))) (pw_or (pt_not (pt_val (pe_call GH hr (by rfl) mH FH.kp bH .nil pass0 (pa_cons (pe_ix ix_tup (pv 2) pe_int (fun _ _ => rfl)) pa_nil)))) (pw_or1 (pt_not (pt_val (pe_call GH hr (by rfl) mH FH.kp bH .nil pass0 (pa_cons (pe_ix ix_tup (pv 2) pe_int (fun _ _ => rfl)) pa_nil))))))))
        (pss_one (ps_ret pe_bl))
        pss_nil)))
      (pss_one (ps_ret pe_bl))), ?_⟩
    refine ⟨_, rfl, x, C, r.dx, _, .ref r.lr, rfl, h.cl.ins, TC.cl, TC.nR, rfl, .ref r.lr, .ty "list", _, _, true, rfl, rfl, TyOf.lst h.cl.hlr, rfl, ⟨_, rfl, iteF ?_⟩⟩
    refine ⟨_, rfl, x, C, r.dx, _, .ref r.lr, rfl, h.cl.ins, TC.cl, TC.nR, rfl, _, rfl, r.lr, kl, _, _, rfl, rfl, .inr ⟨SqL.of h.cl.hlr, SqL.of h.hk⟩, h.alike, false, rfl, iteF ?_⟩
    refine ⟨_, rfl, x, C, r.dx, _, .ref r.lr, rfl, h.cl.ins, TC.cl, TC.nR, rfl, r.lr, rfl, ⟨_, SqL.of h.cl.hlr⟩, for_list (xs := rv) (fun i σ H' => (∃ v, σ = [some (.ref x), some (.ref kl), v]) ∧ H' = H)
      ⟨⟨_, rfl⟩, rfl⟩ (fun i σ H' _ hP => by rw [hP.2]; exact SqL.of h.cl.hlr) ?_ ?_⟩
    · rintro i v σ H' hi ⟨⟨v', rfl⟩, rfl⟩
      have hk : i < cs.length := by rw [← h.rvlen]; exact (List.getElem?_eq_some_iff.mp hi).1
      obtain ⟨t, t', m, h1, h2, h3, h4, h5⟩ := h.pr i cs[i] (List.getElem?_eq_getElem hk)
      rw [h1] at hi
      cases hi
      refine ⟨_, rfl, .ref t, .ty "tuple", _, _, true, rfl, rfl, TyOf.tup h3, rfl, ⟨_, rfl, iteF ?_⟩⟩
      refine ⟨_, rfl, t, _, _, _, rfl, rfl, SqT.of h3, rfl, _, rfl, ⟨_, rfl, iteF ?_⟩⟩
      exact ⟨_, rfl, t, _, _, _, rfl, rfl, SqT.of h3, rfl, _, rfl, ⟨_, rfl, iteF ⟨⟨_, rfl⟩, rfl⟩⟩⟩
    · rintro σ H' ⟨⟨v', rfl⟩, rfl⟩
      exact q
end
end K25

set_option Elab.async false
set_option linter.all false
set_option maxRecDepth 100000
set_option maxHeartbeats 4000000
set_option exponentiation.threshold 30000
/-! k25: a claim is found where it was put, and nowhere else. Own work. -/
namespace K25
open PySem L2 Builtin.Str CM
theorem hits {K : PySem.W.Frag} {C : Addr} {H : Hp} {x kl : Addr} {r : CR} {cs : List Ct} {rv kv : List V} {v : V} {c : Ct} (h : Sd C H x kl r cs rv kv) (hr : RowV H v c) :
    ∃ f : Addr → Bool, (∀ z ∈ kv, ∃ t, z = .ref t ∧ EqB K H 2 z v (f t)) ∧ ∀ (k : Nat) c', cs[k]? = some c' → ∃ z, kv[k]? = some z ∧ (hitV f z = true ↔ c' = c) := by
  have key : ∀ t c', RowV H (.ref t) c' → (@decide (RowV H (.ref t) c) (Classical.propDecidable _) = true ↔ c' = c) := fun t c' h' =>
    ⟨fun h => h'.one (@of_decide_eq_true _ (Classical.propDecidable _) h), fun e => @decide_eq_true _ (Classical.propDecidable _) (by rw [← e]; exact h')⟩
  refine ⟨fun t => @decide (RowV H (.ref t) c) (Classical.propDecidable _), fun z hz => ?_, fun k c' e => ?_⟩
  · obtain ⟨k, hk, e⟩ := List.getElem_of_mem hz
    have hk2 : k < cs.length := by rw [← h.klen]; exact hk
    obtain ⟨u, hu, hR⟩ := h.row (List.getElem?_eq_getElem hk2)
    rw [List.getElem?_eq_getElem hk, e] at hu
    cases hu
    obtain ⟨t, m, rfl, q⟩ := id hR
    exact ⟨t, rfl, eqB_rows hR hr (key t _ hR)⟩
  · obtain ⟨u, hu, hR⟩ := h.row e
    obtain ⟨t, m, rfl, q⟩ := id hR
    exact ⟨_, hu, key t _ hR⟩
theorem other {zs : List Str} {nm : Str} (h : ∀ z0 z1, zs[0]? = some z0 → zs[1]? = some z1 → z0 ≠ z1) (hl : zs.length = 4) :
    ∃ o L, ((zs.map V.str).filter (fun v => !decide (v = .str nm))).map (fun v => v) = .str o :: L ∧ o ≠ nm := by
  rw [List.map_id']
  obtain ⟨z, hz, hn⟩ : ∃ z ∈ zs, z ≠ nm := by
    have h0 : zs[0]? = some zs[0] := List.getElem?_eq_getElem (by omega)
    have h1 : zs[1]? = some zs[1] := List.getElem?_eq_getElem (by omega)
    by_cases e : zs[0] = nm
    · exact ⟨zs[1], List.getElem_mem _, fun e1 => h _ _ h0 h1 (e.trans e1.symm)⟩
    · exact ⟨zs[0], List.getElem_mem _, e⟩
  have hm : V.str z ∈ (zs.map V.str).filter (fun v => !decide (v = .str nm)) := List.mem_filter.mpr ⟨List.mem_map.mpr ⟨z, hz, rfl⟩, by simpa using hn⟩
  cases e : (zs.map V.str).filter (fun v => !decide (v = .str nm)) with
  | nil => rw [e] at hm; cases hm
  | cons a L =>
    have ha : a ∈ (zs.map V.str).filter (fun v => !decide (v = .str nm)) := by rw [e]; exact List.mem_cons_self
    obtain ⟨h1, h2⟩ := List.mem_filter.mp ha
    obtain ⟨o, _, rfl⟩ := List.mem_map.mp h1
    exact ⟨o, L, rfl, by simpa using h2⟩
def Fnd (C : Addr) (H : Hp) (x kl nl : Addr) (v : V) : Prop := ∃ (r : CR) (ids : List Nat) (rv kv : List V) (ns : List Int) (zs : List Str) (id : Nat), Sd C H x kl r (ids.map (ct ns zs)) rv kv ∧ RowV H v (ct ns zs id) ∧
  H nl = some (.lst (zs.map V.str)) ∧ zs.length = 4 ∧ (∀ z0 z1, zs[0]? = some z0 → zs[1]? = some z1 → z0 ≠ z1) ∧ (∀ j ∈ ids, Vd j) ∧ ids.Nodup ∧ Vd id ∧ ids.length ≤ 300
def spFound (C : Addr) : Sp := fun vs H Q _ => ∃ (x kl nl : Addr) (v : V), vs = [.ref x, .ref kl, v, .ref nl] ∧ Fnd C H x kl nl v ∧ ∀ H', Same H H' → Q (.bl true) H'
section
variable {P : Program} {w : World} {K : PySem.W.Frag} {mg : Str → Option Value} {base : Heap} {C : Addr}
theorem hud5 {A : Around} {k : Nat} (hr : Room k A) : A.units + 3 + 2 < cLine := by have := hr.un; omega
abbrev NFound : List Str := ["_law_claims", "_law_rows", "_law_row", "_law_names_here", "_law_due", "_law_other", "_law_bits", "_law_found_here"]
theorem scFound : FnScope NFound ["_law_claims", "_law_rows", "_law_row", "_law_names_here"] (defScope sFound) := ⟨rfl, rfl, rfl, by decide +kernel, rfl, by decide +kernel, by decide +kernel⟩
theorem lcFound1 : LcS (defScope sFound).names [(".0", .local), ("_law_name", .local), ("_law_row", .free)] ["_law_claims", "_law_rows", "_law_row", "_law_names_here", "_law_due", "_law_other", "_law_bits", "_law_found_here"] [false, false, true, false, false, false, false, false] := ⟨by decide +kernel, by decide +kernel, by decide +kernel, by decide +kernel, by decide +kernel, rfl⟩
theorem ndFound1 : (["_law_claims", "_law_rows", "_law_row", "_law_names_here", "_law_due", "_law_other", "_law_bits", "_law_found_here", "_law_name"] : List Str).Nodup := by decide +kernel
theorem ok_found {f fO fI fP fF fH : Addr} {fd fdO fdI fdP fdF fdH : FuncData} (F : Fun K "_law_found" "_law_found" sFound f fd) (T : Txt mg) (TC : ClT K mg C)
    (FO : Fun K "told" "told" sTold fO fdO) (bO : Binds K fdO ["bits"] []) (mO : mg "told" = some (.ref fO))
    (FI : Fun K "within" "within" sWithin fI fdI) (bI : Binds K fdI ["one", "other"] []) (mI : mg "within" = some (.ref fI))
    (FP : Fun K "open_to" "Claims.open_to" sCOpen fP fdP) (bP : Binds K fdP ["self", "name", "bits"] []) (mP : Meth K C "open_to" fP)
    (FF : Fun K "claim_of" "Claims.claim_of" sCOf fF fdF) (bF : Binds K fdF ["self", "name", "bits"] []) (mF : Meth K C "claim_of" fF)
    (FH : Fun K "_law_whole" "_law_whole" sWhole fH fdH) (bH : Binds K fdH ["_law_found_here"] []) (mH : mg "_law_whole" = some (.ref fH)) :
    FnOk P w K mg base CX0 4 f fd ["_law_claims", "_law_rows", "_law_row", "_law_names_here"] (spFound C) := by
  have GF : FnOk P w K mg base CX0 3 fF fdF ["self", "name", "bits"] (spOf C) := ok_of FF TC FO bO mO FI bI mI FP bP mP
  have GH : FnOk P w K mg base CX0 3 fH fdH ["_law_found_here"] spWhole := (ok_whole FH T).mono (by decide)
  refine F.ok scFound (fun vs H Q E h => ?_) (fun cdv A outer s H vs Q E hr h => ?_)
  · obtain ⟨x, kl, nl, v, rfl, _⟩ := h; rfl
  · obtain ⟨x, kl, nl, v, rfl, ⟨r, ids, rv, kv, ns, zs, id, hS, hR, hN, hz, hne, hv, hnd, vid, hlen⟩, q⟩ := h
    have nd := scFound.nd
    have hu3 := hud_of hr (d := 2) (by decide)
    have hu5 := hud5 hr
    have hrl : (rowsOf (ids.map (ct ns zs))).length ≤ 1000 := by rw [rowsOf_len, List.length_map]; omega
    have hR0 := hR
    obtain ⟨t, m, rfl, ht, hm⟩ := hR0
    -- what is asked
    have ask : ∀ (nm : Str) (b : Nat), (opens (rowsOf (ids.map (ct ns zs))) nm b = [] ∨ ∃ i, opens (rowsOf (ids.map (ct ns zs))) nm b = [i]) → (opens (rowsOf (ids.map (ct ns zs))) nm b).length < 64 ∧ (topsOf (rowsOf (ids.map (ct ns zs))) nm b).length ≤ 1 ∧ topV (topsOf (rowsOf (ids.map (ct ns zs))) nm b) = topV (opens (rowsOf (ids.map (ct ns zs))) nm b) := fun nm b h => by
      unfold topsOf
      rcases h with e | ⟨i, e⟩
      · rw [e]
        have e2 : tops (bitsAt (rowsOf (ids.map (ct ns zs)))) [] = [] := tops_nil.mpr rfl
        rw [e2]
        exact ⟨by decide, by decide, rfl⟩
      · rw [e, top_one]
        exact ⟨by show 1 < 64; decide, by show 1 ≤ 1; decide, rfl⟩
    obtain ⟨yb, hyb, hyl, _⟩ := ct_nums ns zs id
    have REST : ∃ t' : TS, PSs (cxOf CX0 P w K mg base NFound "_law_found" (defScope sFound) f cdv A outer s H E).nox ((defBody sFound).drop 2) t' ∧
        ∀ (dv : V), ((dv = .non ∧ id ∉ ids) ∨ ∃ i : Nat, dv = .int (i : Int) ∧ ids[i]? = some id) → t' { nx := fun _ H' => Q .non H', rt := Q } [some (.ref x), some (.ref kl), some (.ref t), some (.ref nl), some dv, none, none, none] H := by
      refine ⟨_, (pss_cons (ps_set (i := 5) nd rfl (Or.inl rfl) (pe_ix ix_list (pe_lc (ext := ["_law_name"]) lcFound1 rfl (pi_list (pv 3))
          ⟨fun _ _ _ _ _ => (pg_name (i := 8) ndFound1 rfl (Or.inl rfl) (.inr rfl)), fun _ _ _ _ _ => (pts_one (pt_cmpR op_ne (pv 8) (pe_ix (ix_tup : IxR _ (rIxT K)) (pv 2) pe_int (fun _ _ => rfl)) (nomark _))), fun _ _ _ _ _ => (pv 8)⟩) pe_int (fun _ _ => rfl)))
        (pss_cons (ps_for PassesOwn.never rfl (pi_list (pe_lst (pa_cons (pe_ix ix_tup (pv 2) pe_int (fun _ _ => rfl)) (pa_cons (pe_op op_add (pe_ix ix_tup (pv 2) pe_int (fun _ _ => rfl)) (pe_op op_shl pe_int pe_int)) pa_nil)))) (pg_name (i := 6) nd rfl (Or.inl rfl))
        (pss_cons (ps_set (i := 7) nd rfl (Or.inl rfl) (pe_meth (pv 0) TC.cl mF GF hr bF .nil pass0 (pa_cons (pe_ix ix_tup (pv 2) pe_int (fun _ _ => rfl)) (pa_cons (pv 6) pa_nil))))
          (pss_one (ps_if (PW.pt (pw_or (PW.pt (pw_and (pt_cmpR op_isN (pv 4) pe_non (nomark _)) (pw_and1 (pt_cmpR op_notN (pv 7) pe_non (nomark _))))) (pw_or1 (PW.pt (pw_and (pt_cmpR op_notN (pv 4) pe_non (nomark _)) (pw_and1 (pt_not (PW.pt (pw_and (pt_val (pe_call GH hr (by rfl) mH FH.kp bH .nil pass0 (pa_cons (pv 7) pa_nil))) (pw_and1 (pt_cmpR op_eq (pv 7) (pv 4) (nomark _))))))))))))
          (pss_one (ps_ret pe_bl))
          pss_nil))))
        (pss_one (ps_ret (pe_and (pe_cmpR op_isN (pe_meth (pv 0) TC.cl mF GF hr bF .nil pass0 (pa_cons (pv 5) (pa_cons (pe_ix ix_tup (pv 2) pe_int (fun _ _ => rfl)) pa_nil))) pe_non (nomark _)) (pe_one (pe_cmpR op_isN (pe_meth (pv 0) TC.cl mF GF hr bF .nil pass0 (pa_cons (pe_ix ix_tup (pv 2) pe_int (fun _ _ => rfl)) (pa_cons pe_int pa_nil))) pe_non (nomark _)))))))), ?_⟩
      intro dv hdv
      -- another name
      refine ⟨_, rfl, nl, rfl, ⟨_, SqL.of hN⟩, fun D hD => ?_⟩
      have sD : ∀ ys', Same H (upd H D (.lst ys')) := fun ys' => same_upd hD
      refine lc_list (K := K) (a := nl) (i := 8) (xs := zs.map V.str) (fun v => !decide (v = .str (ct ns zs id).n)) (fun v => v) (fun ys' => SqL.of (sD ys' _ _ hN)) (by rw [List.length_map, hz, sizeLine_eq]; decide) ?_ ?_ ?_
      · intro k y v ys' R hk hRR
        obtain ⟨z, _, rfl⟩ := List.mem_map.mp (List.mem_of_getElem? hk)
        exact ⟨_, rfl, _, rfl, t, _, _, _, rfl, rfl, SqT.of (sD ys' _ _ ht), rfl, rfl, _, rfl, hRR _ rfl⟩
      · intro k y v ys' R hk _ hRR
        exact ⟨_, rfl, hRR _ rfl⟩
      intro H1 e1
      obtain ⟨o, L, eo, hon⟩ := other (nm := (ct ns zs id).n) hne hz
      rw [eo] at e1
      have hD1 : H1 D = some (.lst (.str o :: L)) := by rw [e1, upd_same]
      have s1 : Same H H1 := by rw [e1]; exact same_upd hD
      clear e1
      refine ⟨D, _, _, _, rfl, rfl, SqL.of hD1, atI_nat (k := 0) rfl, ?_⟩
      -- the two questions
      refine ⟨_, rfl, t, _, _, _, rfl, rfl, SqT.of (s1 _ _ ht), rfl, _, rfl, t, _, _, _, rfl, rfl, SqT.of (s1 _ _ ht), rfl, _, _, rfl, rfl, ⟨by decide, by decide, by decide⟩, _, _, rfl, rfl, by show 2 ≤ sizeLine; rw [sizeLine_eq]; decide, fun N hNn => ?_⟩
      have s2 := same_upd (o := .lst [.int ((ct ns zs id).b : Int), .int (((ct ns zs id).b : Int) + (1 : Int) * 2 ^ (19000 : Int).toNat)]) hNn
      have hN2 : upd H1 N (.lst [.int ((ct ns zs id).b : Int), .int (((ct ns zs id).b : Int) + (1 : Int) * 2 ^ (19000 : Int).toNat)]) N = some (.lst [.int ((ct ns zs id).b : Int), .int (((ct ns zs id).b : Int) + (1 : Int) * 2 ^ (19000 : Int).toNat)]) := upd_same
      generalize upd H1 N (.lst [.int ((ct ns zs id).b : Int), .int (((ct ns zs id).b : Int) + (1 : Int) * 2 ^ (19000 : Int).toNat)]) = H2 at s2 hN2 ⊢
      have s12 := s1.trans s2
      refine ⟨N, rfl, ⟨_, SqL.of hN2⟩, for_list (xs := [.int ((ct ns zs id).b : Int), .int (((ct ns zs id).b : Int) + (1 : Int) * 2 ^ (19000 : Int).toNat)]) (fun i σ H' => (∃ v6 v7, σ = [some (.ref x), some (.ref kl), some (.ref t), some (.ref nl), some dv, some (.str o), v6, v7]) ∧ Same H2 H')
        ⟨⟨_, _, rfl⟩, fun _ _ e => e⟩ (fun i σ H' _ hP => SqL.of (hP.2 _ _ hN2)) ?_ ?_⟩
      · rintro i v σ H' hi ⟨⟨v6, v7, rfl⟩, s3⟩
        have s13 := s12.trans s3
        obtain ⟨b, rfl, hb⟩ : ∃ b : Nat, v = .int (b : Int) ∧ Ask ns zs id b := by
          have hmem := List.mem_of_getElem? hi
          simp only [List.mem_cons, List.not_mem_nil, or_false] at hmem
          rcases hmem with e | e
          · exact ⟨_, e, .inl rfl⟩
          · exact ⟨(ct ns zs id).b + 2 ^ 19000, by rw [e, Int.natCast_add, ← shl_one]; rfl, .inr rfl⟩
        obtain ⟨ys, hys, hyl2⟩ := ask_nums vid hb
        rcases hdv with ⟨rfl, hnot⟩ | ⟨i', rfl, hat⟩
        · have eo : opens (rowsOf (ids.map (ct ns zs))) (ct ns zs id).n b = [] := tops_not hv vid hb (.inl hnot)
          obtain ⟨a1, a2, a3⟩ := ask (ct ns zs id).n b (.inl eo)
          refine ⟨_, rfl, x, r.dx, _, rfl, (hS.same s13).cl.ins, rfl, _, rfl, t, _, _, _, rfl, rfl, SqT.of (s13 _ _ ht), rfl, _, rfl, x, (ct ns zs id).n, b, ys, r, _, rv, rfl, (hS.same s13).cl, hrl, a1, hys, hyl2, a2, fun H4 s4 => ?_⟩
          rw [a3, eo]
          exact ⟨_, rfl, rfl, true, rfl, iteT ⟨_, rfl, rfl, false, rfl, iteF ⟨_, rfl, rfl, false, rfl, iteF (iteF ⟨⟨_, _, rfl⟩, s3.trans s4⟩)⟩⟩⟩
        · have eo : opens (rowsOf (ids.map (ct ns zs))) (ct ns zs id).n b = [i'] := tops_there hv hnd vid hb hat
          obtain ⟨a1, a2, a3⟩ := ask (ct ns zs id).n b (.inr ⟨i', eo⟩)
          refine ⟨_, rfl, x, r.dx, _, rfl, (hS.same s13).cl.ins, rfl, _, rfl, t, _, _, _, rfl, rfl, SqT.of (s13 _ _ ht), rfl, _, rfl, x, (ct ns zs id).n, b, ys, r, _, rv, rfl, (hS.same s13).cl, hrl, a1, hys, hyl2, a2, fun H4 s4 => ?_⟩
          rw [a3, eo]
          refine ⟨_, rfl, rfl, false, rfl, iteF (iteF ⟨_, rfl, rfl, true, rfl, iteT ⟨_, rfl, (i' : Int), rfl, ⟨_, rfl, iteT ⟨_, rfl, _, rfl, rfl, true, ?_, iteF ⟨⟨_, _, rfl⟩, s3.trans s4⟩⟩⟩⟩⟩)⟩
          rw [decide_eq_true (show topV [i'] = V.int (i' : Int) from rfl)]
      · rintro σ H' ⟨⟨v6, v7, rfl⟩, s3⟩
        have s13 := s12.trans s3
        have e1 : opens (rowsOf (ids.map (ct ns zs))) o (ct ns zs id).b = [] := tops_not hv vid (.inl rfl) (.inr (Ne.symm hon))
        obtain ⟨a1, a2, a3⟩ := ask o (ct ns zs id).b (.inl e1)
        refine ⟨_, rfl, x, r.dx, _, rfl, (hS.same s13).cl.ins, rfl, _, rfl, _, rfl, t, _, _, _, rfl, rfl, SqT.of (s13 _ _ ht), rfl, x, o, (ct ns zs id).b, yb, r, _, rv, rfl, (hS.same s13).cl, hrl, a1, hyb, by omega, a2, fun H4 s4 => ?_⟩
        rw [a3, e1]
        have s14 := s13.trans s4
        have e2 : opens (rowsOf (ids.map (ct ns zs))) (ct ns zs id).n 0 = [] := tops_zero
        obtain ⟨c1, c2, c3⟩ := ask (ct ns zs id).n 0 (.inl e2)
        refine ⟨rfl, ⟨_, rfl, iteT ?_⟩⟩
        refine ⟨_, rfl, x, r.dx, _, rfl, (hS.same s14).cl.ins, rfl, _, rfl, t, _, _, _, rfl, rfl, SqT.of (s14 _ _ ht), rfl, x, (ct ns zs id).n, 0, [], r, _, rv, rfl, (hS.same s14).cl, hrl, c1, ⟨fun m => by simp, fun y hy => nomatch hy⟩, by decide, c2, fun H5 s5 => ?_⟩
        rw [c3, e2]
        exact ⟨rfl, q _ (s14.trans s5)⟩
    obtain ⟨tR, hRT, hrest⟩ := REST
    refine ⟨_, pss_cons (ps_set (i := 4) nd rfl (Or.inl rfl) pe_non)
      (pss_cons (ps_if (pt_cmpR (op_inB hu3) (pv 2) (pv 1) rfl)
      (pss_one (ps_set (i := 4) nd rfl (Or.inl rfl) (pe_bm PySem.F.plainAttrs_list PySem.F.slot_list_index PySem.F.type_list_index (mt_index hu5) (pv 1) (pa_cons (pv 2) pa_nil))))
      pss_nil) hRT), ?_⟩
    obtain ⟨g, hg1, hg2⟩ := hits (K := K) hS hR
    have hat : ∀ (k j : Nat), ids[k]? = some j → ∃ z, kv[k]? = some z ∧ (hitV g z = true ↔ j = id) := fun k j e => by
      obtain ⟨z, h1, h2⟩ := hg2 k (ct ns zs j) (by rw [List.getElem?_map, e]; rfl)
      exact ⟨z, h1, h2.trans ⟨fun e' => ct_inj (hv j (List.mem_of_getElem? e)) vid e', fun e' => by rw [e']⟩⟩
    have hkl : kv.length = ids.length := by rw [hS.klen, List.length_map]
    refine ⟨_, rfl, _, rfl, kl, kv, g, rfl, SqL.of hS.hk, hg1, _, rfl, ite2 (fun hc => ?_) (fun hc => ?_)⟩
    · have hin : id ∈ ids := by
        obtain ⟨z, hz1, hz2⟩ := List.any_eq_true.mp hc
        obtain ⟨k, hk, e⟩ := List.getElem_of_mem hz1
        obtain ⟨z', h1, h2⟩ := hat k ids[k] (List.getElem?_eq_getElem (by omega))
        rw [List.getElem?_eq_getElem hk, e] at h1
        cases h1
        rw [← h2.mp hz2]
        exact List.getElem_mem _
      obtain ⟨j, hj, ej⟩ := List.getElem_of_mem hin
      have ej' : ids[j]? = some id := by rw [List.getElem?_eq_getElem hj, ej]
      obtain ⟨z, h1, h2⟩ := hat j id ej'
      refine ⟨_, rfl, .inl ⟨rfl, _, SqL.of hS.hk⟩, _, rfl, kl, kv, _, g, j, rfl, rfl, SqL.of hS.hk, hg1, ⟨z, h1, h2.mpr rfl⟩, fun i z' hi ez => ?_, hrest _ (.inr ⟨j, rfl, ej'⟩)⟩
      have hil : i < ids.length := by omega
      obtain ⟨z2, h3, h4⟩ := hat i ids[i] (List.getElem?_eq_getElem hil)
      rw [h3] at ez
      cases ez
      cases hb : hitV g z' with
      | false => rfl
      | true =>
        have e := h4.mp hb
        rw [← ej] at e
        have := (List.getElem_inj hnd).mp e
        omega
    · refine hrest .non (.inl ⟨rfl, fun hin => hc ?_⟩)
      obtain ⟨j, hj, ej⟩ := List.getElem_of_mem hin
      obtain ⟨z, h1, h2⟩ := hat j id (by rw [List.getElem?_eq_getElem hj, ej])
      exact List.any_eq_true.mpr ⟨z, List.mem_of_getElem? h1, h2.mpr rfl⟩
end
end K25

set_option Elab.async false
set_option linter.all false
set_option maxRecDepth 100000
set_option maxHeartbeats 4000000
set_option exponentiation.threshold 30000
/-! k25: the claims that are put ahead. Own work. -/
namespace K25
open PySem L2 Builtin.Str CM
/-- the script, kept whatever is written where bad says -/
def Sc (K : PySem.W.Frag) (H : Hp) (a : Addr) (bad : Addr → Prop) (xs : List V) : Prop :=
  (∃ (o : Obj) (its : Array Value) (n : Nat), K.lookup a = some o ∧ o.cls = .type "list" ∧ o.dict = none ∧ o.data = .seq its n ∧ its.size ≤ sizeLine ∧ Vals xs its.toList) ∨ (Rd H a (.lst xs) ∧ ¬ bad a)
theorem Sc.sq {K : PySem.W.Frag} {H : Hp} {a : Addr} {bad : Addr → Prop} {xs : List V} (h : Sc K H a bad xs) : SqL K H a xs := by
  rcases h with h | h
  · exact .inr h
  · exact .inl h.1
theorem Sc.keep {K : PySem.W.Frag} {H H' : Hp} {a : Addr} {bad bad' : Addr → Prop} {xs : List V} (h : Sc K H a bad xs) (k : ∀ o, ¬ bad a → H a = some o → H' a = some o ∧ ¬ bad' a) : Sc K H' a bad' xs := by
  rcases h with h | ⟨h1, h2⟩
  · exact .inl h
  · rcases h1 with e | ⟨o, e⟩
    · obtain ⟨k1, k2⟩ := k _ h2 e
      exact .inr ⟨.inl k1, k2⟩
    · obtain ⟨k1, k2⟩ := k _ h2 e
      exact .inr ⟨.inr ⟨o, k1⟩, k2⟩
/-- what stays beside a side -/
structure Fr (H H' : Hp) (kl : Addr) (r r' : CR) : Prop where
  keep : ∀ c o, ¬ Own r c → c ≠ kl → H c = some o → H' c = some o
  own : ∀ c, Own r' c → Own r c ∨ H c = none
theorem Fr.refl (H : Hp) (kl : Addr) (r : CR) : Fr H H kl r r := ⟨fun _ _ _ _ e => e, fun _ z => .inl z⟩
theorem Fr.put {H H' H2 H3 H12 : Hp} {kl : Addr} {r r' r'' : CR} (f : Fr H H' kl r r') (s : Same H' H2) (e3 : ∀ c o, c ≠ kl → H2 c = some o → H3 c = some o) (k3 : H3 kl ≠ none)
    (hkp : ∀ c o, ¬ Own r' c → H3 c = some o → H12 c = some o) (hon : ∀ c, Own r'' c → Own r' c ∨ H3 c = none) : Fr H H12 kl r r'' where
  keep := fun c o n1 n2 e => hkp c o (fun z => by
    rcases f.own c z with w | w
    · exact n1 w
    · rw [e] at w; cases w) (e3 _ _ n2 (s _ _ (f.keep c o n1 n2 e)))
  own := fun c z => by
    rcases hon c z with w | w
    · exact f.own c w
    · by_cases ho : Own r c
      · exact .inl ho
      · right
        cases e : H c with
        | none => rfl
        | some o =>
          by_cases hc : c = kl
          · rw [hc] at w; exact absurd w k3
          · rw [e3 _ _ hc (s _ _ (f.keep c o ho hc e))] at w; cases w
theorem Fr.put2 {H H2 H12 : Hp} {kl : Addr} {r r' : CR} {o' : HO} (s : Same H H2) (hkp : ∀ c o, ¬ Own r c → H2 c = some o → H12 c = some o) (hon : ∀ c, Own r' c → Own r c ∨ H2 c = none) : Fr H (upd H12 kl o') kl r r' where
  keep := fun c o n1 n2 e => by rw [upd_ne n2]; exact hkp c o n1 (s _ _ e)
  own := fun c z => by
    rcases hon c z with w | w
    · exact .inl w
    · right
      cases e : H c with
      | none => rfl
      | some o => rw [s _ _ e] at w; cases w
theorem CL.noTup {C : Addr} {r : CR} {H : Hp} {x : Addr} {rows : Rw} {rv : List V} (h : CL C r H x rows rv) {e : Addr} {xs : List V} (q : H e = some (.tup xs)) : ¬ Own r e := fun z => by
  rcases z with z | z | ⟨n, z⟩ | ⟨n, l, z⟩
  · rw [z, h.hlr] at q; cases q
  · rw [z, h.db] at q; cases q
  · rw [(h.din n e z).1] at q; cases q
  · rw [h.lin n l e z] at q; cases q
theorem CL.noIns {C : Addr} {r : CR} {H : Hp} {x : Addr} {rows : Rw} {rv : List V} (h : CL C r H x rows rv) {e c d : Addr} {xs : List (Str × V)} (q : H e = some (.ins c d xs)) : ¬ Own r e := fun z => by
  rcases z with z | z | ⟨n, z⟩ | ⟨n, l, z⟩
  · rw [z, h.hlr] at q; cases q
  · rw [z, h.db] at q; cases q
  · rw [(h.din n e z).1] at q; cases q
  · rw [h.lin n l e z] at q; cases q
def idsA (i : Nat) : List Nat := (List.range i).map fun j => 100 + j
theorem idsA_len (i : Nat) : (idsA i).length = i := by unfold idsA; rw [List.length_map, List.length_range]
theorem idsA_succ (i : Nat) : idsA (i + 1) = idsA i ++ [100 + i] := by unfold idsA; rw [List.range_succ, List.map_append]; rfl
theorem idsA_mem {i j : Nat} (h : j ∈ idsA i) : 100 ≤ j ∧ j < 100 + i := by
  unfold idsA at h
  obtain ⟨k, hk, rfl⟩ := List.mem_map.mp h
  have := List.mem_range.mp hk
  omega
theorem idsA_at {i k : Nat} (h : k < i) : (idsA i)[k]? = some (100 + k) := by
  unfold idsA
  rw [List.getElem?_map, List.getElem?_range h]; rfl
theorem idsA_nodup (i : Nat) : (idsA i).Nodup := by
  induction i with
  | zero => exact List.nodup_nil
  | succ i ih =>
    rw [idsA_succ]
    refine List.nodup_append.mpr ⟨ih, by simp, fun a ha b hb => ?_⟩
    have := idsA_mem ha
    rw [List.mem_singleton.mp hb]
    omega
theorem ct_ah (ns : List Int) (zs : List Str) (i : Nat) : ct ns zs (100 + i) = ⟨zs.getD 3 "", cellF ns 22 % 1009 * (i : Int), 2 ^ (18000 + i), "seen", (i : Int)⟩ := by
  unfold ct
  rw [if_neg (by omega), Nat.add_sub_cancel_left]
  rfl
def spAhead (K : PySem.W.Frag) (C : Addr) : Sp := fun vs H Q _ => ∃ (a x kl : Addr) (r : CR) (ns : List Int) (zs : List Str), vs = [.ref a, .ref x, .ref kl, .str (zs.getD 3 "")] ∧ Sd C H x kl r [] [] [] ∧ Sc K H a (fun c => Own r c ∨ c = kl) (ns.map V.int) ∧ ns.length ≤ 63 ∧
  ∀ (H' : Hp) (r' : CR) (rv kv : List V) (many : Nat), many ≤ 120 → Sd C H' x kl r' ((idsA many).map (ct ns zs)) rv kv → Fr H H' kl r r' → Q (.int (many : Int)) H'
section
variable {P : Program} {w : World} {K : PySem.W.Frag} {mg : Str → Option Value} {base : Heap} {C : Addr}
abbrev NAhead : List Str := ["_law_script", "_law_claims", "_law_rows", "_law_name", "_law_many", "_law_k"]
theorem scAhead : FnScope NAhead ["_law_script", "_law_claims", "_law_rows", "_law_name"] (defScope sAhead) := ⟨rfl, rfl, rfl, by decide +kernel, rfl, by decide +kernel, by decide +kernel⟩
theorem ok_ahead {f fL fU fC : Addr} {fd fdL fdU fdC : FuncData} (F : Fun K "_law_ahead" "_law_ahead" sAhead f fd) (T : Txt mg) (TC : ClT K mg C)
    (FL : Fun K "last_of" "last_of" sLast fL fdL) (bL : Binds K fdL ["bits"] []) (mL : mg "last_of" = some (.ref fL))
    (FU : Fun K "put" "Claims.put" sCPut fU fdU) (bU : Binds K fdU ["self", "name", "at", "bits", "meaning"] []) (mU : Meth K C "put" fU)
    (FC : Fun K "_law_cell" "_law_cell" sCell fC fdC) (bC : Binds K fdC ["_law_script", "_law_k"] []) (mC : mg "_law_cell" = some (.ref fC)) :
    FnOk P w K mg base CX0 3 f fd ["_law_script", "_law_claims", "_law_rows", "_law_name"] (spAhead K C) := by
  have GC : FnOk P w K mg base CX0 2 fC fdC ["_law_script", "_law_k"] (spCell K) := (ok_cell FC T).mono (by decide)
  have GU : FnOk P w K mg base CX0 2 fU fdU ["self", "name", "at", "bits", "meaning"] (spPut C) := ok_put FU TC FL bL mL
  refine F.ok scAhead (fun vs H Q E h => ?_) (fun cdv A outer s H vs Q E hr h => ?_)
  · obtain ⟨a, x, kl, r, ns, zs, rfl, _⟩ := h; rfl
  · obtain ⟨a, x, kl, r, ns, zs, rfl, hS, hSc, hl, q⟩ := h
    have nd := scAhead.nd
    have REST : ∃ t : TS, PSs (cxOf CX0 P w K mg base NAhead "_law_ahead" (defScope sAhead) f cdv A outer s H E).nox ((defBody sAhead).drop 2) t ∧
        ∀ many : Nat, many ≤ 120 → t { nx := fun _ H' => Q .non H', rt := Q } [some (.ref a), some (.ref x), some (.ref kl), some (.str (zs.getD 3 "")), some (.int (many : Int)), none] H := by
      refine ⟨_, (pss_cons (ps_for PassesOwn.never rfl (pi_range1 rfl T.range (pa_cons (pv 4) pa_nil)) (pg_name (i := 5) nd rfl (Or.inl rfl))
        (pss_cons (ps_expr (pe_bm PySem.F.plainAttrs_list PySem.F.slot_list_append PySem.F.type_list_append mt_append (pv 2) (pa_cons (pe_tup (pa_cons (pv 3) (pa_cons (pe_op op_mul (pe_op op_mod (pe_call GC hr (by rfl) mC FC.kp bC .nil pass0 (pa_cons (pv 0) (pa_cons pe_int pa_nil))) pe_int) (pv 5)) (pa_cons (pe_op op_shl pe_int (pe_op op_add pe_int (pv 5))) (pa_cons (pe_tup (pa_cons pe_str (pa_cons (pv 5) pa_nil))) pa_nil))))) pa_nil)))
          (pss_one (ps_expr (pe_meth (pv 1) TC.cl mU GU hr bU .nil pass0 (pa_cons (pv 3) (pa_cons (pe_ix ix_tup (pe_ix ix_list (pv 2) (pv 5) (fun _ _ => rfl)) pe_int (fun _ _ => rfl)) (pa_cons (pe_ix ix_tup (pe_ix ix_list (pv 2) (pv 5) (fun _ _ => rfl)) pe_int (fun _ _ => rfl)) (pa_cons (pe_ix ix_tup (pe_ix ix_list (pv 2) (pv 5) (fun _ _ => rfl)) pe_int (fun _ _ => rfl)) pa_nil)))))))))
        (pss_one (ps_ret (pv 4)))), ?_⟩
      intro many hmany
      refine ⟨_, rfl, (many : Int), rfl, by omega, by omega, for_range (lo := 0) (n := (many : Int).toNat) (fun i σ H' => ∃ (r' : CR) (rv kv : List V) (v5 : Option V), σ = [some (.ref a), some (.ref x), some (.ref kl), some (.str (zs.getD 3 "")), some (.int (many : Int)), v5] ∧ Sd C H' x kl r' ((idsA i).map (ct ns zs)) rv kv ∧ Fr H H' kl r r')
        ⟨r, [], [], none, rfl, hS, Fr.refl _ _ _⟩ ?_ ?_⟩
      · rintro i σ H' hi ⟨r', rv, kv, v5, rfl, h, hF⟩
        rw [show (0 : Int) + (i : Int) = (i : Int) by omega]
        have hi' : i < many := by omega
        have hsc := (hSc.keep (bad' := fun _ => False) (H' := H') fun o n e => ⟨hF.keep _ _ (fun z => n (.inl z)) (fun z => n (.inr z)) e, fun z => z⟩).sq
        have g0 := Int.emod_nonneg (cellF ns 22) (show (1009 : Int) ≠ 0 by decide)
        have g1 := Int.emod_lt_of_pos (cellF ns 22) (show (0 : Int) < 1009 by decide)
        have hkl : kv.length = i := by rw [h.klen, List.length_map, idsA_len]
        refine ⟨_, rfl, .inl ⟨rfl, _, SqL.of h.hk⟩, _, rfl, _, rfl, a, 22, ns, rfl, hsc, by decide, by decide, hl, _, _, rfl, rfl, (by show (0 : Int) < _; decide), _, rfl, _, _, rfl, rfl, .inr ⟨by show -(2 ^ 64 : Int) < (i : Int); omega, by show (i : Int) < (2 ^ 64 : Int); omega⟩, _, rfl, _, _, rfl, rfl, _, _, rfl, rfl, ⟨by show (0 : Int) ≤ 18000 + (i : Int); omega, by show 18000 + (i : Int) ≤ (1000000 : Int); omega, by decide⟩, _, rfl, by show 2 ≤ sizeLine; rw [sizeLine_eq]; decide, fun m hm => ⟨by show 4 ≤ sizeLine; rw [sizeLine_eq]; decide, fun t' ht' => ?_⟩⟩
        have s1 := same_upd (o := .tup [.str "seen", .int (i : Int)]) hm
        have s2 := same_upd (o := .tup [.str (zs.getD 3 ""), .int (cellF ns 22 % 1009 * (i : Int)), .int ((1 : Int) * 2 ^ ((18000 : Int) + (i : Int)).toNat), .ref m]) ht'
        have eb : (1 : Int) * 2 ^ ((18000 : Int) + (i : Int)).toNat = ((2 ^ (18000 + i) : Nat) : Int) := by
          rw [← shl_one, Int.natCast_add]; rfl
        have f2 : upd (upd H' m (.tup [.str "seen", .int (i : Int)])) t' (.tup [.str (zs.getD 3 ""), .int (cellF ns 22 % 1009 * (i : Int)), .int ((1 : Int) * 2 ^ ((18000 : Int) + (i : Int)).toNat), .ref m]) t' = some (.tup [.str (ct ns zs (100 + i)).n, .int (ct ns zs (100 + i)).a, .int ((ct ns zs (100 + i)).b : Int), .ref m]) := by
          rw [upd_same, ct_ah, eb]
        have fm : upd (upd H' m (.tup [.str "seen", .int (i : Int)])) t' (.tup [.str (zs.getD 3 ""), .int (cellF ns 22 % 1009 * (i : Int)), .int ((1 : Int) * 2 ^ ((18000 : Int) + (i : Int)).toNat), .ref m]) m = some (.tup [.str (ct ns zs (100 + i)).k, .int (ct ns zs (100 + i)).z]) := by
          rw [s2 _ _ upd_same, ct_ah]
        have s12 := s1.trans s2
        generalize upd (upd H' m (.tup [.str "seen", .int (i : Int)])) t' (.tup [.str (zs.getD 3 ""), .int (cellF ns 22 % 1009 * (i : Int)), .int ((1 : Int) * 2 ^ ((18000 : Int) + (i : Int)).toNat), .ref m]) = H2 at s2 f2 fm s12 ⊢
        have h2 := h.same s12
        refine ⟨kl, _, _, rfl, rfl, h2.hk, by rw [hkl, sizeLine_eq]; omega, ?_⟩
        have tne : ∀ e xs, H2 e = some (.tup xs) → e ≠ kl := fun e xs q => kind_ne q h2.hk (fun z => nomatch z)
        have f3 : upd H2 kl (.lst (kv ++ [.ref t'])) t' = some (.tup [.str (ct ns zs (100 + i)).n, .int (ct ns zs (100 + i)).a, .int ((ct ns zs (100 + i)).b : Int), .ref m]) := by rw [upd_ne (tne _ _ f2)]; exact f2
        have hC3 : CL C r' (upd H2 kl (.lst (kv ++ [.ref t']))) x (rowsOf ((idsA i).map (ct ns zs))) rv := h2.cl.off fun e o qe ze => by
          rcases ze with ze | ze | ⟨xs, rfl⟩
          · rw [upd_ne (fun w => h2.noK (by rw [← w]; exact ze))]; exact qe
          · subst ze
            rw [upd_ne (kind_ne h2.cl.ins h2.hk (fun z => nomatch z))]; exact qe
          · rw [upd_ne (tne _ _ qe)]; exact qe
        have e1 : atI (kv ++ [.ref t']) (i : Int) = some (.ref t') := atI_nat (by rw [← hkl, List.getElem?_append_right (Nat.le_refl _), Nat.sub_self]; rfl)
        have hk3 : upd H2 kl (.lst (kv ++ [.ref t'])) kl = some (.lst (kv ++ [.ref t'])) := upd_same
        have u3 : ∀ c o, c ≠ kl → H2 c = some o → upd H2 kl (.lst (kv ++ [.ref t'])) c = some o := fun c o n e => by rw [upd_ne n]; exact e
        generalize upd H2 kl (.lst (kv ++ [.ref t'])) = H3 at f3 hC3 hk3 u3 ⊢
        have hnm : (ct ns zs (100 + i)).n = zs.getD 3 "" := by rw [ct_ah]
        refine ⟨_, rfl, x, r'.dx, _, rfl, hC3.ins, rfl, _, rfl, _, rfl, _, rfl, kl, _, _, _, rfl, rfl, SqL.of hk3, e1, t', _, _, _, rfl, rfl, SqT.of f3, rfl, _, rfl, _, rfl, kl, _, _, _, rfl, rfl, SqL.of hk3, e1, t', _, _, _, rfl, rfl, SqT.of f3, rfl, _, rfl, _, rfl, kl, _, _, _, rfl, rfl, SqL.of hk3, e1, t', _, _, _, rfl, rfl, SqT.of f3, rfl, x, (zs.getD 3 ""), _, _, (ct ns zs (100 + i)).b, r', _, rv, rfl, hC3, by rw [rowsOf_len, List.length_map, idsA_len]; omega, fun H12 r'' t hC' htn ht hkp hon => ?_⟩
        have hK12 : ¬ Own r'' kl := fun z => by
          rcases hon kl z with w | w
          · exact h2.noK w
          · rw [hk3] at w; cases w
        have tk : ∀ e xs, H2 e = some (.tup xs) → H12 e = some (.tup xs) := fun e xs q => hkp _ _ (h2.cl.noTup q) (u3 _ _ (tne _ _ q) q)
        refine ⟨r'', rv ++ [.ref t], kv ++ [.ref t'], _, rfl, ?_, hF.put s12 u3 (fun z => by rw [hk3] at z; cases z) hkp hon⟩
        rw [idsA_succ, List.map_append]
        refine h2.put (c := ct ns zs (100 + i)) (t := t) (t' := t') (m := m) tk ?_ ?_ (tk _ _ f2) (tk _ _ fm) (hkp _ _ h2.noK hk3) hK12
        · rw [hnm]; exact hC'
        · rw [hnm]; exact ht
      · rintro σ H' ⟨r', rv, kv, v5, rfl, h, hF⟩
        exact ⟨_, rfl, q H' r' rv kv many hmany (by rw [show (many : Int).toNat = many by omega] at h; exact h) hF⟩
    obtain ⟨tR, hR, hrest⟩ := REST
    refine ⟨_, pss_cons (ps_set (i := 4) nd rfl (Or.inl rfl) pe_int)
      (pss_cons (ps_if (pt_cmpR op_eq (pe_op op_mod (pe_call GC hr (by rfl) mC FC.kp bC .nil pass0 (pa_cons (pv 0) (pa_cons pe_int pa_nil))) pe_int) pe_int (nomark _))
      (pss_one (ps_set (i := 4) nd rfl (Or.inl rfl) (pe_op op_add pe_int (pe_op op_mod (pe_op op_fdiv (pe_call GC hr (by rfl) mC FC.kp bC .nil pass0 (pa_cons (pv 0) (pa_cons pe_int pa_nil))) pe_int) pe_int))))
      pss_nil) hR), ?_⟩
    refine ⟨_, rfl, a, 21, ns, rfl, hSc.sq, by decide, by decide, hl, _, _, rfl, rfl, (by show (0 : Int) < _; decide), rfl, _, rfl, ite2 (fun _ => ?_) (fun _ => ?_)⟩
    · have g0 := Int.emod_nonneg (cellF ns 21 / 4) (show (61 : Int) ≠ 0 by decide)
      have g1 := Int.emod_lt_of_pos (cellF ns 21 / 4) (show (0 : Int) < 61 by decide)
      refine ⟨_, rfl, a, 21, ns, rfl, hSc.sq, by decide, by decide, hl, _, _, rfl, rfl, ⟨by decide, by decide⟩, _, _, rfl, rfl, (by show (0 : Int) < _; decide), _, _, rfl, rfl, ?_⟩
      have h := hrest (60 + cellF ns 21 / 4 % 61).toNat (by omega)
      rw [Int.toNat_of_nonneg (by omega)] at h
      exact h
    · exact hrest 0 (by decide)
end
end K25

set_option Elab.async false
set_option linter.all false
set_option maxRecDepth 100000
set_option maxHeartbeats 4000000
set_option exponentiation.threshold 30000
/-! k25: two claims beside each other. Own work. -/
namespace K25
open PySem L2 Builtin.Str CM
def setB {α : Type} (f : Bool → α) (i : Bool) (v : α) : Bool → α := fun j => if j = i then v else f j
theorem setB_same {α : Type} {f : Bool → α} {i : Bool} {v : α} : setB f i v i = v := if_pos rfl
theorem setB_ne {α : Type} {f : Bool → α} {i j : Bool} {v : α} (h : j ≠ i) : setB f i v j = f j := if_neg h
def two {α : Type} (p q : α) : Bool → α
  | false => p
  | true => q
def sI : Bool → Int
  | false => 0
  | true => 1
theorem at2 {p : Bool → Addr} (s : Bool) : atI [V.ref (p false), V.ref (p true)] (sI s) = some (.ref (p s)) := by cases s <;> rfl
theorem at2n {p : Bool → Addr} (s : Bool) : atI [V.ref (p false), V.ref (p true)] (1 - sI s) = some (.ref (p (!s))) := by cases s <;> rfl
structure LI (K : PySem.W.Frag) (C a nl bl kh : Addr) (x kl : Bool → Addr) (ns : List Int) (zs : List Str) (r : Bool → CR) (ids : Bool → List Nat) (rv kv : Bool → List V) (H : Hp) : Prop where
  sd : ∀ i, Sd C H (x i) (kl i) (r i) ((ids i).map (ct ns zs)) (rv i) (kv i)
  sep : ∀ i j c, i ≠ j → Own (r i) c → ¬ Own (r j) c
  noK : ∀ i j, ¬ Own (r i) (kl j)
  kk : ∀ i j, i ≠ j → kl i ≠ kl j
  sc : Sc K H a (fun c => (∃ i, Own (r i) c) ∨ ∃ i, c = kl i) (ns.map V.int)
  hb : H bl = some (.lst [.ref (x false), .ref (x true)])
  hk : H kh = some (.lst [.ref (kl false), .ref (kl true)])
  hn : H nl = some (.lst (zs.map V.str))
  nob : ∀ i, ¬ Own (r i) bl
  nok : ∀ i, ¬ Own (r i) kh
  non : ∀ i, ¬ Own (r i) nl
  bb : ∀ i, bl ≠ kl i
  bk : ∀ i, kh ≠ kl i
  bn : ∀ i, nl ≠ kl i
section
variable {K : PySem.W.Frag} {C a nl bl kh : Addr} {x kl : Bool → Addr} {ns : List Int} {zs : List Str} {r : Bool → CR} {ids : Bool → List Nat} {rv kv : Bool → List V} {H H' : Hp}
theorem LI.same (h : LI K C a nl bl kh x kl ns zs r ids rv kv H) (s : Same H H') : LI K C a nl bl kh x kl ns zs r ids rv kv H' where
  sd := fun i => (h.sd i).same s
  sep := h.sep
  noK := h.noK
  kk := h.kk
  sc := h.sc.keep fun o n e => ⟨s _ _ e, n⟩
  hb := s _ _ h.hb
  hk := s _ _ h.hk
  hn := s _ _ h.hn
  nob := h.nob
  nok := h.nok
  non := h.non
  bb := h.bb
  bk := h.bk
  bn := h.bn
/-- one side is written -/
theorem LI.step (h : LI K C a nl bl kh x kl ns zs r ids rv kv H) (i : Bool) {r' : CR} {ids' : List Nat} {rv' kv' : List V} (hs : Sd C H' (x i) (kl i) r' (ids'.map (ct ns zs)) rv' kv') (hF : Fr H H' (kl i) (r i) r') :
    LI K C a nl bl kh x kl ns zs (setB r i r') (setB ids i ids') (setB rv i rv') (setB kv i kv') H' := by
  have own : ∀ c o, H c = some o → (∀ j, ¬ Own (r j) c) → ∀ j, ¬ Own (setB r i r' j) c := fun c o e n j z => by
    by_cases hj : j = i
    · subst hj
      rw [setB_same] at z
      rcases hF.own c z with w | w
      · exact n _ w
      · rw [e] at w; cases w
    · rw [setB_ne hj] at z
      exact n j z
  refine ⟨fun j => ?_, fun p q c hpq zp zq => ?_, fun p q z => ?_, h.kk, h.sc.keep fun o n e => ⟨hF.keep _ _ (fun z => n (.inl ⟨i, z⟩)) (fun z => n (.inr ⟨i, z⟩)) e, ?_⟩, hF.keep _ _ (h.nob i) (h.bb i) h.hb, hF.keep _ _ (h.nok i) (h.bk i) h.hk, hF.keep _ _ (h.non i) (h.bn i) h.hn, own _ _ h.hb h.nob, own _ _ h.hk h.nok, own _ _ h.hn h.non, h.bb, h.bk, h.bn⟩
  · by_cases hj : j = i
    · subst hj
      rw [setB_same, setB_same, setB_same, setB_same]; exact hs
    · rw [setB_ne hj, setB_ne hj, setB_ne hj, setB_ne hj]
      refine (h.sd j).off fun e o q z => ?_
      rcases z with z | z | z | ⟨xs, rfl⟩
      · exact hF.keep _ _ (h.sep j i e hj z) (fun w => h.noK j i (by rw [← w]; exact z)) q
      · subst z
        exact hF.keep _ _ ((h.sd i).cl.noIns (h.sd j).cl.ins) (kind_ne (h.sd j).cl.ins (h.sd i).hk (fun z => nomatch z)) q
      · subst z
        exact hF.keep _ _ (h.noK i j) (h.kk j i hj) q
      · exact hF.keep _ _ ((h.sd i).cl.noTup q) (kind_ne q (h.sd i).hk (fun z => nomatch z)) q
  · have old : ∀ j c, j ≠ i → Own (r j) c → ¬ Own r' c := fun j c hj z z' => by
      rcases hF.own c z' with w | w
      · exact h.sep j i c hj z w
      · obtain ⟨u, hu⟩ := (h.sd j).cl.lst z
        rw [hu] at w; cases w
    by_cases hp : p = i
    · subst hp
      rw [setB_same] at zp
      rw [setB_ne (Ne.symm hpq)] at zq
      exact old q c (Ne.symm hpq) zq zp
    · rw [setB_ne hp] at zp
      by_cases hq : q = i
      · subst hq
        rw [setB_same] at zq
        exact old p c hp zp zq
      · rw [setB_ne hq] at zq
        exact h.sep p q c hpq zp zq
  · exact own _ _ (h.sd q).hk (fun j => h.noK j q) p z
  · rintro (⟨j, z⟩ | ⟨j, z⟩)
    · exact own _ _ e (fun j z => n (.inl ⟨j, z⟩)) j z
    · exact n (.inr ⟨j, z⟩)
/-- which claims lie where -/
def Ids (front i : Nat) (ids : Bool → List Nat) : Prop := (∀ s, (∀ j ∈ ids s, Vd j ∧ (j < 18 → j < i)) ∧ (ids s).Nodup ∧ (ids s).length ≤ 120 + i) ∧ ∀ k, k < front → (ids false)[k]? = some (100 + k)
theorem Ids.step {front i : Nat} {ids : Bool → List Nat} (h : Ids front i ids) (hi : i < 18) (s : Bool) : Ids front (i + 1) (setB ids s (ids s ++ [i])) := by
  refine ⟨fun s' => ?_, fun k hk => ?_⟩
  · by_cases hs : s' = s
    · subst hs
      rw [setB_same]
      obtain ⟨h1, h2, h3⟩ := h.1 s'
      refine ⟨fun j hj => ?_, List.nodup_append.mpr ⟨h2, by simp, fun p hp q hq e => ?_⟩, by rw [List.length_append, List.length_singleton]; omega⟩
      · rcases List.mem_append.mp hj with z | z
        · exact ⟨(h1 j z).1, fun w => Nat.lt_succ_of_lt ((h1 j z).2 w)⟩
        · rw [List.mem_singleton.mp z]; exact ⟨.inl hi, fun _ => Nat.lt_succ_self _⟩
      · rw [List.mem_singleton.mp hq] at e
        subst e
        exact Nat.lt_irrefl _ ((h1 p hp).2 hi)
    · rw [setB_ne hs]
      obtain ⟨h1, h2, h3⟩ := h.1 s'
      exact ⟨fun j hj => ⟨(h1 j hj).1, fun w => Nat.lt_succ_of_lt ((h1 j hj).2 w)⟩, h2, by omega⟩
  · by_cases hs : false = s
    · subst hs
      rw [setB_same, List.getElem?_append_left]
      · exact h.2 k hk
      · exact (List.getElem?_eq_some_iff.mp (h.2 k hk)).1
    · rw [setB_ne hs]; exact h.2 k hk
theorem LI.found (h : LI K C a nl bl kh x kl ns zs r ids rv kv H) {front i id : Nat} (hI : Ids front i ids) (hi : i ≤ 18) (hz : zs.length = 4) (hne : ∀ z0 z1, zs[0]? = some z0 → zs[1]? = some z1 → z0 ≠ z1) {v : V} (hv : RowV H v (ct ns zs id)) (vid : Vd id) (s : Bool) : Fnd C H (x s) (kl s) nl v :=
  ⟨r s, ids s, rv s, kv s, ns, zs, id, h.sd s, hv, h.hn, hz, hne, fun j hj => ((hI.1 s).1 j hj).1, (hI.1 s).2.1, vid, by have := (hI.1 s).2.2; omega⟩
end
end K25

set_option Elab.async false
set_option linter.all false
set_option maxRecDepth 100000
set_option maxHeartbeats 4000000
set_option exponentiation.threshold 30000
/-! k25: the law. Own work. -/
namespace K25
open PySem L2 Builtin.Str CM
def spLaw (K : PySem.W.Frag) : Sp := fun vs H Q _ => ∃ (a : Addr) (ns : List Int), vs = [.ref a] ∧ SqL K H a (ns.map V.int) ∧ ns.length ≤ 63 ∧ ∀ H', Q (.bl true) H'
section
variable {P : Program} {w : World} {K : PySem.W.Frag} {mg : Str → Option Value} {base : Heap} {C : Addr}
abbrev NL : List Str := ["_law_script", "_law_names_here", "_law_both", "_law_kept_here", "_law_many", "_law_front", "_law_k", "_law_row", "_law_side", "_law_number"]
theorem scLaw : FnScope NL ["_law_script"] (defScope sLaw) := ⟨rfl, rfl, rfl, by decide +kernel, rfl, by decide +kernel, by decide +kernel⟩
theorem lcLaw1 : LcS (defScope sLaw).names [(".0", .local), ("_law_side", .local), ("_law_found", .globalImplicit), ("_law_both", .free), ("_law_kept_here", .free), ("_law_names_here", .free), ("_law_row", .free)] NL [false, true, true, true, false, false, false, true, false, false] := ⟨by decide +kernel, by decide +kernel, by decide +kernel, by decide +kernel, by decide +kernel, rfl⟩
theorem ndLaw1 : NL.Nodup := by decide +kernel
def forBody : Stmt → List Stmt
  | .For _ _ b _ _ => b
  | _ => []
theorem ct_lo {ns : List Int} {zs : List Str} {k : Nat} (h : k < 18) : ct ns zs k = U ns zs k := if_pos h
theorem two_of {z : Int} (h0 : 0 ≤ z) (h1 : z < 2) : ∃ s, z = sI s := by
  by_cases h : z = 0
  · exact ⟨false, h⟩
  · exact ⟨true, by show z = 1; omega⟩
theorem ok_law {f fO fI fL fN fP fU fF fC fH fM fY fA fK fD : Addr} {fd fdO fdI fdL fdN fdP fdU fdF fdC fdH fdM fdY fdA fdK fdD : FuncData} (F : Fun K "law" "law" sLaw f fd) (T : Txt mg) (TC : ClT K mg C) (TB : TxB mg)
    (FO : Fun K "told" "told" sTold fO fdO) (bO : Binds K fdO ["bits"] []) (mO : mg "told" = some (.ref fO))
    (FI : Fun K "within" "within" sWithin fI fdI) (bI : Binds K fdI ["one", "other"] []) (mI : mg "within" = some (.ref fI))
    (FL : Fun K "last_of" "last_of" sLast fL fdL) (bL : Binds K fdL ["bits"] []) (mL : mg "last_of" = some (.ref fL))
    (FN : Fun K "__init__" "Claims.__init__" sCInit fN fdN) (bN : Binds K fdN ["self"] []) (mN : Mk K C fN)
    (FU : Fun K "put" "Claims.put" sCPut fU fdU) (bU : Binds K fdU ["self", "name", "at", "bits", "meaning"] []) (mU : Meth K C "put" fU)
    (FP : Fun K "open_to" "Claims.open_to" sCOpen fP fdP) (bP : Binds K fdP ["self", "name", "bits"] []) (mP : Meth K C "open_to" fP)
    (FF : Fun K "claim_of" "Claims.claim_of" sCOf fF fdF) (bF : Binds K fdF ["self", "name", "bits"] []) (mF : Meth K C "claim_of" fF)
    (FC : Fun K "_law_cell" "_law_cell" sCell fC fdC) (bC : Binds K fdC ["_law_script", "_law_k"] []) (mC : mg "_law_cell" = some (.ref fC))
    (FH : Fun K "_law_whole" "_law_whole" sWhole fH fdH) (bH : Binds K fdH ["_law_found_here"] []) (mH : mg "_law_whole" = some (.ref fH))
    (FM : Fun K "_law_names" "_law_names" sNames fM fdM) (bM : Binds K fdM ["_law_cell_here", "_law_many"] []) (mM : mg "_law_names" = some (.ref fM))
    (FY : Fun K "_law_claim" "_law_claim" sClaim fY fdY) (bY : Binds K fdY ["_law_script", "_law_k", "_law_names_here"] []) (mY : mg "_law_claim" = some (.ref fY))
    (FA : Fun K "_law_ahead" "_law_ahead" sAhead fA fdA) (bA : Binds K fdA ["_law_script", "_law_claims", "_law_rows", "_law_name"] []) (mA : mg "_law_ahead" = some (.ref fA))
    (FK : Fun K "_law_kept" "_law_kept" sKept fK fdK) (bK : Binds K fdK ["_law_claims", "_law_rows"] []) (mK : mg "_law_kept" = some (.ref fK))
    (FD : Fun K "_law_found" "_law_found" sFound fD fdD) (bD : Binds K fdD ["_law_claims", "_law_rows", "_law_row", "_law_names_here"] []) (mD : mg "_law_found" = some (.ref fD)) :
    FnOk P w K mg base CX0 5 f fd ["_law_script"] (spLaw K) := by
  have GC : FnOk P w K mg base CX0 4 fC fdC ["_law_script", "_law_k"] (spCell K) := (ok_cell FC T).mono (by decide)
  have GH : FnOk P w K mg base CX0 4 fH fdH ["_law_found_here"] spWhole := (ok_whole FH T).mono (by decide)
  have GM : FnOk P w K mg base CX0 4 fM fdM ["_law_cell_here", "_law_many"] spNames := (ok_names FM T).mono (by decide)
  have GY : FnOk P w K mg base CX0 4 fY fdY ["_law_script", "_law_k", "_law_names_here"] (spClaim K) := (ok_claim FY T FC bC mC).mono (by decide)
  have GA : FnOk P w K mg base CX0 4 fA fdA ["_law_script", "_law_claims", "_law_rows", "_law_name"] (spAhead K C) := (ok_ahead FA T TC FL bL mL FU bU mU FC bC mC).mono (by decide)
  have GK : FnOk P w K mg base CX0 4 fK fdK ["_law_claims", "_law_rows"] (spKept C) := (ok_kept FK T TC TB FH bH mH).mono (by decide)
  have GN : FnOk P w K mg base CX0 1 fN fdN ["self"] (spCInit C) := ok_cinit FN TC
  have GU : FnOk P w K mg base CX0 4 fU fdU ["self", "name", "at", "bits", "meaning"] (spPut C) := (ok_put FU TC FL bL mL).mono (by decide)
  have GD : FnOk P w K mg base CX0 4 fD fdD ["_law_claims", "_law_rows", "_law_row", "_law_names_here"] (spFound C) := ok_found FD T TC FO bO mO FI bI mI FP bP mP FF bF mF FH bH mH
  refine F.ok scLaw (fun vs H Q E h => ?_) (fun cdv A outer s H vs Q E hr h => ?_)
  · obtain ⟨a, ns, rfl, _⟩ := h; rfl
  · obtain ⟨a, ns, rfl, hS, hl, q⟩ := h
    have nd := scLaw.nd
    have hr2 := hr.mono (show 2 ≤ 4 by decide)
    -- what stands behind all claims
    have REST : ∃ t : TS, PSs (cxOf CX0 P w K mg base NL "law" (defScope sLaw) f cdv A outer s H E).nox ((defBody sLaw).drop 7) t ∧
        ∀ (nl bl kh : Addr) (x kl : Bool → Addr) (zs : List Str) (r : Bool → CR) (ids : Bool → List Nat) (rv kv : Bool → List V) (front many : Nat) (v6 v7 v8 v9 : Option V) (H1 : Hp), LI K C a nl bl kh x kl ns zs r ids rv kv H1 → Ids front many ids → many < 18 → front ≤ 120 → zs.length = 4 → (∀ z0 z1, zs[0]? = some z0 → zs[1]? = some z1 → z0 ≠ z1) →
          t { nx := fun _ H' => Q .non H', rt := Q } [some (.ref a), some (.ref nl), some (.ref bl), some (.ref kh), some (.int (many : Int)), some (.int (front : Int)), v6, v7, v8, v9] H1 := by
      refine ⟨_, (pss_cons (ps_for PassesOwn.never rfl (pi_range1 rfl T.range (pa_cons (pv 4) pa_nil)) (pg_name (i := 6) nd rfl (Or.inl rfl))
        (pss_cons (ps_set (i := 7) nd rfl (Or.inr rfl) (pe_call GY hr (by rfl) mY FY.kp bY .nil pass0 (pa_cons (pv 0) (pa_cons (pv 6) (pa_cons (pv 1) pa_nil)))))
          (pss_one (ps_if (pt_not (pt_val (pe_callB (call_allB rfl) (by rfl) TB.all bt_all (pa_cons (pe_lc (ext := []) lcLaw1 rfl (pi_range1 rfl T.range (pa_cons pe_int pa_nil))
            ⟨fun _ _ _ _ _ => (pg_name (i := 8) ndLaw1 rfl (Or.inl rfl) (.inr rfl)), fun _ _ _ _ _ => pts_nil, fun _ _ _ _ _ => (pe_call GD hr (by rfl) mD FD.kp bD .nil pass0 (pa_cons (pe_ix (ix_list : IxR _ (rIxL K)) (pv 2) (pv 8) (fun _ _ => rfl)) (pa_cons (pe_ix (ix_list : IxR _ (rIxL K)) (pv 3) (pv 8) (fun _ _ => rfl)) (pa_cons (pv 7) (pa_cons (pv 1) pa_nil)))))⟩) pa_nil))))
          (pss_one (ps_ret pe_bl))
          pss_nil))))
        (pss_cons (ps_for PassesOwn.never rfl (pi_list (pe_lst (pa_cons pe_int (pa_cons pe_int (pa_cons (pe_op op_sub (pv 5) pe_int) pa_nil))))) (pg_name (i := 6) nd rfl (Or.inl rfl))
        (pss_one (ps_if (PW.pt (pw_and (pt_chain op_le op_lt pe_int (pv 6) (pv 5)) (pw_and1 (pt_not (pt_val (pe_call GD hr (by rfl) mD FD.kp bD .nil pass0 (pa_cons (pe_ix ix_list (pv 2) pe_int (fun _ _ => rfl)) (pa_cons (pe_ix ix_list (pv 3) pe_int (fun _ _ => rfl)) (pa_cons (pe_ix ix_list (pe_ix ix_list (pv 3) pe_int (fun _ _ => rfl)) (pv 6) (fun _ _ => rfl)) (pa_cons (pv 1) pa_nil))))))))))
          (pss_one (ps_ret pe_bl))
          pss_nil)))
        (pss_one (ps_ret (pe_and (pe_call GK hr (by rfl) mK FK.kp bK .nil pass0 (pa_cons (pe_ix ix_list (pv 2) pe_int (fun _ _ => rfl)) (pa_cons (pe_ix ix_list (pv 3) pe_int (fun _ _ => rfl)) pa_nil))) (pe_one (pe_call GK hr (by rfl) mK FK.kp bK .nil pass0 (pa_cons (pe_ix ix_list (pv 2) pe_int (fun _ _ => rfl)) (pa_cons (pe_ix ix_list (pv 3) pe_int (fun _ _ => rfl)) pa_nil))))))))), ?_⟩
      intro nl bl kh x kl zs r ids rv kv front many v6 v7 v8 v9 H1 hI hIds hmany hfront hz hne
      refine ⟨_, rfl, (many : Int), rfl, by omega, by omega, for_range (lo := 0) (n := (many : Int).toNat) (fun i σ H' => ∃ (v6 v7 v8 v9 : Option V), σ = [some (.ref a), some (.ref nl), some (.ref bl), some (.ref kh), some (.int (many : Int)), some (.int (front : Int)), v6, v7, v8, v9] ∧ LI K C a nl bl kh x kl ns zs r ids rv kv H')
        ⟨_, _, _, _, rfl, hI⟩ ?_ ?_⟩
      · rintro i σ H' hi ⟨v6, v7, v8, v9, rfl, h⟩
        rw [show (0 : Int) + (i : Int) = (i : Int) by omega]
        have hi' : i < many := by omega
        refine ⟨_, rfl, _, rfl, _, rfl, a, nl, i, ns, zs, rfl, h.sc.sq, hl, by omega, h.hn, hz, fun H2 v s2 hv => ?_⟩
        have h2 := h.same s2
        rw [← ct_lo (by omega)] at hv
        refine ⟨2, rfl, by decide, by decide, fun D hD => ?_⟩
        refine lc_rng (lo := 0) (n := 2) (fun k ys σ' H' => (∃ v8, σ' = [none, some (.ref nl), some (.ref bl), some (.ref kh), none, none, none, some v, v8, none]) ∧ Same H2 H' ∧ H' D = some (.lst ys) ∧ ys = (List.replicate k true).map V.bl)
          ⟨⟨_, rfl⟩, same_upd hD, upd_same, rfl⟩ ?_ ?_
        · rintro k ys σ' H3 hk ⟨⟨v8', rfl⟩, s3, hD3, hys⟩
          unfold gName
          refine yes_if ?_
          have h3 := h2.same s3
          obtain ⟨sb, hsb⟩ : ∃ sb, (0 : Int) + (k : Int) = sI sb := two_of (by omega) (by omega)
          rw [hsb]
          refine ⟨_, rfl, _, rfl, bl, _, _, _, rfl, rfl, SqL.of h3.hb, at2 sb, _, rfl, _, rfl, kh, _, _, _, rfl, rfl, SqL.of h3.hk, at2 sb, _, rfl, _, rfl, x sb, kl sb, nl, _, rfl, h3.found hIds (by omega) hz hne (hv.same s3) (.inl (by omega)) sb, fun H4 s4 => ?_⟩
          refine ⟨s4 _ _ hD3, by rw [hys, List.length_map, List.length_replicate, sizeLine_eq]; omega, Beh.of hk ⟨⟨_, rfl⟩, fun e o q => ?_, upd_same, by rw [hys, List.replicate_succ', List.map_append]; rfl⟩⟩
          rw [upd_ne (ne_of_none q hD)]
          exact s4 _ _ (s3 _ _ q)
        · rintro ys σ' H3 ⟨_, s3, hD3, hys⟩
          subst hys
          exact ⟨D, _, rfl, SqL.of hD3, ⟨_, rfl, iteF ⟨_, _, _, _, rfl, h2.same s3⟩⟩⟩
      · rintro σ H' ⟨v6, v7, v8, v9, rfl, h⟩
        refine ⟨_, rfl, _, _, rfl, rfl, by show 3 ≤ sizeLine; rw [sizeLine_eq]; decide, fun D hD => ?_⟩
        have s2 := same_upd (o := .lst [.int 0, .int 64, .int ((front : Int) - 1)]) hD
        have hD2 : upd H' D (.lst [.int 0, .int 64, .int ((front : Int) - 1)]) D = some (.lst [.int 0, .int 64, .int ((front : Int) - 1)]) := upd_same
        generalize upd H' D (.lst [.int 0, .int 64, .int ((front : Int) - 1)]) = H2 at s2 hD2 ⊢
        refine ⟨D, rfl, ⟨_, SqL.of hD2⟩, for_list (xs := [.int 0, .int 64, .int ((front : Int) - 1)]) (fun i σ H'' => ∃ (v6 v7 v8 v9 : Option V), σ = [some (.ref a), some (.ref nl), some (.ref bl), some (.ref kh), some (.int (many : Int)), some (.int (front : Int)), v6, v7, v8, v9] ∧ LI K C a nl bl kh x kl ns zs r ids rv kv H'' ∧ H'' D = some (.lst [.int 0, .int 64, .int ((front : Int) - 1)]))
          ⟨_, _, _, _, rfl, h.same s2, hD2⟩ (fun i σ H'' _ ⟨_, _, _, _, _, _, h⟩ => SqL.of h) ?_ ?_⟩
        · rintro i v σ H'' hi ⟨v6, v7, v8, v9, rfl, h, hD3⟩
          obtain ⟨k, rfl⟩ : ∃ k : Int, v = .int k := by
            have hmem := List.mem_of_getElem? hi
            simp only [List.mem_cons, List.not_mem_nil, or_false] at hmem
            rcases hmem with e | e | e
            · exact ⟨_, e⟩
            · exact ⟨_, e⟩
            · exact ⟨_, e⟩
          refine ⟨_, rfl, _, _, rfl, rfl, _, rfl, ite2 (fun c1 => ?_) (fun c1 => ⟨_, rfl, iteF (iteF ⟨_, _, _, _, rfl, h, hD3⟩)⟩)⟩
          refine ⟨_, rfl, _, _, rfl, rfl, _, rfl, ite2 (fun c2 => ?_) (fun c2 => iteF ⟨_, _, _, _, rfl, h, hD3⟩)⟩
          have k0 : 0 ≤ k := of_decide_eq_true c1
          have k1 : k < (front : Int) := of_decide_eq_true c2
          have hat := hIds.2 k.toNat (by omega)
          obtain ⟨u, hu, hR⟩ := (h.sd false).row (k := k.toNat) (c := ct ns zs (100 + k.toNat)) (by rw [List.getElem?_map, hat]; rfl)
          refine ⟨_, rfl, bl, _, _, _, rfl, rfl, SqL.of h.hb, at2 false, _, rfl, kh, _, _, _, rfl, rfl, SqL.of h.hk, at2 false, _, rfl, kh, _, _, _, rfl, rfl, SqL.of h.hk, at2 false, _, rfl, kl false, _, _, u, rfl, rfl, SqL.of (h.sd false).hk, ?_, _, rfl, x false, kl false, nl, _, rfl, h.found hIds (by omega) hz hne hR (.inr ⟨by omega, by omega⟩) false, fun H4 s4 => ⟨_, rfl, iteF ⟨_, _, _, _, rfl, h.same s4, s4 _ _ hD3⟩⟩⟩
          have := atI_nat hu
          rw [Int.toNat_of_nonneg k0] at this
          exact this
        · rintro σ H'' ⟨v6, v7, v8, v9, rfl, h, hD3⟩
          refine ⟨_, rfl, bl, _, _, _, rfl, rfl, SqL.of h.hb, at2 false, _, rfl, kh, _, _, _, rfl, rfl, SqL.of h.hk, at2 false, x false, kl false, r false, _, rv false, kv false, rfl, h.sd false, ⟨_, rfl, iteT ?_⟩⟩
          exact ⟨_, rfl, bl, _, _, _, rfl, rfl, SqL.of h.hb, at2 true, _, rfl, kh, _, _, _, rfl, rfl, SqL.of h.hk, at2 true, x true, kl true, r true, _, rv true, kv true, rfl, h.sd true, q _⟩
    obtain ⟨tR, hR, hrest⟩ := REST
    -- a turn, once the side is known
    have BODY : ∃ t : TS, PSs (cxOf CX0 P w K mg base NL "law" (defScope sLaw) f cdv A outer s H E).nox ((forBody ((defBody sLaw).getD 6 (.Pass ⟨0, 0, 0, 0⟩))).drop 2) t ∧
        ∀ (D : Ends) (nl bl kh : Addr) (x kl : Bool → Addr) (zs : List Str) (r : Bool → CR) (ids : Bool → List Nat) (rv kv : Bool → List V) (front i : Nat) (sb : Bool) (z : Int) (v : V) (v4 v5 v9 : Option V) (H1 : Hp), z = sI sb → LI K C a nl bl kh x kl ns zs r ids rv kv H1 → Ids front i ids → i < 18 → zs.length = 4 → (∀ z0 z1, zs[0]? = some z0 → zs[1]? = some z1 → z0 ≠ z1) → RowV H1 v (ct ns zs i) →
          (∀ (r : Bool → CR) (ids : Bool → List Nat) (rv kv : Bool → List V) (v9 : Option V) (H2 : Hp), LI K C a nl bl kh x kl ns zs r ids rv kv H2 → Ids front (i + 1) ids → D.nx [some (.ref a), some (.ref nl), some (.ref bl), some (.ref kh), v4, v5, some (.int (i : Int)), some v, some (.int z), v9] H2) →
          t D [some (.ref a), some (.ref nl), some (.ref bl), some (.ref kh), v4, v5, some (.int (i : Int)), some v, some (.int z), v9] H1 := by
      refine ⟨_, (pss_cons (ps_if (pt_not (pt_val (pe_call GD hr (by rfl) mD FD.kp bD .nil pass0 (pa_cons (pe_ix ix_list (pv 2) (pv 8) (fun _ _ => rfl)) (pa_cons (pe_ix ix_list (pv 3) (pv 8) (fun _ _ => rfl)) (pa_cons (pv 7) (pa_cons (pv 1) pa_nil)))))))
        (pss_one (ps_ret pe_bl))
        pss_nil)
        (pss_cons (ps_set (i := 9) nd rfl (Or.inl rfl) (pe_meth (pe_ix ix_list (pv 2) (pv 8) (fun _ _ => rfl)) TC.cl mU GU hr bU .nil pass0 (pa_cons (pe_ix ix_tup (pv 7) pe_int (fun _ _ => rfl)) (pa_cons (pe_ix ix_tup (pv 7) pe_int (fun _ _ => rfl)) (pa_cons (pe_ix ix_tup (pv 7) pe_int (fun _ _ => rfl)) (pa_cons (pe_ix ix_tup (pv 7) pe_int (fun _ _ => rfl)) pa_nil))))))
        (pss_cons (ps_if (PW.pt (pw_or (pt_not (pt_val (pe_call GH hr (by rfl) mH FH.kp bH .nil pass0 (pa_cons (pv 9) pa_nil)))) (pw_or1 (pt_cmpR op_ne (pv 9) (pe_callB call_len_seq (by rfl) T.len bt_len (pa_cons (pe_ix ix_list (pv 3) (pv 8) (fun _ _ => rfl)) pa_nil)) (nomark _)))))
        (pss_one (ps_ret pe_bl))
        pss_nil)
        (pss_cons (ps_expr (pe_bm PySem.F.plainAttrs_list PySem.F.slot_list_append PySem.F.type_list_append mt_append (pe_ix ix_list (pv 3) (pv 8) (fun _ _ => rfl)) (pa_cons (pv 7) pa_nil)))
        (pss_cons (ps_if (pt_not (pt_val (pe_call GD hr (by rfl) mD FD.kp bD .nil pass0 (pa_cons (pe_ix ix_list (pv 2) (pv 8) (fun _ _ => rfl)) (pa_cons (pe_ix ix_list (pv 3) (pv 8) (fun _ _ => rfl)) (pa_cons (pv 7) (pa_cons (pv 1) pa_nil)))))))
        (pss_one (ps_ret pe_bl))
        pss_nil)
        (pss_one (ps_if (pt_not (pt_val (pe_call GD hr (by rfl) mD FD.kp bD .nil pass0 (pa_cons (pe_ix ix_list (pv 2) (pe_op op_sub pe_int (pv 8)) (fun _ _ => rfl)) (pa_cons (pe_ix ix_list (pv 3) (pe_op op_sub pe_int (pv 8)) (fun _ _ => rfl)) (pa_cons (pv 7) (pa_cons (pv 1) pa_nil)))))))
        (pss_one (ps_ret pe_bl))
        pss_nil))))))), ?_⟩
      intro D nl bl kh x kl zs r ids rv kv front i sb z v v4 v5 v9 H1 hzs h hIds hi hz hne hv kk
      subst hzs
      refine ⟨_, rfl, _, rfl, bl, _, _, _, rfl, rfl, SqL.of h.hb, at2 sb, _, rfl, _, rfl, kh, _, _, _, rfl, rfl, SqL.of h.hk, at2 sb, _, rfl, _, rfl, x sb, kl sb, nl, _, rfl, h.found hIds (by omega) hz hne hv (.inl hi) sb, fun H2 s2 => ⟨_, rfl, iteF ?_⟩⟩
      have h2 := h.same s2
      have hv2 := hv.same s2
      obtain ⟨t', m, rfl, ht', hm⟩ := hv2
      have hlen := (hIds.1 sb).2.2
      refine ⟨_, rfl, _, rfl, bl, _, _, _, rfl, rfl, SqL.of h2.hb, at2 sb, x sb, (r sb).dx, _, rfl, (h2.sd sb).cl.ins, rfl, _, rfl, t', _, _, _, rfl, rfl, SqT.of ht', rfl, _, rfl, t', _, _, _, rfl, rfl, SqT.of ht', rfl, _, rfl, t', _, _, _, rfl, rfl, SqT.of ht', rfl, _, rfl, t', _, _, _, rfl, rfl, SqT.of ht', rfl, x sb, (ct ns zs i).n, _, _, (ct ns zs i).b, r sb, _, rv sb, rfl, (h2.sd sb).cl, by rw [rowsOf_len, List.length_map]; omega, fun H4 r' t hC' htn ht hkp hon => ?_⟩
      have hk4 := hkp _ _ (h2.noK sb sb) (h2.sd sb).hk
      have hkh4 := hkp _ _ (h2.nok sb) h2.hk
      refine ⟨_, rfl, _, rfl, ⟨_, rfl, iteF ⟨_, rfl, _, rfl, _, rfl, kh, _, _, _, rfl, rfl, SqL.of hkh4, at2 sb, kl sb, _, rfl, .inl (SqL.of hk4), rfl, false, ?_, iteF ?_⟩⟩⟩
      · rw [(h2.sd sb).klen, rowsOf_len]; simp
      refine ⟨_, rfl, _, rfl, kh, _, _, _, rfl, rfl, SqL.of hkh4, at2 sb, .inl ⟨rfl, _, SqL.of hk4⟩, _, rfl, kl sb, _, _, rfl, rfl, hk4, by rw [(h2.sd sb).klen, List.length_map, sizeLine_eq]; omega, ?_⟩
      have noK' : ¬ Own r' (kl sb) := fun z => by
        rcases hon _ z with w | w
        · exact h2.noK sb sb w
        · rw [(h2.sd sb).hk] at w; cases w
      have tk : ∀ e xs, H2 e = some (.tup xs) → upd H4 (kl sb) (.lst (kv sb ++ [.ref t'])) e = some (.tup xs) := fun e xs qe => by
        rw [upd_ne (kind_ne qe (h2.sd sb).hk (fun z => nomatch z))]
        exact hkp _ _ ((h2.sd sb).cl.noTup qe) qe
      have hC5 : CL C r' (upd H4 (kl sb) (.lst (kv sb ++ [.ref t']))) (x sb) (rowsOf ((ids sb).map (ct ns zs)) ++ [((ct ns zs i).n, (ct ns zs i).b)]) (rv sb ++ [.ref t]) := hC'.off fun e o qe ze => by
        rcases ze with ze | ze | ⟨xs, rfl⟩
        · rw [upd_ne (fun w => noK' (by rw [← w]; exact ze))]; exact qe
        · subst ze
          rw [upd_ne (kind_ne hC'.ins hk4 (fun z => nomatch z))]; exact qe
        · rw [upd_ne (kind_ne qe hk4 (fun z => nomatch z))]; exact qe
      have ht5 : upd H4 (kl sb) (.lst (kv sb ++ [.ref t'])) t = some (.tup [.str (ct ns zs i).n, .int (ct ns zs i).a, .int ((ct ns zs i).b : Int), .ref m]) := by
        rw [upd_ne (kind_ne ht hk4 (fun z => nomatch z))]; exact ht
      have hs5 := (h2.sd sb).put (c := ct ns zs i) tk hC5 ht5 (tk _ _ ht') (tk _ _ hm) upd_same noK'
      have hF : Fr H2 (upd H4 (kl sb) (.lst (kv sb ++ [.ref t']))) (kl sb) (r sb) r' := Fr.put2 (fun _ _ e => e) hkp hon
      have hm' : (ids sb).map (ct ns zs) ++ [ct ns zs i] = (ids sb ++ [i]).map (ct ns zs) := by rw [List.map_append]; rfl
      rw [hm'] at hs5
      have h5 := h2.step sb hs5 hF
      have hI5 := hIds.step hi sb
      have hv5 : RowV (upd H4 (kl sb) (.lst (kv sb ++ [.ref t']))) (.ref t') (ct ns zs i) := ⟨t', m, rfl, tk _ _ ht', tk _ _ hm⟩
      generalize upd H4 (kl sb) (.lst (kv sb ++ [.ref t'])) = H5 at h5 hv5 ⊢
      refine ⟨_, rfl, _, rfl, bl, _, _, _, rfl, rfl, SqL.of h5.hb, at2 sb, _, rfl, _, rfl, kh, _, _, _, rfl, rfl, SqL.of h5.hk, at2 sb, _, rfl, _, rfl, x sb, kl sb, nl, _, rfl, h5.found hI5 (by omega) hz hne hv5 (.inl hi) sb, fun H6 s6 => ⟨_, rfl, iteF ?_⟩⟩
      have h6 := h5.same s6
      refine ⟨_, rfl, _, rfl, _, _, rfl, rfl, bl, _, _, _, rfl, rfl, SqL.of h6.hb, at2n sb, _, rfl, _, rfl, _, _, rfl, rfl, kh, _, _, _, rfl, rfl, SqL.of h6.hk, at2n sb, _, rfl, _, rfl, x (!sb), kl (!sb), nl, _, rfl, h6.found hI5 (by omega) hz hne (hv5.same s6) (.inl hi) (!sb), fun H7 s7 => ⟨_, rfl, iteF ?_⟩⟩
      exact kk _ _ _ _ _ H7 (h6.same s7) hI5
    obtain ⟨tB, hB, hbody⟩ := BODY
    -- behind the claims put ahead
    have REST2 : ∃ t : TS, PSs (cxOf CX0 P w K mg base NL "law" (defScope sLaw) f cdv A outer s H E).nox ((defBody sLaw).drop 6) t ∧
        ∀ (nl bl kh : Addr) (x kl : Bool → Addr) (zs : List Str) (r : Bool → CR) (ids : Bool → List Nat) (rv kv : Bool → List V) (front many : Nat) (H1 : Hp), LI K C a nl bl kh x kl ns zs r ids rv kv H1 → Ids front 0 ids → many < 18 → front ≤ 120 → zs.length = 4 → (∀ z0 z1, zs[0]? = some z0 → zs[1]? = some z1 → z0 ≠ z1) →
          t { nx := fun _ H' => Q .non H', rt := Q } [some (.ref a), some (.ref nl), some (.ref bl), some (.ref kh), some (.int (many : Int)), some (.int (front : Int)), none, none, none, none] H1 := by
      refine ⟨_, (pss_cons (ps_for PassesOwn.never rfl (pi_range1 rfl T.range (pa_cons (pv 4) pa_nil)) (pg_name (i := 6) nd rfl (Or.inl rfl))
        (pss_cons (ps_set (i := 7) nd rfl (Or.inr rfl) (pe_call GY hr (by rfl) mY FY.kp bY .nil pass0 (pa_cons (pv 0) (pa_cons (pv 6) (pa_cons (pv 1) pa_nil)))))
          (pss_cons (ps_set (i := 8) nd rfl (Or.inl rfl) (pe_op op_mod (pe_op op_fdiv (pe_op op_add (pe_call GC hr (by rfl) mC FC.kp bC .nil pass0 (pa_cons (pv 0) (pa_cons pe_int pa_nil))) (pe_op op_mul (pe_op op_mul pe_int (pv 6)) (pv 6))) pe_int) pe_int)) hB))) hR), ?_⟩
      intro nl bl kh x kl zs r ids rv kv front many H1 hI hIds hmany hfront hz hne
      refine ⟨_, rfl, (many : Int), rfl, by omega, by omega, for_range (lo := 0) (n := (many : Int).toNat) (fun i σ H' => ∃ (r : Bool → CR) (ids : Bool → List Nat) (rv kv : Bool → List V) (v6 v7 v8 v9 : Option V), σ = [some (.ref a), some (.ref nl), some (.ref bl), some (.ref kh), some (.int (many : Int)), some (.int (front : Int)), v6, v7, v8, v9] ∧ LI K C a nl bl kh x kl ns zs r ids rv kv H' ∧ Ids front i ids)
        ⟨r, ids, rv, kv, _, _, _, _, rfl, hI, hIds⟩ ?_ ?_⟩
      · rintro i σ H' hi ⟨r, ids, rv, kv, v6, v7, v8, v9, rfl, h, hIds⟩
        rw [show (0 : Int) + (i : Int) = (i : Int) by omega]
        have hi' : i < many := by omega
        refine ⟨_, rfl, _, rfl, _, rfl, a, nl, i, ns, zs, rfl, h.sc.sq, hl, by omega, h.hn, hz, fun H2 v s2 hv => ?_⟩
        have h2 := h.same s2
        rw [← ct_lo (by omega)] at hv
        refine ⟨_, rfl, a, 2, ns, rfl, h2.sc.sq, by decide, by decide, hl, _, rfl, _, _, rfl, rfl, .inl ⟨by decide, by decide⟩, _, rfl, _, _, rfl, rfl, .inr ⟨by show -(2 ^ 64 : Int) < (i : Int); omega, by show (i : Int) < (2 ^ 64 : Int); omega⟩, _, _, rfl, rfl, _, _, rfl, rfl, ⟨by decide, by decide⟩, _, _, rfl, rfl, (by show (0 : Int) < _; decide), ?_⟩
        obtain ⟨sb, hsb⟩ := two_of (Int.emod_nonneg ((cellF ns 2 + 7919 * (i : Int) * (i : Int)) / 3) (show (2 : Int) ≠ 0 by decide)) (Int.emod_lt_of_pos ((cellF ns 2 + 7919 * (i : Int) * (i : Int)) / 3) (show (0 : Int) < 2 by decide))
        exact hbody _ nl bl kh x kl zs r ids rv kv front i sb _ v _ _ _ H2 hsb h2 hIds (by omega) hz hne hv fun r' ids' rv' kv' v9' H3 h3 hI3 => ⟨r', ids', rv', kv', _, _, _, _, rfl, h3, hI3⟩
      · rintro σ H' ⟨r, ids, rv, kv, v6, v7, v8, v9, rfl, h, hIds⟩
        rw [show (many : Int).toNat = many by omega] at hIds
        exact hrest nl bl kh x kl zs r ids rv kv front many v6 v7 v8 v9 H' h hIds hmany hfront hz hne
    obtain ⟨tR2, hR2, hrest2⟩ := REST2
    refine ⟨_, pss_cons (ps_set (i := 1) nd rfl (Or.inr rfl) (pe_call GM hr (by rfl) mM FM.kp bM .nil pass0 (pa_cons (pe_call GC hr (by rfl) mC FC.kp bC .nil pass0 (pa_cons (pv 0) (pa_cons pe_int pa_nil))) (pa_cons pe_int pa_nil))))
      (pss_cons (ps_set (i := 2) nd rfl (Or.inr rfl) (pe_lst (pa_cons (pe_make0 mN GN hr2 (by rfl) TC.mgC bN .nil pass0) (pa_cons (pe_make0 mN GN hr2 (by rfl) TC.mgC bN .nil pass0) pa_nil))))
      (pss_cons (ps_set (i := 3) nd rfl (Or.inr rfl) (pe_lst (pa_cons (pe_lst pa_nil) (pa_cons (pe_lst pa_nil) pa_nil))))
      (pss_cons (ps_set (i := 4) nd rfl (Or.inl rfl) (pe_op op_mod (pe_call GC hr (by rfl) mC FC.kp bC .nil pass0 (pa_cons (pv 0) (pa_cons pe_int pa_nil))) pe_int))
      (pss_cons (ps_set (i := 5) nd rfl (Or.inl rfl) (pe_call GA hr (by rfl) mA FA.kp bA .nil pass0 (pa_cons (pv 0) (pa_cons (pe_ix ix_list (pv 2) pe_int (fun _ _ => rfl)) (pa_cons (pe_ix ix_list (pv 3) pe_int (fun _ _ => rfl)) (pa_cons (pe_ix ix_list (pv 1) pe_int (fun _ _ => rfl)) pa_nil))))))
      (pss_cons (ps_if (pt_cmpR op_gt (pv 5) pe_int (nomark _))
      (pss_one (ps_set (i := 4) nd rfl (Or.inl rfl) (pe_op op_mod (pv 4) pe_int)))
      pss_nil) hR2))))), ?_⟩
    refine ⟨_, rfl, a, 0, ns, rfl, hS, by decide, by decide, hl, _, 4, rfl, by decide, by decide, fun H2 nl zs s2 hnln hnl hzl _ hne => ?_⟩
    have hz : zs.length = 4 := hzl
    -- both
    refine fun x0 dx0 hx0 hdx0 hxd0 => ?_
    have sx0 : Same H2 (upd (upd H2 dx0 (.own x0)) x0 (.ins C dx0 [])) := fun b o e => by rw [upd_ne (ne_of_none e hx0), upd_ne (ne_of_none e hdx0)]; exact e
    refine ⟨x0, dx0, rfl, upd_same, fun H3 r0 hC0 hkeep0 hown0 => ⟨rfl, ?_⟩⟩
    have s3 : Same H2 H3 := fun b o e => hkeep0 b o (ne_of_none e hx0) (sx0 b o e)
    have no0 : ∀ b o, H2 b = some o → ¬ Own r0 b := fun b o e z => by have := hown0 b z; rw [sx0 b o e] at this; cases this
    refine fun x1 dx1 hx1 hdx1 hxd1 => ?_
    have sx1 : Same H3 (upd (upd H3 dx1 (.own x1)) x1 (.ins C dx1 [])) := fun b o e => by rw [upd_ne (ne_of_none e hx1), upd_ne (ne_of_none e hdx1)]; exact e
    refine ⟨x1, dx1, rfl, upd_same, fun H4 r1 hC1 hkeep1 hown1 => ⟨rfl, ?_⟩⟩
    have s4 : Same H3 H4 := fun b o e => hkeep1 b o (ne_of_none e hx1) (sx1 b o e)
    have no1 : ∀ b o, H3 b = some o → ¬ Own r1 b := fun b o e z => by have := hown1 b z; rw [sx1 b o e] at this; cases this
    have hC0' := hC0.same s4
    have nob0 : ∀ b, H4 b = none → ¬ Own r0 b := fun b e z => by obtain ⟨u, hu'⟩ := hC0'.lst z; rw [hu'] at e; cases e
    have nob1 : ∀ b, H4 b = none → ¬ Own r1 b := fun b e z => by obtain ⟨u, hu'⟩ := hC1.lst z; rw [hu'] at e; cases e
    refine ⟨by show 2 ≤ sizeLine; rw [sizeLine_eq]; decide, fun bl hbl => ⟨Nat.zero_le _, fun k0 hk0 => ⟨Nat.zero_le _, fun k1 hk1 => ⟨by show 2 ≤ sizeLine; rw [sizeLine_eq]; decide, fun kh hkh => ?_⟩⟩⟩⟩
    have s5 := same_upd (o := .lst [.ref x0, .ref x1]) hbl
    have s6 := same_upd (o := .lst []) hk0
    have s7 := same_upd (o := .lst []) hk1
    have s8 := same_upd (o := .lst [.ref k0, .ref k1]) hkh
    have back : ∀ {H5 H6 : Hp} {c : Addr}, Same H5 H6 → H6 c = none → H5 c = none := fun {H5 H6 c} s e => by
      cases z : H5 c with
      | none => rfl
      | some o => rw [s _ _ z] at e; cases e
    have k04 : H4 k0 = none := back s5 hk0
    have k14 : H4 k1 = none := back (s5.trans s6) hk1
    have kh4 : H4 kh = none := back ((s5.trans s6).trans s7) hkh
    have fk0 : (upd (upd H4 bl (.lst [.ref x0, .ref x1])) k0 (.lst [])) k0 = some (.lst []) := upd_same
    have n01 : k0 ≠ k1 := fun e => by rw [← e, fk0] at hk1; cases hk1
    have fbl : upd H4 bl (.lst [.ref x0, .ref x1]) bl = some (.lst [.ref x0, .ref x1]) := upd_same
    have nb0 : bl ≠ k0 := ne_of_none fbl hk0
    have nb1 : bl ≠ k1 := ne_of_none (s6 _ _ fbl) hk1
    have nh0 : kh ≠ k0 := fun e => by rw [e, s7 _ _ fk0] at hkh; cases hkh
    have nh1 : kh ≠ k1 := fun e => by rw [e, upd_same] at hkh; cases hkh
    have s48 := ((s5.trans s6).trans s7).trans s8
    have hnl4 := s4 _ _ (s3 _ _ hnl)
    have hsc : Sc K (upd (upd (upd (upd H4 bl (.lst [.ref x0, .ref x1])) k0 (.lst [])) k1 (.lst [])) kh (.lst [.ref k0, .ref k1])) a (fun c => (∃ i, Own (two r0 r1 i) c) ∨ ∃ i, c = two k0 k1 i) (ns.map V.int) := by
      have good : ∀ o, H2 a = some o → ¬ ((∃ i, Own (two r0 r1 i) a) ∨ ∃ i, a = two k0 k1 i) := fun o e z => by
        rcases z with ⟨i, z⟩ | ⟨i, z⟩
        · cases i
          · exact no0 _ _ e z
          · exact no1 _ _ (s3 _ _ e) z
        · cases i
          · have z : a = k0 := z
            rw [← z, s4 _ _ (s3 _ _ e)] at k04; cases k04
          · have z : a = k1 := z
            rw [← z, s4 _ _ (s3 _ _ e)] at k14; cases k14
      have h12 := s2.seq hS
      rcases h12 with h | h
      · rcases h with e | ⟨o, e⟩
        · exact .inr ⟨.inl (s48 _ _ (s4 _ _ (s3 _ _ e))), good _ e⟩
        · exact .inr ⟨.inr ⟨o, s48 _ _ (s4 _ _ (s3 _ _ e))⟩, good _ e⟩
      · exact .inl h
    have hI0 : LI K C a nl bl kh (two x0 x1) (two k0 k1) ns zs (two r0 r1) (fun _ => []) (fun _ => []) (fun _ => []) (upd (upd (upd (upd H4 bl (.lst [.ref x0, .ref x1])) k0 (.lst [])) k1 (.lst [])) kh (.lst [.ref k0, .ref k1])) := by
      refine ⟨fun i => ?_, fun i j c hij zi zj => ?_, fun i j => ?_, fun i j hij e => ?_, hsc, s8 _ _ (s7 _ _ (s6 _ _ fbl)), upd_same, s48 _ _ hnl4, fun i => ?_, fun i => ?_, fun i => ?_, fun i => ?_, fun i => ?_, fun i => ?_⟩
      · cases i
        · exact ⟨hC0'.same s48, s8 _ _ (s7 _ _ fk0), rfl, fun k c e => by simp at e, nob0 _ k04⟩
        · exact ⟨hC1.same s48, s8 _ _ upd_same, rfl, fun k c e => by simp at e, nob1 _ k14⟩
      · have key : ∀ c, Own r0 c → ¬ Own r1 c := fun c z0 z1 => by
          obtain ⟨u, hu⟩ := hC0.lst z0
          exact no1 _ _ hu z1
        cases i <;> cases j
        · exact hij rfl
        · exact key _ zi zj
        · exact key _ zj zi
        · exact hij rfl
      · cases i <;> cases j
        · exact nob0 _ k04
        · exact nob0 _ k14
        · exact nob1 _ k04
        · exact nob1 _ k14
      · cases i <;> cases j
        · exact hij rfl
        · exact n01 e
        · exact n01 e.symm
        · exact hij rfl
      · cases i
        · exact nob0 _ hbl
        · exact nob1 _ hbl
      · cases i
        · exact nob0 _ kh4
        · exact nob1 _ kh4
      · cases i
        · exact no0 _ _ hnl
        · exact no1 _ _ (s3 _ _ hnl)
      · cases i
        · exact nb0
        · exact nb1
      · cases i
        · exact nh0
        · exact nh1
      · cases i
        · exact ne_of_none hnl4 k04
        · exact ne_of_none hnl4 k14
    generalize upd (upd (upd (upd H4 bl (.lst [.ref x0, .ref x1])) k0 (.lst [])) k1 (.lst [])) kh (.lst [.ref k0, .ref k1]) = H8 at hI0 ⊢
    clear hsc
    have g0 := Int.emod_nonneg (cellF ns 1) (show (18 : Int) ≠ 0 by decide)
    have g1 := Int.emod_lt_of_pos (cellF ns 1) (show (0 : Int) < 18 by decide)
    refine ⟨_, rfl, a, 1, ns, rfl, hI0.sc.sq, by decide, by decide, hl, _, _, rfl, rfl, (by show (0 : Int) < _; decide), ?_⟩
    refine ⟨_, rfl, _, rfl, bl, _, _, _, rfl, rfl, SqL.of hI0.hb, at2 (p := two x0 x1) false, _, rfl, kh, _, _, _, rfl, rfl, SqL.of hI0.hk, at2 (p := two k0 k1) false, _, rfl, nl, _, _, _, rfl, rfl, SqL.of hI0.hn, zs_get (i := 3) (by decide) (by rw [hz]; decide), a, two x0 x1 false, two k0 k1 false, two r0 r1 false, ns, zs, rfl, hI0.sd false, hI0.sc.keep (fun o n e => ⟨e, fun z => ?_⟩), hl, fun H9 r' rv' kv' front hfront hS9 hF9 => ?_⟩
    · rcases z with z | z
      · exact n (.inl ⟨false, z⟩)
      · exact n (.inr ⟨false, z⟩)
    have h9 := hI0.step false hS9 hF9
    have hIds : Ids front 0 (setB (fun _ => []) false (idsA front)) := by
      refine ⟨fun s' => ?_, fun k hk => ?_⟩
      · by_cases hs : s' = false
        · subst hs
          rw [setB_same]
          refine ⟨fun j hj => ?_, idsA_nodup _, by rw [idsA_len]; omega⟩
          have := idsA_mem hj
          exact ⟨.inr ⟨by omega, by omega⟩, fun z => by omega⟩
        · rw [setB_ne hs]
          exact ⟨(fun j hj => nomatch hj), List.nodup_nil, Nat.zero_le _⟩
      · rw [setB_same]; exact idsA_at hk
    refine ⟨_, rfl, _, _, rfl, rfl, _, rfl, ite2 (fun _ => ?_) (fun _ => ?_)⟩
    · refine ⟨_, rfl, _, _, rfl, rfl, (by show (0 : Int) < _; decide), ?_⟩
      have k0' := Int.emod_nonneg (cellF ns 1 % 18) (show (4 : Int) ≠ 0 by decide)
      have k1' := Int.emod_lt_of_pos (cellF ns 1 % 18) (show (0 : Int) < 4 by decide)
      have h := hrest2 nl bl kh _ _ zs _ _ _ _ front (cellF ns 1 % 18 % 4).toNat H9 h9 hIds (by omega) hfront hz hne
      rw [Int.toNat_of_nonneg k0'] at h
      exact h
    · have h := hrest2 nl bl kh _ _ zs _ _ _ _ front (cellF ns 1 % 18).toNat H9 h9 hIds (by omega) hfront hz hne
      rw [Int.toNat_of_nonneg g0] at h
      exact h
end
end K25

set_option Elab.async false
set_option linter.all false
set_option maxRecDepth 100000
set_option maxHeartbeats 4000000
namespace K25
open PySem L2
/-! ### what the top has written; the law's head -/
theorem all_mk {l : PySem.W.OpenLaw} {w : World} {K : PySem.W.Frag} {h : Heap} {mg : Str → Option Value} {fa gC fO fI fL fC fH fM fY fA fK fD fZ fN fU fP fF : Addr} (X : K.In h) (G : h.Ns mainGlobals mg) (hfa : mg "law" = some (.ref fa))
    {odO anO odI anI odL anL odC anC odH anH odM anM odY anY odA anA odK anK odD anD odZ anZ odN anN odU anU odP anP odF anF : Option Addr} {slO slI slL slC slH slM slY slA slK slD slZ slN slU slP slF : Array (Option Value)} {ocO kVO dcO pmO cdO ctO ocI kVI dcI pmI cdI ctI ocL kVL dcL pmL cdL ctL ocC kVC dcC pmC cdC ctC ocH kVH dcH pmH cdH ctH ocM kVM dcM pmM cdM ctM ocY kVY dcY pmY cdY ctY ocA kVA dcA pmA cdA ctA ocK kVK dcK pmK cdK ctK ocD kVD dcD pmD cdD ctD ocZ kVZ dcZ pmZ cdZ ctZ ocN kVN dcN pmN cdN ctN ocU kVU dcU pmU cdU ctU ocP kVP dcP pmP cdP ctP ocF kVF dcF pmF cdF ctF : Value}
    (qG : PySem.W.nsIn K mainGlobals "Claims" = some (some (.ref gC)))
    (aO : PySem.W.nsIn K mainGlobals "told" = some (some (.ref fO)))
    (lO : K.lookup fO = some ⟨ocO, odO, .func (PySem.W.fnOf "told" "told" (defArgs sTold) (defBody sTold) (defScope sTold) .none kVO dcO pmO anO cdO ctO), slO⟩)
    (cO : PySem.W.codeIn K cdO "told" = true)
    (kO : PySem.W.keepIn K (.ref fO) = true)
    (aI : PySem.W.nsIn K mainGlobals "within" = some (some (.ref fI)))
    (lI : K.lookup fI = some ⟨ocI, odI, .func (PySem.W.fnOf "within" "within" (defArgs sWithin) (defBody sWithin) (defScope sWithin) .none kVI dcI pmI anI cdI ctI), slI⟩)
    (cI : PySem.W.codeIn K cdI "within" = true)
    (kI : PySem.W.keepIn K (.ref fI) = true)
    (aL : PySem.W.nsIn K mainGlobals "last_of" = some (some (.ref fL)))
    (lL : K.lookup fL = some ⟨ocL, odL, .func (PySem.W.fnOf "last_of" "last_of" (defArgs sLast) (defBody sLast) (defScope sLast) .none kVL dcL pmL anL cdL ctL), slL⟩)
    (cL : PySem.W.codeIn K cdL "last_of" = true)
    (kL : PySem.W.keepIn K (.ref fL) = true)
    (aC : PySem.W.nsIn K mainGlobals "_law_cell" = some (some (.ref fC)))
    (lC : K.lookup fC = some ⟨ocC, odC, .func (PySem.W.fnOf "_law_cell" "_law_cell" (defArgs sCell) (defBody sCell) (defScope sCell) .none kVC dcC pmC anC cdC ctC), slC⟩)
    (cC : PySem.W.codeIn K cdC "_law_cell" = true)
    (kC : PySem.W.keepIn K (.ref fC) = true)
    (aH : PySem.W.nsIn K mainGlobals "_law_whole" = some (some (.ref fH)))
    (lH : K.lookup fH = some ⟨ocH, odH, .func (PySem.W.fnOf "_law_whole" "_law_whole" (defArgs sWhole) (defBody sWhole) (defScope sWhole) .none kVH dcH pmH anH cdH ctH), slH⟩)
    (cH : PySem.W.codeIn K cdH "_law_whole" = true)
    (kH : PySem.W.keepIn K (.ref fH) = true)
    (aM : PySem.W.nsIn K mainGlobals "_law_names" = some (some (.ref fM)))
    (lM : K.lookup fM = some ⟨ocM, odM, .func (PySem.W.fnOf "_law_names" "_law_names" (defArgs sNames) (defBody sNames) (defScope sNames) .none kVM dcM pmM anM cdM ctM), slM⟩)
    (cM : PySem.W.codeIn K cdM "_law_names" = true)
    (kM : PySem.W.keepIn K (.ref fM) = true)
    (aY : PySem.W.nsIn K mainGlobals "_law_claim" = some (some (.ref fY)))
    (lY : K.lookup fY = some ⟨ocY, odY, .func (PySem.W.fnOf "_law_claim" "_law_claim" (defArgs sClaim) (defBody sClaim) (defScope sClaim) .none kVY dcY pmY anY cdY ctY), slY⟩)
    (cY : PySem.W.codeIn K cdY "_law_claim" = true)
    (kY : PySem.W.keepIn K (.ref fY) = true)
    (aA : PySem.W.nsIn K mainGlobals "_law_ahead" = some (some (.ref fA)))
    (lA : K.lookup fA = some ⟨ocA, odA, .func (PySem.W.fnOf "_law_ahead" "_law_ahead" (defArgs sAhead) (defBody sAhead) (defScope sAhead) .none kVA dcA pmA anA cdA ctA), slA⟩)
    (cA : PySem.W.codeIn K cdA "_law_ahead" = true)
    (kA : PySem.W.keepIn K (.ref fA) = true)
    (aK : PySem.W.nsIn K mainGlobals "_law_kept" = some (some (.ref fK)))
    (lK : K.lookup fK = some ⟨ocK, odK, .func (PySem.W.fnOf "_law_kept" "_law_kept" (defArgs sKept) (defBody sKept) (defScope sKept) .none kVK dcK pmK anK cdK ctK), slK⟩)
    (cK : PySem.W.codeIn K cdK "_law_kept" = true)
    (kK : PySem.W.keepIn K (.ref fK) = true)
    (aD : PySem.W.nsIn K mainGlobals "_law_found" = some (some (.ref fD)))
    (lD : K.lookup fD = some ⟨ocD, odD, .func (PySem.W.fnOf "_law_found" "_law_found" (defArgs sFound) (defBody sFound) (defScope sFound) .none kVD dcD pmD anD cdD ctD), slD⟩)
    (cD : PySem.W.codeIn K cdD "_law_found" = true)
    (kD : PySem.W.keepIn K (.ref fD) = true)
    (aZ : PySem.W.nsIn K mainGlobals "law" = some (some (.ref fZ)))
    (lZ : K.lookup fZ = some ⟨ocZ, odZ, .func (PySem.W.fnOf "law" "law" (defArgs sLaw) (defBody sLaw) (defScope sLaw) .none kVZ dcZ pmZ anZ cdZ ctZ), slZ⟩)
    (cZ : PySem.W.codeIn K cdZ "law" = true)
    (kZ : PySem.W.keepIn K (.ref fZ) = true)
    (aN : PySem.W.findIn K (.ref gC) "__init__" = some (some (.ref fN)))
    (lN : K.lookup fN = some ⟨ocN, odN, .func (PySem.W.fnOf "__init__" "Claims.__init__" (defArgs sCInit) (defBody sCInit) (defScope sCInit) .none kVN dcN pmN anN cdN ctN), slN⟩)
    (cN : PySem.W.codeIn K cdN "Claims.__init__" = true)
    (kN : PySem.W.keepIn K (.ref fN) = true)
    (iN : PySem.W.isFn K (.ref fN) = true)
    (aU : PySem.W.findIn K (.ref gC) "put" = some (some (.ref fU)))
    (lU : K.lookup fU = some ⟨ocU, odU, .func (PySem.W.fnOf "put" "Claims.put" (defArgs sCPut) (defBody sCPut) (defScope sCPut) .none kVU dcU pmU anU cdU ctU), slU⟩)
    (cU : PySem.W.codeIn K cdU "Claims.put" = true)
    (kU : PySem.W.keepIn K (.ref fU) = true)
    (iU : PySem.W.isFn K (.ref fU) = true)
    (aP : PySem.W.findIn K (.ref gC) "open_to" = some (some (.ref fP)))
    (lP : K.lookup fP = some ⟨ocP, odP, .func (PySem.W.fnOf "open_to" "Claims.open_to" (defArgs sCOpen) (defBody sCOpen) (defScope sCOpen) .none kVP dcP pmP anP cdP ctP), slP⟩)
    (cP : PySem.W.codeIn K cdP "Claims.open_to" = true)
    (kP : PySem.W.keepIn K (.ref fP) = true)
    (iP : PySem.W.isFn K (.ref fP) = true)
    (aF : PySem.W.findIn K (.ref gC) "claim_of" = some (some (.ref fF)))
    (lF : K.lookup fF = some ⟨ocF, odF, .func (PySem.W.fnOf "claim_of" "Claims.claim_of" (defArgs sCOf) (defBody sCOf) (defScope sCOf) .none kVF dcF pmF anF cdF ctF), slF⟩)
    (cF : PySem.W.codeIn K cdF "Claims.claim_of" = true)
    (kF : PySem.W.keepIn K (.ref fF) = true)
    (iF : PySem.W.isFn K (.ref fF) = true)
    (mkC : PySem.W.makesIn K gC = true)
    (kcC : PySem.W.keepIn K (.ref gC) = true)
    (pgC : PySem.W.plainGet K gC Str.empty = true)
    (hdC : PySem.W.hasDictIn K gC = true)
    (poC : PySem.W.plainOver K gC = true)
    (saC : PySem.W.findIn K (.ref gC) "__setattr__" = some (some (.builtin "object.__setattr__")))
    (nRC : PySem.W.findIn K (.ref gC) "rows" = some none)
    (nBC : PySem.W.findIn K (.ref gC) "by_last" = some none)
    (z0 : PySem.W.nsIn K mainGlobals "len" = some none)
    (z1 : PySem.W.nsIn K mainGlobals "range" = some none)
    (z2 : PySem.W.nsIn K mainGlobals "isinstance" = some none)
    (z3 : PySem.W.nsIn K mainGlobals "int" = some none)
    (z4 : PySem.W.nsIn K mainGlobals "bool" = some none)
    (z5 : PySem.W.nsIn K mainGlobals "any" = some none)
    (z6 : PySem.W.nsIn K mainGlobals "sum" = some none)
    (z7 : PySem.W.nsIn K mainGlobals "list" = some none)
    (z8 : PySem.W.nsIn K mainGlobals "sorted" = some none)
    (z9 : PySem.W.nsIn K mainGlobals "tuple" = some none)
    (z10 : PySem.W.nsIn K mainGlobals "all" = some none)
    : ∃ fd : FuncData, (∀ (s : Shared) (v : Value), BindsTo s fd ⟨[v], []⟩ [("_law_script", v)]) ∧ ∀ base : Heap, K.In base → base.Ns mainGlobals mg → FnOk l.prog w K mg base CX0 5 fa fd ["_law_script"] (spLaw K) := by
  have e := hfa.symm.trans (PySem.W.mg_of X G aZ)
  cases e
  have T : Txt mg := ⟨PySem.W.mg_none_of X G z0, PySem.W.mg_none_of X G z1, PySem.W.mg_none_of X G z2, PySem.W.mg_none_of X G z3, PySem.W.mg_none_of X G z4, PySem.W.mg_none_of X G z5, PySem.W.mg_none_of X G z6⟩
  have TC : ClT K mg gC := ⟨⟨pgC, hdC, poC, saC⟩, nRC, nBC, PySem.W.mg_of X G qG, PySem.W.mg_none_of X G z0, PySem.W.mg_none_of X G z7, PySem.W.mg_none_of X G z8⟩
  have TB : TxB mg := ⟨PySem.W.mg_none_of X G z9, PySem.W.mg_none_of X G z10⟩
  have FO := fun_mk (st := sTold) lO cO kO
  have bO := FO.binds (ps := ["bits"]) fun _ _ _ _ _ _ us hl => match us, hl with | [_], _ => rfl
  have FI := fun_mk (st := sWithin) lI cI kI
  have bI := FI.binds (ps := ["one", "other"]) fun _ _ _ _ _ _ us hl => match us, hl with | [_, _], _ => rfl
  have FL := fun_mk (st := sLast) lL cL kL
  have bL := FL.binds (ps := ["bits"]) fun _ _ _ _ _ _ us hl => match us, hl with | [_], _ => rfl
  have FC := fun_mk (st := sCell) lC cC kC
  have bC := FC.binds (ps := ["_law_script", "_law_k"]) fun _ _ _ _ _ _ us hl => match us, hl with | [_, _], _ => rfl
  have FH := fun_mk (st := sWhole) lH cH kH
  have bH := FH.binds (ps := ["_law_found_here"]) fun _ _ _ _ _ _ us hl => match us, hl with | [_], _ => rfl
  have FM := fun_mk (st := sNames) lM cM kM
  have bM := FM.binds (ps := ["_law_cell_here", "_law_many"]) fun _ _ _ _ _ _ us hl => match us, hl with | [_, _], _ => rfl
  have FY := fun_mk (st := sClaim) lY cY kY
  have bY := FY.binds (ps := ["_law_script", "_law_k", "_law_names_here"]) fun _ _ _ _ _ _ us hl => match us, hl with | [_, _, _], _ => rfl
  have FA := fun_mk (st := sAhead) lA cA kA
  have bA := FA.binds (ps := ["_law_script", "_law_claims", "_law_rows", "_law_name"]) fun _ _ _ _ _ _ us hl => match us, hl with | [_, _, _, _], _ => rfl
  have FK := fun_mk (st := sKept) lK cK kK
  have bK := FK.binds (ps := ["_law_claims", "_law_rows"]) fun _ _ _ _ _ _ us hl => match us, hl with | [_, _], _ => rfl
  have FD := fun_mk (st := sFound) lD cD kD
  have bD := FD.binds (ps := ["_law_claims", "_law_rows", "_law_row", "_law_names_here"]) fun _ _ _ _ _ _ us hl => match us, hl with | [_, _, _, _], _ => rfl
  have FZ := fun_mk (st := sLaw) lZ cZ kZ
  have FN := fun_mk (st := sCInit) lN cN kN
  have bN := FN.binds (ps := ["self"]) fun _ _ _ _ _ _ us hl => match us, hl with | [_], _ => rfl
  have FU := fun_mk (st := sCPut) lU cU kU
  have bU := FU.binds (ps := ["self", "name", "at", "bits", "meaning"]) fun _ _ _ _ _ _ us hl => match us, hl with | [_, _, _, _, _], _ => rfl
  have FP := fun_mk (st := sCOpen) lP cP kP
  have bP := FP.binds (ps := ["self", "name", "bits"]) fun _ _ _ _ _ _ us hl => match us, hl with | [_, _, _], _ => rfl
  have FF := fun_mk (st := sCOf) lF cF kF
  have bF := FF.binds (ps := ["self", "name", "bits"]) fun _ _ _ _ _ _ us hl => match us, hl with | [_, _, _], _ => rfl
  exact ⟨PySem.W.fnOf "law" "law" (defArgs sLaw) (defBody sLaw) (defScope sLaw) .none kVZ dcZ pmZ anZ cdZ ctZ, fun s v => .of_eq rfl, fun base _ _ => ok_law FZ T TC TB FO bO (PySem.W.mg_of X G aO) FI bI (PySem.W.mg_of X G aI) FL bL (PySem.W.mg_of X G aL) FN bN ⟨mkC, aN, iN, kcC⟩ FU bU ⟨aU, iU, kU⟩ FP bP ⟨aP, iP, kP⟩ FF bF ⟨aF, iF, kF⟩ FC bC (PySem.W.mg_of X G aC) FH bH (PySem.W.mg_of X G aH) FM bM (PySem.W.mg_of X G aM) FY bY (PySem.W.mg_of X G aY) FA bA (PySem.W.mg_of X G aA) FK bK (PySem.W.mg_of X G aK) FD bD (PySem.W.mg_of X G aD)⟩
theorem walk {l : PySem.W.OpenLaw} {q : Program} {loose : List Str} {XP : (Str → Option Value) → Heap → Prop} {YP : World → Heap → Prop} {d : DefRec} {K : Params → PySem.W.Frag} (hn : l.most = some 63) (hdf : d.params.defaults = [])
    (hY : ∀ (w : World) (h : Heap), YP w h → (K w.params).In h)
    (F : ∀ (w : World) (mg : Str → Option Value) (fa : Addr) (h : Heap), (K w.params).In h → h.Ns mainGlobals mg → mg d.name = some (.ref fa) →
      ∃ fd : FuncData, (∀ (s : Shared) (u : Value), BindsTo s fd ⟨[u], []⟩ [("_law_script", u)]) ∧ ∀ base : Heap, (K w.params).In base → base.Ns mainGlobals mg → FnOk l.prog w (K w.params) mg base CX0 5 fa fd ["_law_script"] (spLaw (K w.params))) :
    PySem.W.WalkO q loose XP YP l.row.toRowW d [] (fun f vs => PySem.call f vs) :=
  L2.walk_of (n := 63) (k := 5) (x := "_law_script") (CX := fun _ => CX0) (sp := fun w => spLaw (K w.params)) hn (by decide) hdf ⟨rfl, by decide, by decide⟩ hY F (fun _ _ a ns hl _ hS => ⟨a, ns, rfl, hS, hl, fun _ => rfl⟩) fun _ _ _ _ _ z => z
end K25
open PySem PySem.W PyProof.Rows
set_option maxRecDepth 100000 in
set_option maxHeartbeats 0 in
theorem PySem.Challenge.cw_macrohouse_k25_claims_kept_holds : PySem.Challenge.rw_macrohouse_k25_claims_kept.Holds := by
  w_on; o_law; k_head; (case hw => w_witness2)
  k_fill
  refine K25.walk (l := PySem.Challenge.rw_macrohouse_k25_claims_kept) rfl rfl (fun w h Y => PySem.W.kIn_of Y) ?F
  case F =>
    intro w mg fa h KX G hmg
    refine' K25.all_mk KX G hmg ?qG ?aO ?lO ?cO ?kO ?aI ?lI ?cI ?kI ?aL ?lL ?cL ?kL ?aC ?lC ?cC ?kC ?aH ?lH ?cH ?kH ?aM ?lM ?cM ?kM ?aY ?lY ?cY ?kY ?aA ?lA ?cA ?kA ?aK ?lK ?cK ?kK ?aD ?lD ?cD ?kD ?aZ ?lZ ?cZ ?kZ ?aN ?lN ?cN ?kN ?iN ?aU ?lU ?cU ?kU ?iU ?aP ?lP ?cP ?kP ?iP ?aF ?lF ?cF ?kF ?iF ?mkC ?kcC ?pgC ?hdC ?poC ?saC ?nRC ?nBC ?z0 ?z1 ?z2 ?z3 ?z4 ?z5 ?z6 ?z7 ?z8 ?z9 ?z10
    (case qG => k_is); (case aO => k_is); (case lO => k_is); (case cO => k_is); (case kO => k_is); (case aI => k_is)
    (case lI => k_is); (case cI => k_is); (case kI => k_is); (case aL => k_is); (case lL => k_is); (case cL => k_is)
    (case kL => k_is); (case aC => k_is); (case lC => k_is); (case cC => k_is); (case kC => k_is); (case aH => k_is)
    (case lH => k_is); (case cH => k_is); (case kH => k_is); (case aM => k_is); (case lM => k_is); (case cM => k_is)
    (case kM => k_is); (case aY => k_is); (case lY => k_is); (case cY => k_is); (case kY => k_is); (case aA => k_is)
    (case lA => k_is); (case cA => k_is); (case kA => k_is); (case aK => k_is); (case lK => k_is); (case cK => k_is)
    (case kK => k_is); (case aD => k_is); (case lD => k_is); (case cD => k_is); (case kD => k_is); (case aZ => k_is)
    (case lZ => k_is); (case cZ => k_is); (case kZ => k_is); (case aN => k_is); (case lN => k_is); (case cN => k_is)
    (case kN => k_is); (case iN => k_is); (case aU => k_is); (case lU => k_is); (case cU => k_is); (case kU => k_is)
    (case iU => k_is); (case aP => k_is); (case lP => k_is); (case cP => k_is); (case kP => k_is); (case iP => k_is)
    (case aF => k_is); (case lF => k_is); (case cF => k_is); (case kF => k_is); (case iF => k_is); (case mkC => k_is)
    (case kcC => k_is); (case pgC => k_is); (case hdC => k_is); (case poC => k_is); (case saC => k_is); (case nRC => k_is)
    (case nBC => k_is); (case z0 => k_is); (case z1 => k_is); (case z2 => k_is); (case z3 => k_is); (case z4 => k_is)
    (case z5 => k_is); (case z6 => k_is); (case z7 => k_is); (case z8 => k_is); (case z9 => k_is); (case z10 => k_is)
#print axioms PySem.Challenge.cw_macrohouse_k25_claims_kept_holds
