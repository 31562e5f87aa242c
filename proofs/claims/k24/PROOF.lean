import PyProof.Rows.All
import PyProof.FactsAll.NoneType_1
import Wide.All
import OpenK.AllK
import Wide.FinOn
import Lean
import PyProof.EqAt
import PyProof.EqKinds
import PyProof.TupleCall
import PyProof.SetScanFacts
import PyProof.SetKind
import PyProof.DictStraight
import PyProof.DictIter
import PyProof.Seq
import PyProof.CollectWalk
import PyProof.MakeMany
import PyProof.Rows.SetFrom
import PyProof.Rows.SortShell
import PyProof.ListRange
import PyProof.SetRoads
import PyProof.NeKinds
import PyProof.SumAny
import PyProof.Rows.RuleM_int
import PyProof.ZipIter
import PyProof.EnumFor
import PyProof.EnumMake
import PyProof.EnumStmt
import PyProof.MinMaxWalk
import PyProof.Rows.CallKwBuiltin
import PyProof.ListMulAny
import PyProof.StrBlockH
import PyProof.StrWalks
import PyProof.StrLawsReplace
import PyProof.StrLawsTight
import PyProof.StrLawsChain
import PyProof.StrLawsIn
import PyProof.StrOps2
import PyProof.StrCalls6
import PyProof.ToksMono
import PyProof.Rows.StrNews
import PyProof.StrLawsJoin
import PyProof.DictUpdate
import OpenK.KMake
import PyProof.ExcInit
import PyProof.ExcArgsOwn
import PyProof.RulesAs
import PyProof.StationsW
import PyProof.ExcBaseAll.ValueError
import PyProof.NsDelKeeps
import PySem.Challenge.RW_macrohouse_k24_two_claims
set_option Elab.async false
set_option linter.all false
set_option maxRecDepth 100000
/-! THE HAND LAYER, for ints, bools, texts, own classes, LISTS and tuples (index, slices, in, append, pop ..), calls, loops. Paste it whole ahead of your own text; what your proof does not reach may be deleted. -/
namespace L2
open PySem PySem.Spec PyProof.Rows

theorem hash_none {prog : Program} {w : World} {A : Around} {E : Value → Shared → Prop} {s : Shared} {Q : Int → Shared → Prop} (h : Q 0xFCA86420 { s with toks := s.toks + 1 }) : wpAny (model prog w) A (pyHash .none) Q E s := by
  have hT : s.TypeIs .none "NoneType" := rfl
  unfold pyHash
  have hv : [Value.none].any Value.onHeap = false := rfl
  refine wpAny_bind ?_
  rw [cRoomFor, if_neg (by rw [hv]; exact Bool.false_ne_true)]
  refine wpAny_pure ?_
  refine wpAny_bind (wpAny_specialOf hT PySem.F.slot_NoneType_hash.lookup ?_)
  show wpAny _ _ (if (some (Value.builtin "NoneType.__hash__") == some Value.none) = true then _ else _) Q E s
  rw [if_neg (by rw [beq_builtin_none]; exact Bool.false_ne_true)]
  refine wpAny_bind (wpAny_specialOf hT PySem.F.slot_NoneType_hash.lookup ?_)
  show wpAny _ _ (callSpecialIfBoundUnlessNone? .none "__hash__" _ >>= _) Q E s
  refine wpAny_bind (wpAny_callSpecialIfBoundUnlessNone?_slot hT PySem.F.slot_NoneType_hash (wpAny_call_entry PySem.F.slot_NoneType_hash hT PySem.F.entry_NoneType_hash (show wpAny _ _ (retInt 0xFCA86420) _ _ s from wpAny_ret_mkInt ?_) (PySem.F.args_NoneType_hash_1 _)))
  show wpAny _ _ (if (decide (-(2 : Int) ^ 63 ≤ 0xFCA86420) && decide ((0xFCA86420 : Int) < 2 ^ 63)) = true then _ else _) Q E _
  rw [if_pos (by decide)]
  exact wpAny_pure h
theorem eqb_none {prog : Program} {w : World} {A : Around} {E : Value → Shared → Prop} {s : Shared} {Q : Bool → Shared → Prop} (h : Q true s) : wpAny (model prog w) A (eqBool .none .none) Q E s := by
  exact SeqAt.EqAt.same _ _ _ _ _ h
/-- a key: None, an int or a str -/
abbrev Key := Sum (Option Int) Str
def keyIs : Key → Value → Bool
  | .inl none, v => v == Value.none
  | .inl (some k), v => Value.isInt k v
  | .inr x, v => Value.isStrOf x v
def keyH (w : World) : Key → Int
  | .inl none => 0xFCA86420
  | .inl (some k) => hashInt k
  | .inr x => hashStr w x
theorem keyIs_shape : ∀ {k : Key} {v : Value}, keyIs k v = true → (k = Sum.inl none ∧ v = Value.none) ∨ (∃ i t, k = Sum.inl (some i) ∧ v = Value.int i t) ∨ (∃ x t, k = Sum.inr x ∧ v = Value.str x t)
  | .inl none, v, h => .inl ⟨rfl, eq_of_beq h⟩
  | .inl (some i), v, h => by
    obtain ⟨t, e⟩ := Value.isInt_shape (k := i) (v := v) h
    exact .inr (.inl ⟨i, t, rfl, e⟩)
  | .inr x, v, h => by
    obtain ⟨t, e⟩ := Value.isStrOf_shape (x := x) (v := v) h
    exact .inr (.inr ⟨x, t, rfl, e⟩)
theorem keyIs_int (i : Int) (t : Tok) : keyIs (.inl (some i)) (.int i t) = true := by simp [keyIs, Value.isInt]
theorem keyIs_str (x : Str) (t : Tok) : keyIs (.inr x) (.str x t) = true := by simp [keyIs, Value.isStrOf]
theorem keyIs_none : keyIs (.inl none) .none = true := rfl
theorem key_ne {a b : Key} (h : a ≠ b) : decide (a = b) = false := decide_eq_false h
theorem key_ll (a b : Int) : decide ((Sum.inl (some a) : Key) = Sum.inl (some b)) = (a == b) := by
  by_cases e : a = b
  · subst e; simp
  · rw [key_ne fun q => e (Option.some.inj (Sum.inl.inj q))]
    exact (beq_eq_false_iff_ne.mpr e).symm
theorem key_rr (a b : Str) : decide ((Sum.inr a : Key) = Sum.inr b) = decide (a = b) := by
  by_cases e : a = b
  · subst e; simp
  · rw [key_ne fun q => e (Sum.inr.inj q), decide_eq_false e]
def mixKind (prog : Program) (w : World) : PySem.KeyKind prog w Key where
  is := keyIs
  hash := keyH w
  inj := fun v a b ha hb => by
    rcases keyIs_shape ha with ⟨rfl, rfl⟩ | ⟨i, t, rfl, rfl⟩ | ⟨x, t, rfl, rfl⟩ <;> rcases keyIs_shape hb with ⟨rfl, e⟩ | ⟨j, u, rfl, e⟩ | ⟨y, u, rfl, e⟩
    · rfl
    · exact nomatch e
    · exact nomatch e
    · exact nomatch e
    · injection e with e1 _; rw [e1]
    · exact nomatch e
    · exact nomatch e
    · exact nomatch e
    · injection e with e1 _; rw [e1]
  byValue := fun k v h => by
    rcases keyIs_shape h with ⟨rfl, rfl⟩ | ⟨i, t, rfl, rfl⟩ | ⟨x, t, rfl, rfl⟩ <;> rfl
  pyHash := fun hv h => by
    rcases keyIs_shape hv with ⟨rfl, rfl⟩ | ⟨i, t, rfl, rfl⟩ | ⟨x, t, rfl, rfl⟩
    · exact hash_none h
    · exact wpAny_pyHash_int h
    · exact wpAny_pyHash_str h
  eqBool := fun hu hv h => by
    rcases keyIs_shape hu with ⟨rfl, rfl⟩ | ⟨i, t, rfl, rfl⟩ | ⟨x, t, rfl, rfl⟩ <;> rcases keyIs_shape hv with ⟨rfl, rfl⟩ | ⟨j, u, rfl, rfl⟩ | ⟨y, u, rfl, rfl⟩
    · exact eqb_none h
    · rw [key_ne] at h
      · exact SeqAt.EqAt.none_int j u _ _ _ _ h
      · intro q; cases q
    · rw [key_ne] at h
      · exact SeqAt.EqAt.none_str y u _ _ _ _ h
      · intro q; cases q
    · rw [key_ne] at h
      · exact SeqAt.EqAt.int_none i t _ _ _ _ h
      · intro q; cases q
    · rw [key_ll] at h; exact wpAny_eqBool_int h
    · rw [key_ne] at h
      · exact SeqAt.EqAt.int_str i t y u _ _ _ _ h
      · intro q; cases q
    · rw [key_ne] at h
      · exact SeqAt.EqAt.str_none x t _ _ _ _ h
      · intro q; cases q
    · rw [key_ne] at h
      · exact SeqAt.EqAt.str_int x t j u _ _ _ _ h
      · intro q; cases q
    · rw [key_rr] at h; exact wpAny_eqBool_str h
  «strs» := fun k x t v h => by
    rcases keyIs_shape h with ⟨rfl, e⟩ | ⟨i, u, rfl, e⟩ | ⟨y, u, rfl, e⟩
    · exact nomatch e
    · exact nomatch e
    · injection e with e1 _
      subst e1
      cases v <;> rfl

theorem mixKind_none (prog : Program) (w : World) : (mixKind prog w).is (.inl none) .none = true := keyIs_none
theorem mixKind_int (prog : Program) (w : World) (i : Int) (t : Tok) : (mixKind prog w).is (.inl (some i)) (.int i t) = true := keyIs_int i t
theorem mixKind_str (prog : Program) (w : World) (x : Str) (t : Tok) : (mixKind prog w).is (.inr x) (.str x t) = true := keyIs_str x t
end L2

namespace L2
open PySem PySem.Spec PyProof.Rows

/-- a value, without the heap -/
inductive V where
  | non | bl (b : Bool) | int (i : Int) | str (x : Str) | byt (b : Array UInt8) | flt (b : UInt64) | ref (a : Addr) | ty (n : String)
  deriving DecidableEq

def RelV : V → Value → Prop
  | .non, u => u = Value.none
  | .bl b, u => u = Value.bool b
  | .int i, u => ∃ t, u = Value.int i t
  | .str x, u => ∃ t, u = Value.str x t
  | .byt b, u => ∃ t, u = Value.bytes b t
  | .flt b, u => ∃ t, u = Value.float b t
  | .ref a, u => u = Value.ref a
  | .ty n, u => u = Value.type n

abbrev Vals : List V → List Value → Prop := Paired RelV
theorem Vals.length {xs : List V} {us : List Value} (r : Vals xs us) : xs.length = us.length := Paired.length r
theorem Vals.get : ∀ {xs : List V} {us : List Value} {i : Nat} {x : V}, Vals xs us → xs[i]? = some x → ∃ u, us[i]? = some u ∧ RelV x u
  | _, _, _, _, .nil, e => by simp at e
  | _, _, 0, _, .cons r _, e => by simp at e; subst e; exact ⟨_, rfl, r⟩
  | _, _, i + 1, x, .cons _ t, e => by
    obtain ⟨u, h1, h2⟩ := Vals.get (i := i) (x := x) t (by simpa using e)
    exact ⟨u, by simpa using h1, h2⟩
theorem Vals.append : ∀ {xs ys : List V} {us ws : List Value}, Vals xs us → Vals ys ws → Vals (xs ++ ys) (us ++ ws)
  | _, _, _, _, .nil, s => s
  | _, _, _, _, .cons r t, s => .cons r (Vals.append t s)

def RelO : Option V → Option Value → Prop
  | some v, some u => RelV v u
  | none, none => True
  | _, _ => False
def KV {κ : Type} : List (κ × V) → List (κ × Value) → Prop := Paired fun (p : κ × V) (q : κ × Value) => p.1 = q.1 ∧ RelV p.2 q.2

/-- a key of a dict (00_mix): an int or a text -/
def kV : Key → V
  | .inl none => .non
  | .inl (some i) => .int i
  | .inr x => .str x

/-- what stands at a tracked address -/
inductive HO where
  /-- a list -/
  | lst (xs : List V)
  /-- a tuple (never changes) -/
  | tup (xs : List V)
  /-- a dict whose keys are ints and texts; one whose keys are tuples of ints and texts (the empty one is both) -/
  | dK (kvs : List (Key × V)) | dT (kvs : List (List Key × V))
  /-- a set of ints: its members, its size -/
  | set (S : Int → Bool) (n : Nat)
  /-- an instance of the class at C, its dict at dx, its attributes -/
  | ins (C dx : Addr) (fs : List (Str × V))
  /-- the dict of the instance at x -/
  | own (x : Addr)
  /-- the dict of an exception -/
  | xd (fs : List (Str × V))
  /-- a bound method, f of x -/
  | met (f x : Addr)
  /-- a range object lo, lo + 1, .. below hi -/
  | rng (lo hi : Int)
  /-- a thing that is known to the object (the script; a dict while a loop walks it): read, never written while it is so -/
  | frz (o : Obj) (u : HO)
  /-- a code object's table -/
  | tbl (ps : Array Value)
  /-- any other thing, by what is true of its one object (a def of one's own: SetO a S n := HO.ext fun h => ..) -/
  | ext (φ : Heap → Prop)

abbrev Hp := Addr → Option HO
def upd (H : Hp) (a : Addr) (o : HO) : Hp := fun b => if b = a then some o else H b
theorem upd_same {H : Hp} {a : Addr} {o : HO} : upd H a o a = some o := by unfold upd; rw [if_pos rfl]
theorem upd_ne {H : Hp} {a b : Addr} {o : HO} (h : b ≠ a) : upd H a o b = H b := by unfold upd; rw [if_neg h]
theorem upd_upd {H : Hp} {a : Addr} {o u : HO} : upd (upd H a o) a u = upd H a u := by
  funext b; unfold upd; split <;> rfl
theorem ne_of_none {H : Hp} {a b : Addr} {o : HO} (h : H a = some o) (h' : H b = none) : a ≠ b := by
  intro e; subst e; rw [h] at h'; cases h'

section
variable (P : Program) (w : World)
def ObjOk (H : Hp) (h : Heap) (a : Addr) : HO → Prop
  | .lst xs => xs.length ≤ sizeLine ∧ ∃ (its : List Value) (n : Nat), Vals xs its ∧ h.get? a = some { cls := .type "list", data := .seq its.toArray n }
  | .tup xs => xs.length ≤ sizeLine ∧ ∃ its : List Value, Vals xs its ∧ IsTup h a its.toArray
  | .dK kvs => kvs.length ≤ sizeLine ∧ (a == sysModules) = false ∧ ∃ vs, KV kvs vs ∧ h.DictOf (mixKind P w) a vs
  | .dT kvs => kvs.length ≤ sizeLine ∧ (a == sysModules) = false ∧ ∃ xs : List (List Key × Addr × Value),
      Paired (fun (p : List Key × V) (q : List Key × Addr × Value) => p.1 = q.1 ∧ H q.2.1 = some (.tup (p.1.map kV)) ∧ RelV p.2 q.2.2) kvs xs ∧
      ∃ o es ep, h.get? a = some o ∧ o.ExactDict ∧ o.data = .dict es ep ∧ es.toList = xs.map (entryOfKey (tupleKind (mixKind P w))) ∧ (xs.map (·.1)).Nodup
  | .set S n => h.SetOf (intKind P w) a S n
  | .ins C dx fs => H dx = some (.own a) ∧ fs.length ≤ 1000 ∧ dx ≠ a ∧ h.get? a = some (PySem.W.instObj C dx) ∧
      ∃ mA, h.Ns1 dx mA ∧ (∀ f, RelO (fs.lookup f) (mA f)) ∧ PySem.Within mA (fs.map (·.1))
  | .own _ => ∃ o, h.get? a = some o
  | .xd fs => ∃ mA, h.Ns1 a mA ∧ ∀ f, RelO (fs.lookup f) (mA f)
  | .rng lo hi => ∃ t u v, h.get? a = some { cls := .type "range", data := .fields #[.int lo t, .int hi u, .int 1 v] }
  | .frz o u => h.get? a = some o ∧ ObjOk H h a u
  | .tbl ps => h.get? a = some { cls := .none, data := .fields ps }
  | .met f x => h.get? a = some (PySem.W.methodObj (.ref f) (.ref x))
  | .ext φ => φ h ∧ (∃ o, h.get? a = some o) ∧ ∀ h1 h2 : Heap, φ h1 → (∀ o, h1.get? a = some o → h2.get? a = some o) → φ h2
/-- the abstract heap is held -/
def HOk (H : Hp) (h : Heap) : Prop := ∀ a o, H a = some o → ObjOk P w H h a o
end

section
variable {P : Program} {w : World} {H H' : Hp} {h h' : Heap} {a : Addr} {o : HO}
theorem ObjOk.lt (x : ObjOk P w H h a o) : a < h.objs.size := by
  cases o with
  | lst xs => obtain ⟨_, _, _, _, e⟩ := x; exact Heap.lt_size e
  | tup xs => obtain ⟨_, _, _, p⟩ := x; exact p.lt
  | dK kvs => obtain ⟨_, _, _, _, o, _, _, e, _⟩ := x; exact Heap.lt_size e
  | dT kvs => obtain ⟨_, _, _, _, o, _, _, e, _⟩ := x; exact Heap.lt_size e
  | set S n => obtain ⟨o, _, _, _, e, _⟩ := x; exact Heap.lt_size e
  | ins C dx fs => obtain ⟨_, _, _, e, _⟩ := x; exact Heap.lt_size e
  | own y => obtain ⟨_, e⟩ := x; exact Heap.lt_size e
  | xd fs => obtain ⟨_, ⟨_, _, _, e, _⟩, _⟩ := x; exact Heap.lt_size e
  | rng lo hi => obtain ⟨_, _, _, e⟩ := x; exact Heap.lt_size e
  | frz ob u => obtain ⟨e, _⟩ := x; exact Heap.lt_size e
  | tbl ps => exact Heap.lt_size (show h.get? a = some _ from x)
  | met f y => exact Heap.lt_size (show h.get? a = some _ from x)
  | ext φ => obtain ⟨_, ⟨_, e⟩, _⟩ := x; exact Heap.lt_size e
theorem Paired.mapP {α β : Type} {F G : α → β → Prop} : ∀ {l₁ : List α} {l₂ : List β}, Paired F l₁ l₂ → (∀ a b, F a b → G a b) → Paired G l₁ l₂
  | _, _, .nil, _ => .nil
  | _, _, .cons r t, f => .cons (f _ _ r) (Paired.mapP t f)
/-- what an object's description leans on: its own object, its own dict, the tuples -/
theorem ObjOk.stay (x : ObjOk P w H h a o) (k : ∀ b u, (b = a ∨ H b = some (.own a)) → h.get? b = some u → h'.get? b = some u)
    (ho : ∀ b, H b = some (.own a) → H' b = some (.own a)) (ht : ∀ b xs, H b = some (.tup xs) → H' b = some (.tup xs)) : ObjOk P w H' h' a o := by
  induction o with
  | lst xs => obtain ⟨z, its, n, r, e⟩ := x; exact ⟨z, its, n, r, k _ _ (.inl rfl) e⟩
  | tup xs => obtain ⟨z, its, r, ob, e, c⟩ := x; exact ⟨z, its, r, ob, k _ _ (.inl rfl) e, c⟩
  | dK kvs => obtain ⟨z, y, vs, r, ob, es, ep, e, c⟩ := x; exact ⟨z, y, vs, r, ob, es, ep, k _ _ (.inl rfl) e, c⟩
  | dT kvs =>
    obtain ⟨z, y, xs, r, ob, es, ep, e, c⟩ := x
    exact ⟨z, y, xs, Paired.mapP r fun p q z => ⟨z.1, ht _ _ z.2.1, z.2.2⟩, ob, es, ep, k _ _ (.inl rfl) e, c⟩
  | set S n => obtain ⟨ob, es, ep, t, e, c⟩ := x; exact ⟨ob, es, ep, t, k _ _ (.inl rfl) e, c⟩
  | ins C dx fs =>
    obtain ⟨d, z, ne, e, mA, ⟨od, es, ep, e2, c⟩, r⟩ := x
    exact ⟨ho _ d, z, ne, k _ _ (.inl rfl) e, mA, ⟨od, es, ep, k _ _ (.inr d) e2, c⟩, r⟩
  | own y => obtain ⟨ob, e⟩ := x; exact ⟨ob, k _ _ (.inl rfl) e⟩
  | xd fs => obtain ⟨mA, ⟨od, es, ep, e, c⟩, r⟩ := x; exact ⟨mA, ⟨od, es, ep, k _ _ (.inl rfl) e, c⟩, r⟩
  | rng lo hi => obtain ⟨t, u, v, e⟩ := x; exact ⟨t, u, v, k _ _ (.inl rfl) e⟩
  | frz ob u ih => obtain ⟨e, q⟩ := x; exact ⟨k _ _ (.inl rfl) e, ih q⟩
  | tbl ps =>
    have e : h.get? a = some { cls := .none, data := .fields ps } := x
    show h'.get? a = some { cls := .none, data := .fields ps }
    exact k a _ (.inl rfl) e
  | met f y =>
    have e : h.get? a = some (PySem.W.methodObj (.ref f) (.ref y)) := x
    show h'.get? a = some (PySem.W.methodObj (.ref f) (.ref y))
    exact k a _ (.inl rfl) e
  | ext φ => obtain ⟨p, ⟨o, e⟩, st⟩ := x; exact ⟨st _ _ p fun o q => k _ _ (.inl rfl) q, ⟨o, k _ _ (.inl rfl) e⟩, st⟩
theorem HOk.lt (x : HOk P w H h) (e : H a = some o) : a < h.objs.size := (x a o e).lt
theorem HOk.fresh (x : HOk P w H h) (e : h.objs.size ≤ a) : H a = none := by
  cases q : H a with
  | none => rfl
  | some u => exact absurd (Nat.lt_of_lt_of_le (x.lt q) e) (Nat.lt_irrefl _)
/-- every object of the heap is kept -/
theorem HOk.kept (x : HOk P w H h) (k : ∀ b u, h.get? b = some u → h'.get? b = some u) : HOk P w H h' := fun a o e =>
  (x a o e).stay (fun b u _ q => k b u q) (fun _ q => q) fun _ _ q => q
/-- a new object is laid and tracked -/
theorem HOk.laid (x : HOk P w H h) (k : ∀ b u, h.get? b = some u → h'.get? b = some u) (hp : h.objs.size ≤ a) (new : ObjOk P w (upd H a o) h' a o) : HOk P w (upd H a o) h' := fun b u e => by
  have hn := x.fresh hp
  by_cases hb : b = a
  · subst hb; rw [upd_same] at e; cases e; exact new
  · rw [upd_ne hb] at e
    exact (x b u e).stay (fun c v _ q => k c v q) (fun c q => by rw [upd_ne (ne_of_none q hn)]; exact q) fun c xs q => by rw [upd_ne (ne_of_none q hn)]; exact q
end

/-- what may be read as u: it is u, or a known u -/
def Rd (H : Hp) (a : Addr) (u : HO) : Prop := H a = some u ∨ ∃ o, H a = some (.frz o u)
theorem Rd.ok {P : Program} {w : World} {H : Hp} {h : Heap} {a : Addr} {u : HO} (r : Rd H a u) (x : HOk P w H h) : ObjOk P w H h a u := by
  rcases r with r | ⟨o, r⟩
  · exact x a u r
  · obtain ⟨_, q⟩ := x a _ r
    exact q
/-- what may be written -/
def Mut : Option HO → Prop
  | some (.lst _) => True
  | some (.dK _) => True
  | some (.dT _) => True
  | some (.set _ _) => True
  | some (.ins _ _ _) => True
  | some (.ext _) => True
  | _ => False
section
variable {P : Program} {w : World} {H : Hp} {h h' : Heap} {x e : Addr} {o' : HO}
/-- the object at e is changed: x itself, or the dict of the instance x -/
theorem HOk.write (ok : HOk P w H h) (mu : Mut (H x)) (he : e = x ∨ H e = some (.own x)) (k : ∀ b u, b ≠ e → h.get? b = some u → h'.get? b = some u) (heo : ∃ u, h'.get? e = some u)
    (new : ObjOk P w (upd H x o') h' x o') : HOk P w (upd H x o') h' := fun b u q => by
  have nown : ∀ c y, H c = some (.own y) → c ≠ x := fun c y r z => by subst z; rw [r] at mu; exact mu
  have ntup : ∀ c xs, H c = some (.tup xs) → c ≠ x := fun c xs r z => by subst z; rw [r] at mu; exact mu
  by_cases hb : b = x
  · subst hb; rw [upd_same] at q; cases q; exact new
  · rw [upd_ne hb] at q
    by_cases hbe : b = e
    · have q' : H b = some (.own x) := by
        rcases he with z | z
        · exact absurd (hbe.trans z) hb
        · rw [hbe]; exact z
      rw [q] at q'; cases q'
      obtain ⟨v, hv⟩ := heo
      exact ⟨v, by rw [hbe]; exact hv⟩
    · refine (ok b u q).stay (fun c v hc r => k c v ?_ r) (fun c r => by rw [upd_ne (nown c b r)]; exact r) fun c xs r => by rw [upd_ne (ntup c xs r)]; exact r
      rcases hc with rfl | hc
      · exact hbe
      · rintro rfl
        rcases he with z | z
        · exact nown c b hc z
        · rw [hc] at z; cases z; exact hb rfl
end

/-! ### kept unless tracked; of the frames at fs (the callers') the slots may change (an exception that passes writes there); of the records at ex (iterators) nothing is said -/
structure Un (fs ex : List Addr) (H H' : Hp) (h h' : Heap) : Prop where
  keep : ∀ b o, h.get? b = some o → H b = none → b ∉ fs → b ∉ ex → h'.get? b = some o
  slot : ∀ b o, h.get? b = some o → H b = none → b ∈ fs → b ∉ ex → ∃ sl, h'.get? b = some { o with slots := sl }
  free : ∀ b o, h.get? b = some o → H b = none → b ∉ ex → H' b = none
  there : ∀ b o, h.get? b = some o → b ∉ ex → ∃ o', h'.get? b = some o'
  tups : ∀ b xs, H b = some (.tup xs) → H' b = some (.tup xs)
  frzs : ∀ b o u, H b = some (.frz o u) → H' b = some (.frz o u)
  tbls : ∀ b ps, H b = some (.tbl ps) → ∃ more, H' b = some (.tbl (ps ++ more))
section
variable {fs fs' ex ex' : List Addr} {H H1 H2 : Hp} {h h1 h2 h' : Heap} {a x e : Addr} {o : HO}
theorem Un.any (u : Un fs ex H H1 h h1) {b : Addr} {ob : Obj} (q : h.get? b = some ob) (n : H b = none) (hx : b ∉ ex) : ∃ sl, h1.get? b = some { ob with slots := sl } := by
  by_cases hb : b ∈ fs
  · exact u.slot b ob q n hb hx
  · exact ⟨ob.slots, u.keep b ob q n hb hx⟩
theorem Un.kept (k : ∀ b u, h.get? b = some u → h'.get? b = some u) : Un fs ex H H h h' :=
  ⟨fun b ob q _ _ _ => k b ob q, fun b ob q _ _ _ => ⟨ob.slots, k b ob q⟩, fun _ _ _ n _ => n, fun b ob q _ => ⟨ob, k b ob q⟩, fun _ _ q => q, fun _ _ _ q => q, fun _ ps q => ⟨#[], by rw [q]; simp⟩⟩
theorem Un.refl : Un fs ex H H h h := Un.kept fun _ _ q => q
theorem Un.laid (k : ∀ b u, h.get? b = some u → h'.get? b = some u) (hp : h.objs.size ≤ a) (hn : H a = none) : Un fs ex H (upd H a o) h h' where
  keep := fun b u q _ _ _ => k b u q
  slot := fun b u q _ _ _ => ⟨u.slots, k b u q⟩
  free := fun b u q n _ => by rw [upd_ne (Nat.ne_of_lt (Nat.lt_of_lt_of_le (Heap.lt_size q) hp))]; exact n
  there := fun b u q _ => ⟨u, k b u q⟩
  tups := fun b xs q => by rw [upd_ne (ne_of_none q hn)]; exact q
  frzs := fun b u xs q => by rw [upd_ne (ne_of_none q hn)]; exact q
  tbls := fun b ps q => ⟨#[], by rw [upd_ne (ne_of_none q hn), q]; simp⟩
theorem Un.write (mu : Mut (H x)) (he : e = x ∨ H e = some (.own x)) (k : ∀ b u, b ≠ e → h.get? b = some u → h'.get? b = some u) (heo : ∃ u, h'.get? e = some u) : Un fs ex H (upd H x o) h h' := by
  have hx : ∀ b, H b = none → b ≠ x := fun b n z => by subst z; rw [n] at mu; exact mu
  have hb : ∀ b, H b = none → b ≠ e := fun b n z => by
    subst z
    rcases he with r | r
    · exact hx b n r
    · rw [n] at r; cases r
  have hm : ∀ b u, H b = some u → ¬ Mut (some u) → b ≠ x := fun b u q nm z => by subst z; rw [q] at mu; exact nm mu
  refine ⟨fun b u q n _ _ => k b u (hb b n) q, fun b u q n _ _ => ⟨u.slots, k b u (hb b n) q⟩, fun b u q n _ => by rw [upd_ne (hx b n)]; exact n, fun b u q _ => ?_,
    fun b xs q => by rw [upd_ne (hm b _ q fun z => z)]; exact q, fun b u xs q => by rw [upd_ne (hm b _ q fun z => z)]; exact q, fun b ps q => ⟨#[], by rw [upd_ne (hm b _ q fun z => z), q]; simp⟩⟩
  by_cases hbe : b = e
  · subst hbe; exact heo
  · exact ⟨u, k b u hbe q⟩
end

/-! ### the heap without what is tracked -/
def trk (h : Heap) (H : Hp) : List Addr := (List.range h.objs.size).filter fun a => (H a).isSome
def hidT (h : Heap) (H : Hp) : Heap := PySem.W.hideAll h (trk h H)
theorem hidT_size (h : Heap) (H : Hp) : (hidT h H).objs.size = h.objs.size := PySem.W.hideAll_size _ _
theorem hidT_get {h : Heap} {H : Hp} {b : Addr} {o : Obj} (e : h.get? b = some o) (n : H b = none) : (hidT h H).get? b = some o :=
  PySem.W.hideAll_get _ e fun hm => by
    have q : (H b).isSome = true := (List.mem_filter.mp hm).2
    rw [n] at q; simp at q
theorem of_hidT {h : Heap} {H : Hp} {b : Addr} {o : Obj} (e : (hidT h H).get? b = some o) : h.get? b = some o ∧ H b = none := by
  have e' : h.get? b = some o := PySem.W.of_hideAll (trk h H) e
  refine ⟨e', ?_⟩
  cases q : H b with
  | none => rfl
  | some x =>
    have hm : b ∈ trk h H := List.mem_filter.mpr ⟨List.mem_range.mpr (Heap.lt_size e'), by simp [q]⟩
    have z : (hidT h H).get? b = none := PySem.W.hideAll_none (trk h H) hm
    rw [z] at e; cases e

/-! ### OpenK's ledger, filled with every new object but one -/
def allNews (g h : Heap) (L : Addr) : List (Addr × Obj) := (List.range h.objs.size).filterMap fun a => if a = L ∨ (g.get? a).isSome = true then none else (h.get? a).map fun o => (a, o)
def rest (g h : Heap) (L d : Addr) : List (Addr × Obj) := (allNews g h L).filter fun p => decide (p.1 ≠ d)
end L2

namespace L2
open PySem PySem.Spec PyProof.Rows

/-- the module's facts, over the base: the heap at the law's entry without what is tracked there -/
structure Mod (K : PySem.W.Frag) (mg : Str → Option Value) (base : Heap) : Prop where
  kin : K.In base
  glob : base.Ns mainGlobals mg
  blt : ∃ mb, base.Ns builtinsNs mb ∧ ∀ x : Str, x ≠ "__name__" → mb x = bootBuiltins x
  nolimit : base.NoLimit

/-- the context: a def's body (or a comprehension's block) running. base: fixed through the whole law; s₀, H₀: the entry; outer: the frames whose slots others may change (a def's callers); stack: all frames that run;
   ex: iterators that were made ahead of the entry and are walked here (a comprehension's); fn: the names whose cells were made at the entry (a def: all; a comprehension's block: its own); calm: not within an except suite; pn: pins that every state bears; xe: what is wanted of an exception that leaves the code -/
structure Cx where
  prog : Program
  w : World
  K : PySem.W.Frag
  mg : Str → Option Value
  base : Heap
  A : Around
  N : List Str
  s₀ : Shared
  H₀ : Hp
  env : Env
  outer : List Env
  stack : List Env
  ex : List Addr
  fn : Str → Bool
  calm : Bool
  pn : List (Addr × Obj)
  xe : Value → Shared → Prop
/-- the callers' frames -/
def frs (l : List Env) : List Addr := l.filterMap (·.frame)
abbrev Cx.fs (X : Cx) : List Addr := frs X.outer

def Vis (sc : Scope) (x : Str) : Prop := sc.names.lookup x = some .local ∨ sc.names.lookup x = some .cell ∨ sc.names.lookup x = some .free
def Loc (sc : Scope) (x : Str) : Prop := sc.names.lookup x = some .local ∨ sc.names.lookup x = some .cell
def Look (env : Env) (h : Heap) (m : Str → Option Value) (x : Str) (u : Value) : Prop :=
  (env.kindOf x = some .local ∧ m x = some u) ∨ ((env.kindOf x = some .cell ∨ env.kindOf x = some .free) ∧ ∃ c, env.cells.lookup x = some c ∧ h.IsCell c (some u))

structure Cx.Ok (X : Cx) : Prop where
  mod : Mod X.K X.mg X.base
  kind : X.env.scope.kind = .function
  glob : X.env.globals = mainGlobals
  blt : X.env.builtins = builtinsNs
  above : X.s₀.heap.objs.size ≤ X.env.locals
  inj : ∀ x y c, X.env.cells.lookup x = some c → X.env.cells.lookup y = some c → x = y
  has : ∀ x, (X.env.kindOf x = some .cell ∨ X.env.kindOf x = some .free) → ∃ c, X.env.cells.lookup x = some c
  cab : ∀ x c, X.fn x = true → X.env.cells.lookup x = some c → X.s₀.heap.objs.size ≤ c
  hd : X.calm = true → X.A.handled = none
  frames : X.A.frames = some X.stack
  stk : X.stack = X.outer ∨ (X.stack = X.env :: X.outer ∧ X.env.frame = some X.env.locals)
  exf : ∀ b ∈ X.ex, b ≠ X.env.locals ∧ ∀ x c, X.env.cells.lookup x = some c → c ≠ b
  bs : ∀ b o, X.base.get? b = some o → X.s₀.heap.get? b = some o ∧ X.H₀ b = none
  bsz : X.base.objs.size ≤ X.s₀.heap.objs.size
  noex : ∀ b o, X.base.get? b = some o → b ∉ X.ex
  exfs : ∀ b ∈ X.ex, b ∉ X.fs
  funs : X.s₀.heap.FunFrames X.base X.outer
  frf : ∀ b ∈ X.fs, X.H₀ b = none

structure Inv (X : Cx) (pins : List (Addr × Obj)) (σ : List (Option V)) (H : Hp) (s : Shared) : Prop where
  ok : X.Ok
  os : s.os = X.s₀.os
  bare : AllBare s.gens
  base : Un X.fs X.ex X.H₀ H X.s₀.heap s.heap
  loc : ∃ m, s.heap.Ns X.env.locals m ∧ ∀ (i : Nat) (x : Str) (v : V), X.N[i]? = some x → σ[i]? = some (some v) → Vis X.env.scope x → ∃ u, RelV v u ∧ Look X.env s.heap m x u
  cell : ∀ x c, X.env.cells.lookup x = some c → ∃ v, s.heap.IsCell c v
  free : H X.env.locals = none
  freeC : ∀ x c, X.env.cells.lookup x = some c → H c = none
  pin : ∀ p ∈ X.pn ++ pins, s.heap.get? p.1 = some p.2 ∧ H p.1 = none ∧ p.1 ≠ X.env.locals ∧ p.1 ∉ X.fs ∧ ∀ v, p.2.data ≠ .cell v
  hok : HOk X.prog X.w H s.heap
  len : σ.length = X.N.length

section
variable {X : Cx} {pins : List (Addr × Obj)} {σ : List (Option V)} {H H' : Hp} {s : Shared} {h' : Heap}

theorem Cx.Ok.nofr (ok : X.Ok) {b : Addr} {o : Obj} (e : X.base.get? b = some o) : b ∉ X.fs := fun hb => by
  have := (ok.funs.mem hb).1
  rw [e] at this; cases this
theorem Inv.bs (I : Inv X pins σ H s) : ∀ b o, X.base.get? b = some o → s.heap.get? b = some o ∧ H b = none := fun b o e =>
  ⟨I.base.keep b o (I.ok.bs b o e).1 (I.ok.bs b o e).2 (I.ok.nofr e) (I.ok.noex b o e), I.base.free b o (I.ok.bs b o e).1 (I.ok.bs b o e).2 (I.ok.noex b o e)⟩
theorem Inv.bk (I : Inv X pins σ H s) : ∀ b o, X.base.get? b = some o → s.heap.get? b = some o := fun b o e => (I.bs b o e).1
theorem Inv.mod (I : Inv X pins σ H s) : Mod X.K X.mg X.base := I.ok.mod
theorem Inv.kIn (I : Inv X pins σ H s) : X.K.In s.heap := I.ok.mod.kin.keeps I.bk
/-- the frame over the base: for OpenK's rules (K.In X.base is I.mod.kin) -/
theorem Inv.fr (I : Inv X pins σ H s) : ∃ m, Fr X.base X.env.locals s.heap m :=
  let ⟨m, hn, _⟩ := I.loc
  ⟨m, hn, I.bk, Nat.le_trans I.ok.bsz I.ok.above⟩
theorem Inv.lt (I : Inv X pins σ H s) : X.env.locals < s.heap.objs.size := let ⟨_, hn, _⟩ := I.loc; hn.lt
theorem Inv.sz (I : Inv X pins σ H s) : X.s₀.heap.objs.size ≤ s.heap.objs.size := Nat.le_trans I.ok.above (Nat.le_of_lt I.lt)
theorem Inv.nofs (I : Inv X pins σ H s) {a : Addr} (h : s.heap.objs.size ≤ a) : a ∉ X.fs := fun hb => by
  obtain ⟨_, o, ho, _⟩ := I.ok.funs.mem hb
  exact absurd (Nat.lt_of_lt_of_le (Heap.lt_size ho) (Nat.le_trans I.sz h)) (Nat.lt_irrefl _)
theorem Inv.cne (I : Inv X pins σ H s) : ∀ x c, X.env.cells.lookup x = some c → c ≠ X.env.locals := fun x c e z => by
  obtain ⟨v, o, ho, hd⟩ := I.cell x c e
  obtain ⟨m, ⟨o', es, ep, ho', hd', _⟩, _⟩ := I.loc
  rw [z, ho'] at ho; cases ho; rw [hd'] at hd; cases hd
theorem Inv.funs (I : Inv X pins σ H s) : s.heap.FunFrames X.base X.outer := by
  have all : ∀ (l : List Env), (∀ b ∈ frs l, b ∈ X.fs) → X.s₀.heap.FunFrames X.base l → s.heap.FunFrames X.base l := by
    intro l
    induction l with
    | nil => intro _ _; trivial
    | cons env r ih =>
      intro hs hl
      obtain ⟨hk, ⟨L, o, hf, hn, ho, hd⟩, hr⟩ := hl
      have hL : L ∈ X.fs := hs L (by unfold frs; rw [List.filterMap_cons, hf]; exact List.mem_cons_self)
      obtain ⟨sl, e⟩ := I.base.slot L o ho (I.ok.frf L hL) hL fun z => I.ok.exfs L z hL
      exact ⟨hk, ⟨L, _, hf, hn, e, hd⟩, ih (fun b hb => hs b (by unfold frs; rw [List.filterMap_cons, hf]; exact List.mem_cons_of_mem _ hb)) hr⟩
  exact all X.outer (fun _ hb => hb) I.ok.funs

/-- the frames that run, for a call -/
theorem Inv.stack (I : Inv X pins σ H s) : s.heap.FunFrames X.base X.stack := by
  rcases I.ok.stk with e | ⟨e, hf⟩
  · rw [e]; exact I.funs
  · rw [e]
    obtain ⟨m, hn, _⟩ := I.loc
    refine .cons (by rw [I.ok.kind]; decide) hf hn ?_ I.funs
    exact Heap.get?_none_of_le (Nat.le_trans I.ok.bsz I.ok.above)
theorem Inv.stkSub (I : Inv X pins σ H s) : ∀ b ∈ frs X.stack, b ∈ X.env.locals :: X.fs := fun b hb => by
  rcases I.ok.stk with e | ⟨e, hf⟩
  · rw [e] at hb; exact List.mem_cons_of_mem _ hb
  · rw [e] at hb
    unfold frs at hb
    rw [List.filterMap_cons, hf] at hb
    exact hb
theorem Inv.stkFree (I : Inv X pins σ H s) : ∀ b ∈ frs X.stack, H b = none := fun b hb => by
  rcases List.mem_cons.mp (I.stkSub b hb) with e | hb
  · rw [e]; exact I.free
  · obtain ⟨_, o, ho, _⟩ := I.ok.funs.mem hb
    exact I.base.free b o ho (I.ok.frf b hb) fun z => I.ok.exfs b z hb

/-- THE STEP: the untracked objects but the frame and the records at ch are kept (the callers' frames up to slots), the frame's map is kept, the new abstract heap is held -/
theorem Inv.step {g' : Array GenState} {t' : Nat} {d' : Drawn} {ch : List Addr} (I : Inv X pins σ H s)
    (hch : ∀ b ∈ ch, (b ∈ X.ex ∨ X.s₀.heap.objs.size ≤ b) ∧ b ≠ X.env.locals ∧ (∀ x c, X.env.cells.lookup x = some c → c ≠ b) ∧ ∀ p ∈ X.pn ++ pins, p.1 ≠ b)
    (keep : ∀ b o, b ≠ X.env.locals → b ∉ X.fs → b ∉ ch → s.heap.get? b = some o → H b = none → h'.get? b = some o)
    (slot : ∀ b o, b ≠ X.env.locals → b ∈ X.fs → b ∉ ch → s.heap.get? b = some o → H b = none → ∃ sl, h'.get? b = some { o with slots := sl }) (free : ∀ b o, b ∉ ch → s.heap.get? b = some o → H b = none → H' b = none)
    (there : ∀ b o, b ∉ ch → s.heap.get? b = some o → ∃ o', h'.get? b = some o')
    (tups : ∀ b xs, H b = some (.tup xs) → H' b = some (.tup xs)) (frzs : ∀ b o u, H b = some (.frz o u) → H' b = some (.frz o u)) (tbls : ∀ b ps, H b = some (.tbl ps) → ∃ more, H' b = some (.tbl (ps ++ more)))
    (ns : ∀ m, s.heap.Ns X.env.locals m → h'.Ns X.env.locals m) (hok : HOk X.prog X.w H' h') (hg : AllBare g') :
    Inv X pins σ H' { s with heap := h', gens := g', drawn := d', toks := t' } := by
  have neL : ∀ b o, X.s₀.heap.get? b = some o → b ≠ X.env.locals := fun b o e => Nat.ne_of_lt (Nat.lt_of_lt_of_le (Heap.lt_size e) I.ok.above)
  have neC : ∀ b o, X.s₀.heap.get? b = some o → b ∉ X.ex → b ∉ ch := fun b o e hx hb => by
    rcases (hch b hb).1 with z | z
    · exact hx z
    · exact absurd (Nat.lt_of_lt_of_le (Heap.lt_size e) z) (Nat.lt_irrefl _)
  have cellK : ∀ x c, X.env.cells.lookup x = some c → ∀ v, s.heap.IsCell c v → h'.IsCell c v := fun x c e v ⟨o, ho, hd⟩ => by
    have nch : c ∉ ch := fun z => (hch c z).2.2.1 x c e rfl
    by_cases hc : c ∈ X.fs
    · obtain ⟨sl, q⟩ := slot c o (I.cne x c e) hc nch ho (I.freeC x c e)
      exact ⟨_, q, hd⟩
    · exact ⟨o, keep c o (I.cne x c e) hc nch ho (I.freeC x c e), hd⟩
  refine ⟨I.ok, I.os, hg, ⟨fun b o e n hb hx => ?_, fun b o e n hb hx => ?_, fun b o e n hx => ?_, fun b o e hx => ?_, fun b xs e => tups b xs (I.base.tups b xs e), fun b o xs e => frzs b o xs (I.base.frzs b o xs e), fun b ps e => ?_⟩, ?_, fun x c e => ?_, ?_, fun x c e => ?_, fun p hp => ?_, hok, I.len⟩
  · exact keep b o (neL b o e) hb (neC b o e hx) (I.base.keep b o e n hb hx) (I.base.free b o e n hx)
  · obtain ⟨sl, e1⟩ := I.base.slot b o e n hb hx
    obtain ⟨sl', e2⟩ := slot b _ (neL b o e) hb (neC b o e hx) e1 (I.base.free b o e n hx)
    exact ⟨sl', e2⟩
  · obtain ⟨o', e1⟩ := I.base.there b o e hx
    exact free b o' (neC b o e hx) e1 (I.base.free b o e n hx)
  · obtain ⟨o', e1⟩ := I.base.there b o e hx
    exact there b o' (neC b o e hx) e1
  · obtain ⟨m1, e1⟩ := I.base.tbls b ps e
    obtain ⟨m2, e2⟩ := tbls b _ e1
    exact ⟨m1 ++ m2, by rw [e2, Array.append_assoc]⟩
  · obtain ⟨m, hn, hl⟩ := I.loc
    refine ⟨m, ns m hn, fun i x v e1 e2 e3 => ?_⟩
    obtain ⟨u, r, l⟩ := hl i x v e1 e2 e3
    refine ⟨u, r, ?_⟩
    rcases l with l | ⟨k, c, e, z⟩
    · exact .inl l
    · exact .inr ⟨k, c, e, cellK x c e _ z⟩
  · obtain ⟨v, z⟩ := I.cell x c e
    exact ⟨v, cellK x c e v z⟩
  · obtain ⟨m, ⟨o, _, _, ho, _⟩, _⟩ := I.loc
    exact free _ o (fun z => (hch _ z).2.1 rfl) ho I.free
  · obtain ⟨v, o, ho, hd⟩ := I.cell x c e
    exact free c o (fun z => (hch c z).2.2.1 x c e rfl) ho (I.freeC x c e)
  · obtain ⟨e, n, ne, nf, d⟩ := I.pin p hp
    have nch : p.1 ∉ ch := fun z => (hch p.1 z).2.2.2 p hp rfl
    exact ⟨keep p.1 p.2 ne nf nch e n, free p.1 p.2 nch e n, ne, nf, d⟩
/-- .. where the frame's own object is kept too -/
theorem Inv.un {t' : Nat} (I : Inv X pins σ H s) (u : Un X.fs [] H H' s.heap h') (hok : HOk X.prog X.w H' h') : Inv X pins σ H' { s with heap := h', toks := t' } := by
  obtain ⟨m, ⟨o, es, ep, ho, r⟩, _⟩ := id I.loc
  obtain ⟨sl, hL⟩ := u.any ho I.free (by simp)
  exact I.step (g' := s.gens) (d' := s.drawn) (ch := []) (fun _ z => nomatch z) (fun b o _ hb _ e n => u.keep b o e n hb (by simp)) (fun b o _ hb _ e n => u.slot b o e n hb (by simp)) (fun b o _ e n => u.free b o e n (by simp)) (fun b o _ e => u.there b o e (by simp)) u.tups u.frzs u.tbls (fun m' hm => by
    obtain ⟨o', es', ep', ho', r'⟩ := hm
    rw [ho] at ho'; cases ho'
    exact ⟨_, es', ep', hL, r'⟩) hok I.bare
/-- behind a call (or a comprehension's block): the slots of this frame may have changed too, the records at ch may have turned -/
theorem Inv.call {g' : Array GenState} {t' : Nat} {d' : Drawn} {ch : List Addr} (I : Inv X pins σ H s) (u : Un (frs X.stack) ch H H' s.heap h') (hok : HOk X.prog X.w H' h') (hg : AllBare g')
    (hch : ∀ b ∈ ch, (b ∈ X.ex ∨ X.s₀.heap.objs.size ≤ b) ∧ b ≠ X.env.locals ∧ (∀ x c, X.env.cells.lookup x = some c → c ≠ b) ∧ ∀ p ∈ X.pn ++ pins, p.1 ≠ b) :
    Inv X pins σ H' { s with heap := h', gens := g', drawn := d', toks := t' } := by
  obtain ⟨m, ⟨o, es, ep, ho, r⟩, _⟩ := id I.loc
  obtain ⟨sl, hL⟩ := u.any ho I.free fun z => (hch _ z).2.1 rfl
  exact I.step (ch := ch) hch (fun b o hL hb hc e n => u.keep b o e n (fun z => (List.mem_cons.mp (I.stkSub b z)).elim hL hb) hc) (fun b o _ _ hc e n => u.any e n hc) (fun b o hc e n => u.free b o e n hc) (fun b o hc e => u.there b o e hc) u.tups u.frzs u.tbls (fun m' hm => by
    obtain ⟨o', es', ep', ho', r'⟩ := hm
    rw [ho] at ho'; cases ho'
    exact ⟨_, es', ep', hL, r'⟩) hok hg
/-- an untracked record of ours (an iterator) has turned -/
theorem Inv.turned {t' : Nat} {it : Addr} (I : Inv X pins σ H s) (k : ∀ b o, b ≠ it → s.heap.get? b = some o → h'.get? b = some o) (hn : H it = none) (hL : it ≠ X.env.locals)
    (h1 : it ∈ X.ex ∨ X.s₀.heap.objs.size ≤ it) (h2 : ∀ x c, X.env.cells.lookup x = some c → c ≠ it) (h3 : ∀ p ∈ X.pn ++ pins, p.1 ≠ it) : Inv X pins σ H { s with heap := h', toks := t' } := by
  have nit : ∀ b u, H b = some u → b ≠ it := fun b u e z => by rw [z, hn] at e; cases e
  refine I.step (g' := s.gens) (d' := s.drawn) (ch := [it]) (fun b hb => ?_) (fun b o _ _ hc e _ => k b o (fun z => hc (by simp [z])) e) (fun b o _ _ hc e _ => ⟨o.slots, k b o (fun z => hc (by simp [z])) e⟩) (fun _ _ _ _ n => n)
    (fun b o hc e => ⟨o, k b o (fun z => hc (by simp [z])) e⟩) (fun _ _ e => e) (fun _ _ _ e => e) (fun b ps e => ⟨#[], by rw [e]; simp⟩) (fun m hm => ?_) (fun b u e => ?_) I.bare
  · have e : b = it := by simpa using hb
    subst e
    exact ⟨h1, hL, h2, h3⟩
  · obtain ⟨o, es, ep, ho, r⟩ := hm
    exact ⟨o, es, ep, k _ o (Ne.symm hL) ho, r⟩
  · refine (I.hok b u e).stay (fun c v hc q => k c v ?_ q) (fun _ q => q) fun _ _ q => q
    rcases hc with z | z
    · rw [z]; exact nit b u e
    · exact nit c _ z
theorem Inv.tok (I : Inv X pins σ H s) (t : Nat) : Inv X pins σ H { s with toks := t } := I.un (h' := s.heap) (t' := t) Un.refl I.hok
/-- all objects kept -/
theorem Inv.kept {t' : Nat} (I : Inv X pins σ H s) (k : ∀ b u, s.heap.get? b = some u → h'.get? b = some u) : Inv X pins σ H { s with heap := h', toks := t' } := I.un (Un.kept k) (I.hok.kept k)
/-- a new object laid and tracked -/
theorem Inv.laid {a : Addr} {o : HO} {t' : Nat} (I : Inv X pins σ H s) (k : ∀ b u, s.heap.get? b = some u → h'.get? b = some u) (hp : s.heap.objs.size ≤ a) (new : ObjOk X.prog X.w (upd H a o) h' a o) :
    Inv X pins σ (upd H a o) { s with heap := h', toks := t' } := I.un (Un.laid k hp (I.hok.fresh hp)) (I.hok.laid k hp new)
/-- an object written -/
theorem Inv.write {x e : Addr} {o : HO} {t' : Nat} (I : Inv X pins σ H s) (mu : Mut (H x)) (he : e = x ∨ H e = some (.own x)) (k : ∀ b u, b ≠ e → s.heap.get? b = some u → h'.get? b = some u) (heo : ∃ u, h'.get? e = some u)
    (new : ObjOk X.prog X.w (upd H x o) h' x o) : Inv X pins σ (upd H x o) { s with heap := h', toks := t' } := I.un (Un.write mu he k heo) (I.hok.write mu he k heo new)
theorem Inv.pins_of {pins' : List (Addr × Obj)} (I : Inv X pins σ H s) (h : ∀ p ∈ pins', s.heap.get? p.1 = some p.2 ∧ H p.1 = none ∧ p.1 ≠ X.env.locals ∧ p.1 ∉ X.fs ∧ ∀ v, p.2.data ≠ .cell v) : Inv X pins' σ H s :=
  ⟨I.ok, I.os, I.bare, I.base, I.loc, I.cell, I.free, I.freeC, fun p hp => (List.mem_append.mp hp).elim (fun z => I.pin p (List.mem_append_left _ z)) (h p), I.hok, I.len⟩

theorem nodup_ix {N : List Str} (hN : N.Nodup) {i j : Nat} {x : Str} (a : N[i]? = some x) (b : N[j]? = some x) : i = j := by
  obtain ⟨h1, e1⟩ := List.getElem?_eq_some_iff.mp a
  obtain ⟨h2, e2⟩ := List.getElem?_eq_some_iff.mp b
  exact (List.getElem_inj hN).mp (e1.trans e2.symm)

/-- a name is stored; what changed -/
theorem store_ok2 {M : Model} {A : Around} {E : Value → Shared → Prop} {i : Nat} {x : Str} {v : V} {u : Value} {Q : Unit → Shared → Prop} (I : Inv X pins σ H s) (hN : X.N.Nodup) (hi : X.N[i]? = some x) (hx : Loc X.env.scope x) (r : RelV v u)
    (h : ∀ s', Inv X pins (σ.set i (some v)) H s' → (∃ a, Heap.SameBut a s.heap s'.heap ∧ (a = X.env.locals ∨ X.env.cells.lookup x = some a)) → Q () s') (hf : X.fn x = true ∨ X.env.scope.names.lookup x = some .local := by first | exact .inl rfl | exact .inr rfl | assumption) : wpAny M A (storeName X.env x u) Q E s := by
  obtain ⟨m, hn, hl⟩ := id I.loc
  have hcls : (X.env.scope.kind == .class || (X.env.scope.kind == .module && X.env.locals != X.env.globals)) = false := by rw [I.ok.kind]; rfl
  have hiσ : i < σ.length := by rw [I.len]; exact (List.getElem?_eq_some_iff.mp hi).1
  have cne := I.cne
  have tracked : ∀ {a : Addr} {h' : Heap}, (∃ o, s.heap.get? a = some o ∧ H a = none) → Heap.SameBut a s.heap h' → HOk X.prog X.w H h' := fun {a h'} ha hs b ob e => by
    obtain ⟨_, _, hfree⟩ := ha
    refine (I.hok b ob e).stay (fun c w' hc q => (hs.2 c ?_).trans q) (fun _ q => q) fun _ _ q => q
    rintro rfl
    rcases hc with rfl | hc
    · rw [hfree] at e; cases e
    · rw [hfree] at hc; cases hc
  rcases hx with hk | hk
  · refine wpAny_storeName_local hk hn (fun h' hn' hs => ?_) hcls
    obtain ⟨oL, _, _, hoL, _⟩ := id hn
    refine h _ ⟨I.ok, I.os, I.bare, ⟨fun b o e n hb hx => ?_, fun b o e n hb hx => ?_, I.base.free, fun b o e hx => ?_, I.base.tups, I.base.frzs, I.base.tbls⟩, ⟨_, hn', fun j y v' e1 e2 e3 => ?_⟩, fun y c e => ?_, I.free, I.freeC, fun p hp => ?_, tracked ⟨oL, hoL, I.free⟩ hs, by simpa using I.len⟩ ⟨_, hs, .inl rfl⟩
    · exact (hs.2 b (Nat.ne_of_lt (Nat.lt_of_lt_of_le (Heap.lt_size e) I.ok.above))).trans (I.base.keep b o e n hb hx)
    · obtain ⟨sl, e1⟩ := I.base.slot b o e n hb hx
      exact ⟨sl, (hs.2 b (Nat.ne_of_lt (Nat.lt_of_lt_of_le (Heap.lt_size e) I.ok.above))).trans e1⟩
    · obtain ⟨o', e1⟩ := I.base.there b o e hx
      exact ⟨o', (hs.2 b (Nat.ne_of_lt (Nat.lt_of_lt_of_le (Heap.lt_size e) I.ok.above))).trans e1⟩
    · by_cases hj : j = i
      · subst hj
        rw [hi] at e1; cases e1
        rw [List.getElem?_set_self hiσ] at e2
        cases e2
        exact ⟨u, r, .inl ⟨hk, by simp⟩⟩
      · rw [List.getElem?_set_ne (Ne.symm hj)] at e2
        obtain ⟨u', r', q⟩ := hl j y v' e1 e2 e3
        refine ⟨u', r', ?_⟩
        rcases q with ⟨k, e⟩ | ⟨k, c, e, z⟩
        · refine .inl ⟨k, ?_⟩
          have : y ≠ x := fun e => hj (nodup_ix hN e1 (e ▸ hi))
          simp [this, e]
        · exact .inr ⟨k, c, e, z.sameBut hs (cne y c e)⟩
    · obtain ⟨w', z⟩ := I.cell y c e
      exact ⟨w', z.sameBut hs (cne y c e)⟩
    · obtain ⟨e, n, ne, nf, d⟩ := I.pin p hp
      exact ⟨(hs.2 p.1 ne).trans e, n, ne, nf, d⟩
  · have hfn : X.fn x = true := by
      rcases hf with z | z
      · exact z
      · rw [z] at hk; cases hk
    obtain ⟨c, hc⟩ := I.ok.has x (.inl hk)
    obtain ⟨w', z⟩ := I.cell x c hc
    refine wpAny_storeName_cell I.ok.kind hk hc z (fun h' hc' hs => ?_)
    obtain ⟨oc, hoc, hocd⟩ := id z
    refine h { s with heap := h' } ⟨I.ok, I.os, I.bare, ⟨fun b o e n hb hx => ?_, fun b o e n hb hx => ?_, I.base.free, fun b o e hx => ?_, I.base.tups, I.base.frzs, I.base.tbls⟩, ⟨m, hn.sameBut hs (Ne.symm (cne x c hc)), fun j y v' e1 e2 e3 => ?_⟩, fun y c' e => ?_, I.free, I.freeC, fun p hp => ?_, tracked ⟨oc, hoc, I.freeC x c hc⟩ hs, by simpa using I.len⟩ ⟨c, hs, .inr hc⟩
    · exact (hs.2 b (Nat.ne_of_lt (Nat.lt_of_lt_of_le (Heap.lt_size e) (I.ok.cab x c hfn hc)))).trans (I.base.keep b o e n hb hx)
    · obtain ⟨sl, e1⟩ := I.base.slot b o e n hb hx
      exact ⟨sl, (hs.2 b (Nat.ne_of_lt (Nat.lt_of_lt_of_le (Heap.lt_size e) (I.ok.cab x c hfn hc)))).trans e1⟩
    · obtain ⟨o', e1⟩ := I.base.there b o e hx
      exact ⟨o', (hs.2 b (Nat.ne_of_lt (Nat.lt_of_lt_of_le (Heap.lt_size e) (I.ok.cab x c hfn hc)))).trans e1⟩
    · by_cases hj : j = i
      · subst hj
        rw [hi] at e1; cases e1
        rw [List.getElem?_set_self hiσ] at e2
        cases e2
        exact ⟨u, r, .inr ⟨.inl hk, c, hc, hc'⟩⟩
      · rw [List.getElem?_set_ne (Ne.symm hj)] at e2
        obtain ⟨u', r', q⟩ := hl j y v' e1 e2 e3
        refine ⟨u', r', ?_⟩
        rcases q with q | ⟨k, c', e, z'⟩
        · exact .inl q
        · refine .inr ⟨k, c', e, z'.sameBut hs ?_⟩
          rintro rfl
          exact hj (nodup_ix hN e1 (I.ok.inj _ _ _ e hc ▸ hi))
    · by_cases hcc : c' = c
      · subst hcc; exact ⟨_, hc'⟩
      · obtain ⟨w2, z2⟩ := I.cell y c' e
        exact ⟨w2, z2.sameBut hs hcc⟩
    · obtain ⟨e, n, ne, nf, d⟩ := I.pin p hp
      refine ⟨(hs.2 p.1 ?_).trans e, n, ne, nf, d⟩
      intro q
      rw [q, hoc] at e
      have q' : oc = p.2 := Option.some.inj e
      exact d w' (by rw [← q']; exact hocd)
theorem store_ok {M : Model} {A : Around} {E : Value → Shared → Prop} {i : Nat} {x : Str} {v : V} {u : Value} {Q : Unit → Shared → Prop} (I : Inv X pins σ H s) (hN : X.N.Nodup) (hi : X.N[i]? = some x) (hx : Loc X.env.scope x) (r : RelV v u)
    (h : ∀ s', Inv X pins (σ.set i (some v)) H s' → Q () s') (hf : X.fn x = true ∨ X.env.scope.names.lookup x = some .local := by first | exact .inl rfl | exact .inr rfl | assumption) : wpAny M A (storeName X.env x u) Q E s :=
  store_ok2 I hN hi hx r (fun s' I' _ => h s' I') hf
/-- behind a call or a block, the state as it is -/
theorem Inv.call' {s' : Shared} {ch : List Addr} (I : Inv X pins σ H s) (ho : s'.os = s.os) (u : Un (frs X.stack) ch H H' s.heap s'.heap) (hok : HOk X.prog X.w H' s'.heap) (hg : AllBare s'.gens)
    (hch : ∀ b ∈ ch, (b ∈ X.ex ∨ X.s₀.heap.objs.size ≤ b) ∧ b ≠ X.env.locals ∧ (∀ x c, X.env.cells.lookup x = some c → c ≠ b) ∧ ∀ p ∈ X.pn ++ pins, p.1 ≠ b) : Inv X pins σ H' s' := by
  obtain ⟨h', g', d', t', o'⟩ := s'
  have e : o' = s.os := ho
  subst e
  exact I.call (g' := g') (t' := t') (d' := d') u hok hg hch
end

/-! ### the judgements -/
/-- an exception: its class, its own dict's address (where it has one), the abstract heap behind it -/
abbrev XK := Value → Option Addr → Hp → Prop
abbrev St := List (Option V)
abbrev VK := V → Hp → Prop
/-- an expression's reading; a test's; an argument list's -/
abbrev TE := St → Hp → VK → Prop
abbrev TT := St → Hp → (Bool → Hp → Prop) → Prop
abbrev TA := St → Hp → (List V → Hp → Prop) → Prop
/-- what is wanted behind a statement -/
structure Ends where
  nx : St → Hp → Prop
  rt : VK
  bk : St → Hp → Prop := fun _ _ => False
  ct : St → Hp → Prop := fun _ _ => False
abbrev TS := Ends → St → Hp → Prop

def EP (X : Cx) (pins : List (Addr × Obj)) (σ : St) (Q : VK) (u : Value) (s' : Shared) : Prop := ∃ v H', Inv X pins σ H' s' ∧ RelV v u ∧ Q v H'
def TP (X : Cx) (pins : List (Addr × Obj)) (σ : St) (Q : Bool → Hp → Prop) (b : Bool) (s' : Shared) : Prop := ∃ H', Inv X pins σ H' s' ∧ Q b H'
def AP (X : Cx) (pins : List (Addr × Obj)) (σ : St) (Q : List V → Hp → Prop) (us : List Value) (s' : Shared) : Prop := ∃ vs H', Inv X pins σ H' s' ∧ Vals vs us ∧ Q vs H'
def SP (X : Cx) (pins : List (Addr × Obj)) (D : Ends) (f : Flow) (s' : Shared) : Prop :=
  match f with
  | .next => ∃ σ' H', Inv X pins σ' H' s' ∧ D.nx σ' H'
  | .brk => ∃ σ' H', Inv X pins σ' H' s' ∧ D.bk σ' H'
  | .cont => ∃ σ' H', Inv X pins σ' H' s' ∧ D.ct σ' H'
  | .ret u => ∃ v σ' H', Inv X pins σ' H' s' ∧ RelV v u ∧ D.rt v H'

def PE (X : Cx) (e : Expr) (t : TE) : Prop :=
  ∀ (pins : List (Addr × Obj)) (s : Shared) (σ : St) (H : Hp) (Q : VK), Inv X pins σ H s → t σ H Q → wpAny (model X.prog X.w) X.A (eval e X.env) (EP X pins σ Q) X.xe s
def PT (X : Cx) (e : Expr) (t : TT) : Prop :=
  ∀ (pins : List (Addr × Obj)) (s : Shared) (σ : St) (H : Hp) (Q : Bool → Hp → Prop), Inv X pins σ H s → t σ H Q → wpAny (model X.prog X.w) X.A (isTrue e X.env (eval e X.env)) (TP X pins σ Q) X.xe s
/-- a test whatever its 'whole' is (and, or) -/
def PW (X : Cx) (e : Expr) (t : TT) : Prop :=
  ∀ (whole : Sem Value) (pins : List (Addr × Obj)) (s : Shared) (σ : St) (H : Hp) (Q : Bool → Hp → Prop), Inv X pins σ H s → t σ H Q → wpAny (model X.prog X.w) X.A (isTrue e X.env whole) (TP X pins σ Q) X.xe s
theorem PW.pt {X : Cx} {e : Expr} {t : TT} (h : PW X e t) : PT X e t := h _
/-- an argument list (no star), from the left -/
def PA (X : Cx) (es : List Expr) (t : TA) : Prop :=
  ∀ (pos : Pos) (pins : List (Addr × Obj)) (s : Shared) (σ : St) (H : Hp) (Q : List V → Hp → Prop), Inv X pins σ H s → t σ H Q → wpAny (model X.prog X.w) X.A (spliced (backTo pos (starEach es X.env))) (AP X pins σ Q) X.xe s
def PS (X : Cx) (st : Stmt) (t : TS) : Prop :=
  ∀ (pins : List (Addr × Obj)) (s : Shared) (σ : St) (H : Hp) (D : Ends), Inv X pins σ H s → t D σ H → wpAny (model X.prog X.w) X.A (exec st X.env) (SP X pins D) X.xe s
def PSs (X : Cx) (st : List Stmt) (t : TS) : Prop :=
  ∀ (pins : List (Addr × Obj)) (s : Shared) (σ : St) (H : Hp) (D : Ends), Inv X pins σ H s → t D σ H → wpAny (model X.prog X.w) X.A (execs st X.env) (SP X pins D) X.xe s
/-- weaken the end -/
theorem thn {α : Type} {t : Sem α} {Q Q' : α → Shared → Prop} {M : Model} {A : Around} {E : Value → Shared → Prop} {s : Shared} (h : wpAny M A t Q E s) (hQ : ∀ a s, Q a s → Q' a s) : wpAny M A t Q' E s := wpAny_mono h hQ fun _ _ x => x
end L2

namespace L2
open PySem PySem.Spec PyProof.Rows
section
variable {X : Cx}


/-! ### names and constants -/
def tVar (i : Nat) : TE := fun σ H Q => ∃ v, σ[i]? = some (some v) ∧ Q v H
def tC (v : V) : TE := fun _ H Q => Q v H
theorem pe_var {i : Nat} {x : Str} {pos : Pos} (hN : X.N[i]? = some x) (hv : Vis X.env.scope x) (hd : (x == ("__debug__" : Str)) = false := by decide) (hcd : (x == ("__classdict__" : Str)) = false := by decide) : PE X (.Name x pos) (tVar i) := by
  intro pins s σ H Q I h
  obtain ⟨v, e, h⟩ := h
  obtain ⟨m, hn, hl⟩ := I.loc
  obtain ⟨u, r, l⟩ := hl i x v hN e hv
  have fin : EP X pins σ Q u s := ⟨v, H, I, r, h⟩
  rcases l with ⟨hk, hm⟩ | ⟨hk, c, hc, hcell⟩
  · exact wpAny_Name (wpAny_loadName_local I.ok.kind hk hn hm fin) hd
  · rcases hk with hk | hk
    · exact wpAny_Name (wpAny_loadName_cell I.ok.kind hk hc hcell fin) hd
    · exact wpAny_Name (wpAny_loadName_free I.ok.kind hk hc hcell fin hcd) hd
theorem pe_int {i j pos} : PE X (.Constant (.int i) j pos) (tC (.int i)) := fun _ _ _ H _ I h => wpAny_Constant_int ⟨.int i, H, I.tok _, ⟨_, rfl⟩, h⟩
theorem pe_bl {b j pos} : PE X (.Constant (.bool b) j pos) (tC (.bl b)) := fun _ _ _ H _ I h => Constant_bool ⟨.bl b, H, I, rfl, h⟩
theorem pe_non {j pos} : PE X (.Constant .none j pos) (tC .non) := fun _ _ _ H _ I h => Constant_none ⟨.non, H, I, rfl, h⟩
theorem pe_str {x j pos} : PE X (.Constant (.str x) j pos) (tC (.str x)) := fun _ _ _ H _ I h => Calls.Constant_str ⟨.str x, H, I.tok _, ⟨_, rfl⟩, h⟩

/-- a global name of the def -/
def Gl (X : Cx) (x : Str) : Prop := X.env.kindOf x = some .globalImplicit
theorem ld_glob {E : Value → Shared → Prop} {pins : List (Addr × Obj)} {s : Shared} {σ : St} {H : Hp} {x : Str} {u : Value} {pos : Pos} {Q : Value → Shared → Prop} (I : Inv X pins σ H s) (hg : Gl X x) (hm : X.mg x = some u) (h : Q u s)
    (hd : (x == ("__debug__" : Str)) = false := by decide) : wpAny (model X.prog X.w) X.A (eval (.Name x pos) X.env) Q E s :=
  Calls.Name_function_global I.ok.kind hg (Calls.loadGlobal_global (by rw [I.ok.glob]; exact I.mod.glob.keeps I.bk) hm h) hd
theorem ld_blt {E : Value → Shared → Prop} {pins : List (Addr × Obj)} {s : Shared} {σ : St} {H : Hp} {x : Str} {u : Value} {pos : Pos} {Q : Value → Shared → Prop} (I : Inv X pins σ H s) (hg : Gl X x) (hm : X.mg x = none) (hv : bootBuiltins x = some u) (h : Q u s)
    (hn : x ≠ "__name__" := by decide) (hd : (x == ("__debug__" : Str)) = false := by decide) : wpAny (model X.prog X.w) X.A (eval (.Name x pos) X.env) Q E s := by
  obtain ⟨mb, h1, h2⟩ := I.mod.blt
  exact Calls.Name_function_global I.ok.kind hg (Calls.loadGlobal_builtin (by rw [I.ok.glob]; exact I.mod.glob.keeps I.bk) hm (by rw [I.ok.blt]; exact h1.keeps I.bk) ((h2 x hn).trans hv) h) hd
/-- a module's constant, a class, a function, as a value -/
theorem pe_glob {x : Str} {v : V} {u : Value} {pos : Pos} (hg : Gl X x) (hm : X.mg x = some u) (r : RelV v u) (hd : (x == ("__debug__" : Str)) = false := by decide) : PE X (.Name x pos) (tC v) :=
  fun _ _ _ H _ I h => ld_glob I hg hm ⟨v, H, I, r, h⟩ hd
theorem pe_bltn {x : Str} {v : V} {u : Value} {pos : Pos} (hg : Gl X x) (hm : X.mg x = none) (hv : bootBuiltins x = some u) (r : RelV v u) (hn : x ≠ "__name__" := by decide) (hd : (x == ("__debug__" : Str)) = false := by decide) : PE X (.Name x pos) (tC v) :=
  fun _ _ _ H _ I h => ld_blt I hg hm hv ⟨v, H, I, r, h⟩ hn hd

/-! ### arithmetic -/
variable {a b : Expr} {ta tb : TE} {pos : Pos}

/-! ### comparisons -/
def PC (X : Cx) (op : CmpOp) (a b : Expr) (t : TE) : Prop :=
  ∀ (pins : List (Addr × Obj)) (s : Shared) (σ : St) (H : Hp) (Q : VK), Inv X pins σ H s → t σ H Q →
    wpAny (model X.prog X.w) X.A (eval a X.env) (fun v s₁ => wpAny (model X.prog X.w) X.A (eval b X.env) (fun u s₂ => wpAny (model X.prog X.w) X.A (compareOp op v u) (EP X pins σ Q) X.xe s₂) X.xe s₁) X.xe s
/-- a comparison as a value, as a test -/
def tB (t : TE) : TT := fun σ H Q => t σ H fun x H1 => ∃ c, x = .bl c ∧ Q c H1
theorem pt_cmp {op : CmpOp} {t : TE} (h : PC X op a b t) (h1 : behindInMarks op b = false := by first | exact nobehind _ (by decide) (by decide) | rfl) : PT X (.Compare a [op] [b] pos) (tB t) := by
  intro pins s σ H Q I hw
  refine wpAny_isTrue_Compare1 (thn (h pins s σ H _ I hw) fun v s1 h1 => thn h1 fun u s2 h2 => thn h2 fun c s3 ⟨x, H1, I1, r1, q1⟩ => ?_) h1
  obtain ⟨d, rfl, q⟩ := q1
  cases r1
  exact wpAny_truthy_bool ⟨H1, I1, q⟩
/-- an expression whose value is a bool, as a test -/
theorem pt_val {e : Expr} {t : TE} (h : PE X e t) (he : ∀ whole, isTrue e X.env whole = (do let v ← whole; standAt e.pos; holding [v] (truthy v)) := by intro _; rfl) : PT X e (tB t) := by
  intro pins s σ H Q I hw
  refine isTrue_plain (thn (h pins s σ H _ I hw) fun v s1 ⟨x, H1, I1, r1, q1⟩ => ?_) (he _)
  obtain ⟨d, rfl, q⟩ := q1
  cases r1
  exact wpAny_truthy_bool ⟨H1, I1, q⟩

/-! ### and, or, not -/
variable {tA tB' : TT} {rest : List Expr}
def tAnd (t u : TT) : TT := fun σ H Q => t σ H fun c H1 => if c = true then u σ H1 Q else Q false H1
def tOr (t u : TT) : TT := fun σ H Q => t σ H fun c H1 => if c = true then Q true H1 else u σ H1 Q
def tNot (t : TT) : TT := fun σ H Q => t σ H fun c H1 => Q (!c) H1
theorem pw_and1 (ha : PT X a tA) : PW X (.BoolOp .And [a] pos) tA := by
  intro wh pins s σ H Q I h
  refine isTrue_and (thn (ha pins s σ H Q I h) fun c s1 e => ?_)
  cases c with
  | true => exact isTrue_and_nil e
  | false => exact e
theorem pw_or1 (ha : PT X a tA) : PW X (.BoolOp .Or [a] pos) tA := by
  intro wh pins s σ H Q I h
  refine isTrue_or (thn (ha pins s σ H Q I h) fun c s1 e => ?_)
  cases c with
  | false => exact isTrue_or_nil e
  | true => exact e
theorem pw_and (ha : PT X a tA) (hb : PW X (.BoolOp .And (b :: rest) pos) tB') : PW X (.BoolOp .And (a :: b :: rest) pos) (tAnd tA tB') := by
  intro wh pins s σ H Q I h
  refine isTrue_and (thn (ha pins s σ H _ I h) fun c s1 ⟨H1, I1, q1⟩ => ?_)
  cases c with
  | true => exact hb wh pins s1 σ H1 Q I1 q1
  | false => exact ⟨H1, I1, q1⟩
theorem pw_or (ha : PT X a tA) (hb : PW X (.BoolOp .Or (b :: rest) pos) tB') : PW X (.BoolOp .Or (a :: b :: rest) pos) (tOr tA tB') := by
  intro wh pins s σ H Q I h
  refine isTrue_or (thn (ha pins s σ H _ I h) fun c s1 ⟨H1, I1, q1⟩ => ?_)
  cases c with
  | true => exact ⟨H1, I1, q1⟩
  | false => exact hb wh pins s1 σ H1 Q I1 q1
theorem pt_not (ha : PT X a tA) : PT X (.UnaryOp .Not a pos) (tNot tA) := by
  intro pins s σ H Q I h
  exact isTrue_not (ha pins s σ H (fun c H1 => Q (!c) H1) I h)
/-- .. as values (bools) -/
def tAndV (ta tb : TE) : TE := fun σ H Q => ta σ H fun x H1 => ∃ c, x = .bl c ∧ if c = true then tb σ H1 Q else Q (.bl false) H1
def tNotV (ta : TE) : TE := fun σ H Q => ta σ H fun x H1 => ∃ c, x = .bl c ∧ Q (.bl (!c)) H1
theorem pe_one {op} {t : TE} (h : PE X a t) : PE X (.BoolOp op [a] pos) t := fun pins s σ H Q I hw => BoolOp_one (h pins s σ H Q I hw)
theorem pe_and (ha : PE X a ta) (hb : PE X (.BoolOp .And (b :: rest) pos) tb) : PE X (.BoolOp .And (a :: b :: rest) pos) (tAndV ta tb) := by
  intro pins s σ H Q I h
  refine BoolOp_and (thn (ha pins s σ H _ I h) fun v s1 ⟨x, H1, I1, r1, q1⟩ => ?_)
  obtain ⟨c, rfl, q1⟩ := q1
  cases r1
  refine wpAny_truthy_bool ?_
  cases c with
  | true => exact hb pins s1 σ H1 Q I1 q1
  | false => exact ⟨.bl false, H1, I1, rfl, q1⟩
theorem pe_not (ha : PE X a ta) : PE X (.UnaryOp .Not a pos) (tNotV ta) := by
  intro pins s σ H Q I h
  refine UnaryOp_ (thn (ha pins s σ H _ I h) fun v s1 ⟨x, H1, I1, r1, q1⟩ => ?_)
  obtain ⟨c, rfl, q1⟩ := q1
  cases r1
  exact not_of (wpAny_truthy_bool ⟨.bl (!c), H1, I1, rfl, q1⟩)
/-- a if t else b -/
def tIf (t : TT) (ta tb : TE) : TE := fun σ H Q => t σ H fun c H1 => if c = true then ta σ H1 Q else tb σ H1 Q
theorem pe_ifExp {c : Expr} (hc : PT X c tA) (ha : PE X a ta) (hb : PE X b tb) : PE X (.IfExp c a b pos) (tIf tA ta tb) := by
  intro pins s σ H Q I h
  refine wpAny_IfExp (thn (hc pins s σ H _ I h) fun d s1 ⟨H1, I1, q1⟩ => ?_)
  cases d with
  | true => exact ha pins s1 σ H1 Q I1 q1
  | false => exact hb pins s1 σ H1 Q I1 q1
end
end L2

namespace L2
open PySem PySem.Spec PyProof.Rows

/-! ### a list, a tuple that is read: tracked, frozen, or an object of the module -/
def SqL (K : PySem.W.Frag) (H : Hp) (a : Addr) (xs : List V) : Prop :=
  Rd H a (.lst xs) ∨
    ∃ (o : Obj) (its : Array Value) (n : Nat), K.lookup a = some o ∧ o.cls = .type "list" ∧ o.dict = none ∧ o.data = .seq its n ∧ its.size ≤ sizeLine ∧ Vals xs its.toList
def SqT (K : PySem.W.Frag) (H : Hp) (a : Addr) (xs : List V) : Prop :=
  Rd H a (.tup xs) ∨
    ∃ (o : Obj) (its : Array Value) (n : Nat), K.lookup a = some o ∧ o.cls = .type "tuple" ∧ o.data = .seq its n ∧ its.size ≤ sizeLine ∧ Vals xs its.toList
def absV : Value → Option V
  | .none => some .non
  | .bool b => some (.bl b)
  | .int i _ => some (.int i)
  | .str x _ => some (.str x)
  | .bytes b _ => some (.byt b)
  | .float b _ => some (.flt b)
  | .ref a => some (.ref a)
  | .type n => some (.ty n)
  | _ => none
theorem RelV.abs {x : V} {u : Value} (r : RelV x u) : absV u = some x := by
  cases x with
  | non => cases r; rfl
  | bl _ => cases r; rfl
  | int _ => obtain ⟨t, rfl⟩ := r; rfl
  | str _ => obtain ⟨t, rfl⟩ := r; rfl
  | byt _ => obtain ⟨t, rfl⟩ := r; rfl
  | flt _ => obtain ⟨t, rfl⟩ := r; rfl
  | ref _ => cases r; rfl
  | ty _ => cases r; rfl
theorem RelV.inj {x y : V} {u : Value} (r : RelV x u) (q : RelV y u) : x = y := Option.some.inj (r.abs.symm.trans q.abs)
theorem Vals.inj : ∀ {xs ys : List V} {us : List Value}, Vals xs us → Vals ys us → xs = ys
  | _, _, _, .nil, .nil => rfl
  | _, _, _, .cons r t, .cons r' t' => by rw [r.inj r', Vals.inj t t']
section
variable {X : Cx} {pins : List (Addr × Obj)} {σ : St} {H : Hp} {s : Shared} {a : Addr} {xs ys : List V}
theorem SqL.of {K : PySem.W.Frag} (h : H a = some (.lst xs)) : SqL K H a xs := .inl (.inl h)
theorem SqT.of {K : PySem.W.Frag} (h : H a = some (.tup xs)) : SqT K H a xs := .inl (.inl h)
theorem Inv.list (I : Inv X pins σ H s) (h : SqL X.K H a xs) : ∃ its : List Value, Vals xs its ∧ PlainL s.heap a its.toArray ∧ xs.length ≤ sizeLine := by
  rcases h with h | ⟨o, its, n, hk, hc, hd, hs, hz, r⟩
  · obtain ⟨z, its, n, r, e⟩ := h.ok I.hok
    exact ⟨its, r, ⟨_, n, e, rfl, rfl, rfl⟩, z⟩
  · refine ⟨its.toList, r, ⟨o, n, I.kIn a o hk, hc, hd, by simpa using hs⟩, ?_⟩
    have e := r.length
    simp only [Array.length_toList] at e
    omega
theorem Inv.tuple (I : Inv X pins σ H s) (h : SqT X.K H a xs) : ∃ its : List Value, Vals xs its ∧ IsTup s.heap a its.toArray ∧ xs.length ≤ sizeLine := by
  rcases h with h | ⟨o, its, n, hk, hc, hs, hz, r⟩
  · obtain ⟨z, its, r, p⟩ := h.ok I.hok
    exact ⟨its, r, p, z⟩
  · refine ⟨its.toList, r, ⟨o, I.kIn a o hk, hc, n, by simpa using hs⟩, ?_⟩
    have e := r.length
    simp only [Array.length_toList] at e
    omega
theorem Inv.list_inj (I : Inv X pins σ H s) (h : SqL X.K H a xs) (h' : SqL X.K H a ys) : xs = ys := by
  obtain ⟨its, r, ⟨o, n, e, _, _, d⟩, _⟩ := I.list h
  obtain ⟨its', r', ⟨o', n', e', _, _, d'⟩, _⟩ := I.list h'
  rw [e] at e'; cases e'
  rw [d] at d'
  injection d' with d1 _
  have : its = its' := by simpa using congrArg Array.toList d1
  subst this
  exact r.inj r'
end

/-! ### another wish about exceptions -/
abbrev Cx.wish (X : Cx) (E : Value → Shared → Prop) : Cx := { X with xe := E }
/-- no exception leaves -/
abbrev Cx.nox (X : Cx) : Cx := X.wish fun _ _ => False
theorem Cx.Ok.wish {X : Cx} (ok : X.Ok) (E : Value → Shared → Prop) : (X.wish E).Ok :=
  ⟨ok.mod, ok.kind, ok.glob, ok.blt, ok.above, ok.inj, ok.has, ok.cab, ok.hd, ok.frames, ok.stk, ok.exf, ok.bs, ok.bsz, ok.noex, ok.exfs, ok.funs, ok.frf⟩
theorem Cx.Ok.unwish {X : Cx} {E : Value → Shared → Prop} (ok : (X.wish E).Ok) : X.Ok :=
  ⟨ok.mod, ok.kind, ok.glob, ok.blt, ok.above, ok.inj, ok.has, ok.cab, ok.hd, ok.frames, ok.stk, ok.exf, ok.bs, ok.bsz, ok.noex, ok.exfs, ok.funs, ok.frf⟩
section
variable {X : Cx} {pins : List (Addr × Obj)} {σ : St} {H : Hp} {s : Shared} {E : Value → Shared → Prop}
theorem Inv.wish (I : Inv X pins σ H s) (E : Value → Shared → Prop) : Inv (X.wish E) pins σ H s := ⟨I.ok.wish E, I.os, I.bare, I.base, I.loc, I.cell, I.free, I.freeC, I.pin, I.hok, I.len⟩
theorem Inv.unwish (I : Inv (X.wish E) pins σ H s) : Inv X pins σ H s := ⟨I.ok.unwish, I.os, I.bare, I.base, I.loc, I.cell, I.free, I.freeC, I.pin, I.hok, I.len⟩
theorem SP.unwish {D : Ends} {f : Flow} {s' : Shared} (h : SP (X.wish E) pins D f s') : SP X pins D f s' := by
  cases f with
  | next => obtain ⟨σ', H', I, q⟩ := h; exact ⟨σ', H', I.unwish, q⟩
  | brk => obtain ⟨σ', H', I, q⟩ := h; exact ⟨σ', H', I.unwish, q⟩
  | cont => obtain ⟨σ', H', I, q⟩ := h; exact ⟨σ', H', I.unwish, q⟩
  | ret u => obtain ⟨v, σ', H', I, r, q⟩ := h; exact ⟨v, σ', H', I.unwish, r, q⟩
theorem PSs.nox {st : List Stmt} {t : TS} (h : PSs X.nox st t) : PSs X st t := fun pins s σ H D I hw =>
  wpAny_mono (h pins s σ H D (I.wish _) hw) (fun _ _ q => q.unwish) fun _ _ z => False.elim z
end

/-! ### blocks and small statements -/
section
variable {X : Cx} {st : Stmt} {rest : List Stmt} {t u : TS} {e : Expr} {te : TE} {pos : Pos}
def tNext : TS := fun D σ H => D.nx σ H
def tSeq (t u : TS) : TS := fun D σ H => t { D with nx := u D } σ H
theorem pss_nil : PSs X [] tNext := fun _ _ σ H _ I h => wpAny_execs_nil ⟨σ, H, I, h⟩
theorem pss_cons (h1 : PS X st t) (h2 : PSs X rest u) : PSs X (st :: rest) (tSeq t u) := by
  intro pins s σ H D I h
  refine wpAny_execs_cons (thn (h1 pins s σ H { D with nx := u D } I h) fun f s1 q => ?_)
  cases f with
  | next =>
    obtain ⟨σ', H', I', q⟩ := q
    exact h2 pins s1 σ' H' D I' q
  | ret v => exact q
  | brk => exact q
  | cont => exact q
theorem pss_one (h1 : PS X st t) : PSs X [st] t := by
  intro pins s σ H D I h
  refine wpAny_execs_cons (thn (h1 pins s σ H D I h) fun f s1 q => ?_)
  cases f with
  | next => exact wpAny_execs_nil q
  | ret v => exact q
  | brk => exact q
  | cont => exact q
/-- in a def's body nothing is shown -/
theorem Inv.quiet {pins : List (Addr × Obj)} {σ : St} {H : Hp} {s : Shared} (I : Inv X pins σ H s) : interactive X.env = false := by simp [interactive, I.ok.kind]
/-- an expression whose value is dropped -/
def tDrop (te : TE) : TS := fun D σ H => te σ H fun _ H1 => D.nx σ H1
theorem ps_expr (he : PE X e te) (hs : swapsWith e none pos.line X.env = pure false := by rfl) : PS X (.Expr e pos) (tDrop te) := by
  intro pins s σ H D I h
  exact wpAny_Expr_any (thn (he pins s σ H _ I h) fun v s1 ⟨x, H1, I1, r1, q1⟩ => ⟨σ, H1, I1, q1⟩) I.quiet hs
def tRet (te : TE) : TS := fun D σ H => te σ H D.rt
theorem ps_ret (he : PE X e te) : PS X (.Return (some e) pos) (tRet te) := by
  intro pins s σ H D I h
  exact wpAny_Return_some (thn (he pins s σ H _ I h) fun v s1 ⟨x, H1, I1, r1, q1⟩ => ⟨x, σ, H1, I1, r1, q1⟩)
def tIfS (c : TT) (t u : TS) : TS := fun D σ H => c σ H fun b H1 => if b = true then t D σ H1 else u D σ H1
theorem ps_if {c : Expr} {a b : List Stmt} {tc : TT} (hc : PT X c tc) (ha : PSs X a t) (hb : PSs X b u) : PS X (.If c a b pos) (tIfS tc t u) := by
  intro pins s σ H D I h
  refine wpAny_If (thn (hc pins s σ H _ I h) fun d s1 ⟨H1, I1, q1⟩ => ?_)
  cases d with
  | true => exact ha pins s1 σ H1 D I1 q1
  | false => exact hb pins s1 σ H1 D I1 q1
end

/-! ### targets -/
abbrev TG := V → St → Hp → (St → Hp → Prop) → Prop
def PG (X : Cx) (target : Expr) (t : TG) : Prop :=
  ∀ (pins : List (Addr × Obj)) (s : Shared) (σ : St) (H : Hp) (v : V) (u : Value) (Q : St → Hp → Prop), Inv X pins σ H s → RelV v u → t v σ H Q →
    wpAny (model X.prog X.w) X.A (assign target X.env u) (fun _ s' => ∃ σ' H', Inv X pins σ' H' s' ∧ Q σ' H') X.xe s
section
variable {X : Cx} {pos : Pos}
def gName (i : Nat) : TG := fun v σ H Q => Q (σ.set i (some v)) H
theorem pg_name {i : Nat} {x : Str} (hN : X.N.Nodup) (hi : X.N[i]? = some x) (hx : Loc X.env.scope x) (hf : X.fn x = true ∨ X.env.scope.names.lookup x = some .local := by first | exact .inl rfl | exact .inr rfl | assumption) : PG X (.Name x pos) (gName i) := by
  intro pins s σ H v u Q I r h
  exact wpAny_assign_Name (store_ok I hN hi hx r (fun s' I' => ⟨_, H, I', h⟩) hf)
/-- target = value -/
def tAsg (te : TE) (g : TG) : TS := fun D σ H => te σ H fun x H1 => g x σ H1 D.nx
/-- name = value -/
theorem ps_set {i : Nat} {x : Str} {e : Expr} {te : TE} {pos' : Pos} (hN : X.N.Nodup) (hi : X.N[i]? = some x) (hx : Loc X.env.scope x) (he : PE X e te) (hs : swapsWith e (some (.Name x pos')) pos.line X.env = pure false := by rfl) (hf : X.fn x = true ∨ X.env.scope.names.lookup x = some .local := by first | exact .inl rfl | exact .inr rfl | assumption) :
    PS X (.Assign [.Name x pos'] e pos) (tAsg te (gName i)) := by
  intro pins s σ H D I h
  refine wpAny_Assign_Name (thn (he pins s σ H _ I h) fun v s1 ⟨y, H1, I1, r1, q1⟩ => ?_) hs
  exact store_ok I1 hN hi hx r1 (fun s2 I2 => ⟨_, H1, I2, q1⟩) hf
end

/-! ### while -/
section
variable {X : Cx} {pos : Pos}
/-- the invariant W with its measure -/
def tWhile (c : TT) (tb : TS) : TS := fun D σ H => ∃ W : Nat → St → Hp → Prop, (∃ m, W m σ H) ∧ ∀ m σ H, W m σ H →
  c σ H fun b H1 => if b = true then ∃ N : St → Hp → Prop, (∀ σ' H', N σ' H' → ∃ m', m' < m ∧ W m' σ' H') ∧ tb { D with nx := N, ct := N, bk := D.nx } σ H1 else D.nx σ H1
theorem ps_while {c : Expr} {body : List Stmt} {tc : TT} {tb : TS} (hp : PassesOwn (model X.prog X.w) X.A X.env X.xe) (hc : PT X c tc) (hb : PSs X body tb) : PS X (.While c body [] pos) (tWhile tc tb) := by
  intro pins s σ H D I h
  obtain ⟨W, ⟨m0, w0⟩, turn⟩ := h
  refine wpAny_While (codeAny_whileLoop (fun n s' => ∃ σ' H', Inv X pins σ' H' s' ∧ W n σ' H') ?_ m0 ⟨σ, H, I, w0⟩)
  rintro n s1 ⟨σ1, H1, I1, w1⟩
  refine wpAny_passesOwn hp (thn (hc pins s1 σ1 H1 _ I1 (turn n σ1 H1 w1)) fun b s2 ⟨H2, I2, q2⟩ => ?_)
  cases b with
  | true =>
    obtain ⟨N, hN, q2⟩ := q2
    rw [if_pos rfl]
    refine wpAny_passesOwn hp (thn (hb pins s2 σ1 H2 _ I2 q2) fun f s3 q3 => ?_)
    cases f with
    | next =>
      obtain ⟨σ3, H3, I3, n3⟩ := q3
      obtain ⟨m', hm, w3⟩ := hN σ3 H3 n3
      exact ⟨m', hm, σ3, H3, I3, w3⟩
    | cont =>
      obtain ⟨σ3, H3, I3, n3⟩ := q3
      obtain ⟨m', hm, w3⟩ := hN σ3 H3 n3
      exact ⟨m', hm, σ3, H3, I3, w3⟩
    | brk => exact q3
    | ret v => exact q3
  | false =>
    rw [if_neg Bool.false_ne_true]
    exact wpAny_execs_nil ⟨σ1, H2, I2, q2⟩
end

/-! ### what a loop or a comprehension walks -/
/-- at turn i: it yields x (the heap may grow), or it stops -/
structure It where
  go : Nat → Hp → Prop
  yld : Nat → Hp → V → Hp → Prop
  stop : Nat → Hp → Prop
/-- the iterator's own objects may turn: they are not the frame's, not pinned, younger than the entry (or a comprehension's own) -/
def FpOk (X : Cx) (pins : List (Addr × Obj)) (H : Hp) (b : Addr) : Prop :=
  H b = none ∧ b ≠ X.env.locals ∧ b ∉ X.fs ∧ (b ∈ X.ex ∨ X.s₀.heap.objs.size ≤ b) ∧ (∀ x c, X.env.cells.lookup x = some c → c ≠ b) ∧ ∀ p ∈ X.pn ++ pins, p.1 ≠ b
theorem Inv.fpOk {X : Cx} {pins : List (Addr × Obj)} {σ : St} {H H' : Hp} {s : Shared} {b : Addr} (I : Inv X pins σ H s) (hb : s.heap.objs.size ≤ b) (hn : H' b = none) : FpOk X pins H' b := by
  refine ⟨hn, Nat.ne_of_gt (Nat.lt_of_lt_of_le I.lt hb), I.nofs hb, .inr (Nat.le_trans I.sz hb), fun x c e z => ?_, fun p hp z => ?_⟩
  · obtain ⟨v, q⟩ := I.cell x c e
    exact absurd (Nat.lt_of_lt_of_le q.lt (by rw [z]; exact hb)) (Nat.lt_irrefl _)
  · exact absurd (Nat.lt_of_lt_of_le (Heap.lt_size (I.pin p hp).1) (by rw [z]; exact hb)) (Nat.lt_irrefl _)
structure Turn (P : Program) (w : World) (K : PySem.W.Frag) (tg : Expr) (J : It) (fp : List Addr) (it : Addr) (tn : Nat → Heap → Prop) : Prop where
  mem : it ∈ fp
  obj : ∀ i h, tn i h → ∀ b ∈ fp, ∃ o, h.get? b = some o ∧ ∀ v, o.data ≠ .cell v
  keep : ∀ i h h', tn i h → (∀ b ∈ fp, ∀ o, h.get? b = some o → h'.get? b = some o) → tn i h'
  item : ∀ (X : Cx), X.prog = P → X.w = w → X.K = K → X.calm = true → ∀ (i : Nat) (pins : List (Addr × Obj)) (s : Shared) (σ : St) (H : Hp) (E : Value → Shared → Prop), Inv X pins σ H s → (∀ b ∈ fp, FpOk X pins H b) → tn i s.heap → J.go i H →
    wpAny (model P w) X.A (pyNext (.ref it)) (fun r s1 => ∃ u, r = some u ∧
      wpAny (model P w) X.A (letOwnedTupleGo tg (.ref it) u) (fun _ s2 => ∃ x H', Inv X pins σ H' s2 ∧ RelV x u ∧ J.yld i H x H' ∧ tn (i + 1) s2.heap ∧ ∀ b ∈ fp, H' b = none) E s1) E s
  done : ∀ (X : Cx), X.prog = P → X.w = w → X.K = K → X.calm = true → ∀ (i : Nat) (pins : List (Addr × Obj)) (s : Shared) (σ : St) (H : Hp) (E : Value → Shared → Prop), Inv X pins σ H s → (∀ b ∈ fp, FpOk X pins H b) → tn i s.heap → J.stop i H →
    wpAny (model P w) X.A (pyNext (.ref it)) (fun r s1 => r = none ∧ Inv X pins σ H s1) E s
  self : ∀ (A : Around) (i : Nat) (s : Shared) (Q : Value → Shared → Prop) (E : Value → Shared → Prop), tn i s.heap → Q (.ref it) s → wpAny (model P w) A (pyIter (.ref it)) Q E s
abbrev TI := St → Hp → (It → Hp → Prop) → Prop
/-- an iterator has come -/
def PIE (X : Cx) (pins : List (Addr × Obj)) (σ : St) (tg : Expr) (R : It → Hp → Prop) (itv : Value) (s2 : Shared) : Prop :=
  ∃ (it : Addr) (fp : List Addr) (tn : Nat → Heap → Prop) (J : It) (H' : Hp), itv = .ref it ∧ Inv X pins σ H' s2 ∧ Turn X.prog X.w X.K tg J fp it tn ∧ tn 0 s2.heap ∧ (∀ b ∈ fp, FpOk X pins H' b) ∧ R J H'
def PI (X : Cx) (tg iter : Expr) (wi : TI) : Prop :=
  ∀ (pins : List (Addr × Obj)) (s : Shared) (σ : St) (H : Hp) (R : It → Hp → Prop), Inv X pins σ H s → wi σ H R →
    wpAny (model X.prog X.w) X.A (eval iter X.env) (fun v s1 => wpAny (model X.prog X.w) X.A (pyIter v) (PIE X pins σ tg R) X.xe s1) X.xe s

/-- the step ahead of the store is nothing for an iterator that keeps no tuple -/
theorem go_of {M : Model} {A : Around} {E : Value → Shared → Prop} {s : Shared} {tg : Expr} {it : Addr} {u : Value} {o : Obj} {n : String} {vs : Array Value} {Q : Unit → Shared → Prop} (ho : s.heap.get? it = some o) (hc : o.cls = .type n) (hd : o.data = .fields vs)
    (hn : ["enumerate", "zip", "dict_itemiterator", "dict_reverseitemiterator", "odict_iterator", "itertools.zip_longest", "itertools.pairwise"].contains n = false) (hQ : Q () s) : wpAny M A (letOwnedTupleGo tg (.ref it) u) Q E s := by
  unfold letOwnedTupleGo
  cases tg <;> first
    | exact wpAny_pure hQ
    | (cases u <;> first
        | exact wpAny_pure hQ
        | (refine wpAny_bind (wpAny_load ho ?_)
           rw [hc, hd]
           show wpAny M A (if (["enumerate", "zip", "dict_itemiterator", "dict_reverseitemiterator", "odict_iterator", "itertools.zip_longest", "itertools.pairwise"].contains n && vs[0]? == some (rawInt _)) = true then _ else _) Q E s
           rw [if_neg (by intro h; rw [hn, Bool.false_and] at h; cases h)]
           exact wpAny_pure hQ))

/-- the list at a, as it stands at each turn (a loop may append to it) -/
def Itl (K : PySem.W.Frag) (a : Addr) : It :=
  ⟨fun i H => ∃ xs x, SqL K H a xs ∧ xs[i]? = some x, fun i H x H' => H' = H ∧ ∀ xs, SqL K H a xs → xs[i]? = some x, fun i H => ∃ xs, SqL K H a xs ∧ xs.length ≤ i⟩
/-- lo, lo + 1, .. (n of them) -/
def Itr (lo : Int) (n : Nat) : It := ⟨fun i _ => i < n, fun i H x H' => H' = H ∧ x = .int (lo + i), fun i _ => n ≤ i⟩
theorem turn_list {P : Program} {w : World} {K : PySem.W.Frag} {tg : Expr} (a it : Addr) : Turn P w K tg (Itl K a) [it] it (fun i h => h.IsListIter it a i) where
  mem := by simp
  obj := fun i h st b hb => by
    have e : b = it := by simpa using hb
    subst e
    obtain ⟨o, e, c, d⟩ := st
    exact ⟨o, e, fun v z => by rw [d] at z; cases z⟩
  keep := fun i h h' st k => st.at fun o e => k it (by simp) o e
  item := by
    intro X hP hw hK hc i pins s σ H E I hf st hg
    subst hP hw hK
    obtain ⟨xs, x, hq, hx⟩ := hg
    obtain ⟨its, rv, p, hz⟩ := I.list hq
    obtain ⟨u, hu, ru⟩ := rv.get hx
    obtain ⟨f0, f1, f2, f3, f4, f5⟩ := hf it (by simp)
    refine wpAny_pyNext_list_item st p.isList (x := u) (by simpa using hu) fun h' st' sb => ?_
    have I1 : Inv X pins σ H { s with heap := h' } := I.turned (t' := s.toks) (fun b o hb e => (sb.2 b hb).trans e) f0 f1 f3 f4 f5
    obtain ⟨o, e, c, d⟩ := id st'
    exact ⟨u, rfl, go_of (s := { s with heap := h' }) e c d (by decide) ⟨x, H, I1, ru, ⟨rfl, fun ys hy => by rw [I.list_inj hy hq]; exact hx⟩, st', fun b hb => (hf b hb).1⟩⟩
  done := by
    intro X hP hw hK hc i pins s σ H E I hf st hg
    subst hP hw hK
    obtain ⟨xs, hq, hx⟩ := hg
    obtain ⟨its, rv, p, hz⟩ := I.list hq
    obtain ⟨f0, f1, f2, f3, f4, f5⟩ := hf it (by simp)
    have hl := rv.length
    exact wpAny_pyNext_list_end (I.ok.hd hc) st p.isList (by simp; omega) fun h' eb => ⟨rfl, I.turned (t' := s.toks) (fun b o hb e => eb b o hb e) f0 f1 f3 f4 f5⟩
  self := fun _ _ _ _ _ st h => wpAny_pyIter_listiter st h
theorem turn_range {P : Program} {w : World} {K : PySem.W.Frag} {tg : Expr} (it : Addr) (lo : Int) (n : Nat) : Turn P w K tg (Itr lo n) [it] it (fun i h => IsRangeIter h it (lo + (i : Nat) * 1) ((n : Int) - (i : Nat)) 1) where
  mem := by simp
  obj := fun i h st b hb => by
    have e : b = it := by simpa using hb
    subst e
    exact ⟨_, st, fun v z => by
      have z' : Data.fields _ = Data.cell v := z
      cases z'⟩
  keep := fun i h h' st k => k it (by simp) _ st
  item := by
    intro X hP hw hK hc i pins s σ H E I hf st hg
    subst hP hw hK
    obtain ⟨f0, f1, f2, f3, f4, f5⟩ := hf it (by simp)
    have W := Walks.range (prog := X.prog) (w := X.w) (I.ok.hd hc) it lo 1 n
    refine W.item i s _ _ hg st fun v h' tk hv st' kk => ?_
    obtain ⟨t, rfl⟩ := hv
    have I1 : Inv X pins σ H { s with heap := h', toks := tk } := I.turned (fun b o hb e => kk b o (by simpa using hb) e) f0 f1 f3 f4 f5
    refine ⟨_, rfl, go_of (s := { s with heap := h', toks := tk }) (n := "range_iterator") st' rfl rfl (by decide) ⟨.int (lo + i), H, I1, ⟨t, ?_⟩, ⟨rfl, rfl⟩, st', fun b hb => (hf b hb).1⟩⟩
    rw [Int.mul_one]
  done := by
    intro X hP hw hK hc i pins s σ H E I hf st hg
    subst hP hw hK
    obtain ⟨f0, f1, f2, f3, f4, f5⟩ := hf it (by simp)
    exact wpAny_pyNext_range_end (I.ok.hd hc) st (by have : n ≤ i := hg; omega) fun h' eb => ⟨rfl, I.turned (t' := s.toks) (fun b o hb e => eb b o hb e) f0 f1 f3 f4 f5⟩
  self := fun _ _ _ _ _ st h => wpAny_pyIter_rangeiter st h
end L2

namespace L2
open PySem PySem.Spec PyProof.Rows
section
variable {X : Cx} {tg : Expr}
def iList (K : PySem.W.Frag) (tl : TE) : TI := fun σ H R => tl σ H fun x H1 => ∃ a, x = .ref a ∧ (∃ xs, SqL K H1 a xs) ∧ R (Itl K a) H1
theorem pi_list {l : Expr} {tl : TE} (hl : PE X l tl) : PI X tg l (iList X.K tl) := by
  intro pins s σ H R I h
  refine thn (hl pins s σ H _ I h) fun v s1 ⟨x, H1, I1, r1, q1⟩ => ?_
  obtain ⟨a, e, ⟨xs, hq⟩, q⟩ := q1
  subst e
  cases r1
  obtain ⟨its, rv, p, hz⟩ := I1.list hq
  refine wpAny_pyIter_list p.isList ?_
  refine ⟨s1.heap.objs.size, [s1.heap.objs.size], _, _, H1, rfl, I1.kept (t' := s1.toks) fun b o e => Heap.get?_push_of_some _ e, turn_list a _, ⟨_, Heap.get?_push_size _ rfl, rfl, rfl⟩, fun b hb => ?_, q⟩
  have e : b = s1.heap.objs.size := by simpa using hb
  subst e
  exact I1.fpOk (Nat.le_refl _) (I1.hok.fresh (Nat.le_refl _))
/-- a range object just made, walked -/
theorem range_it {pins : List (Addr × Obj)} {σ : St} {H : Hp} {s : Shared} {R : It → Hp → Prop} {E : Value → Shared → Prop} {lo hi : Int} {t u v : Tok} {tk : Nat} (I : Inv X pins σ H s) (h1 : -(2 ^ 62) ≤ lo) (h2 : lo < 2 ^ 62) (h3 : -(2 ^ 62) ≤ hi) (h4 : hi < 2 ^ 62)
    (q : R (Itr lo (hi - lo).toNat) H) : wpAny (model X.prog X.w) X.A (pyIter (.ref s.heap.objs.size)) (PIE X pins σ tg R) E { s with heap := s.heap.push { cls := .type "range", data := .fields #[.int lo t, .int hi u, .int 1 v] }, toks := tk } := by
  refine wpAny_pyIter_range (IsRange.new ..) (small_one h1 h2 h3 h4) ?_
  have I1 : Inv X pins σ H { s with heap := s.heap.push { cls := .type "range", data := .fields #[.int lo t, .int hi u, .int 1 v] }, toks := tk } := I.kept fun b o e => Heap.get?_push_of_some _ e
  refine ⟨(s.heap.push { cls := .type "range", data := .fields #[.int lo t, .int hi u, .int 1 v] }).objs.size, [(s.heap.push { cls := .type "range", data := .fields #[.int lo t, .int hi u, .int 1 v] }).objs.size], _, _, H, rfl,
    I1.kept (t' := tk) fun b o e => Heap.get?_push_of_some _ e, turn_range _ lo (hi - lo).toNat, ?_, fun b hb => ?_, q⟩
  · have e1 : lo + ((0 : Nat) : Int) * 1 = lo := by simp
    have e2 : (((hi - lo).toNat : Nat) : Int) - ((0 : Nat) : Int) = Builtin.Range.rangeSize lo hi 1 := by rw [rangeSize_one]; split <;> omega
    show IsRangeIter _ _ (lo + ((0 : Nat) : Int) * 1) ((((hi - lo).toNat : Nat) : Int) - ((0 : Nat) : Int)) 1
    rw [e1, e2]
    exact Heap.get?_push_size _ rfl
  · have e : b = (s.heap.push { cls := .type "range", data := .fields #[.int lo t, .int hi u, .int 1 v] }).objs.size := by simpa using hb
    subst e
    exact I1.fpOk (Nat.le_refl _) (I1.hok.fresh (Nat.le_refl _))
def iRng1 (ta : TA) : TI := fun σ H R => ta σ H fun vs H1 => ∃ j : Int, vs = [.int j] ∧ -(2 ^ 62) ≤ j ∧ j < 2 ^ 62 ∧ R (Itr 0 j.toNat) H1
theorem pi_range1 {a : Expr} {ta : TA} {p pos : Pos} (hg : Gl X "range") (hm : X.mg "range" = none) (ha : PA X [a] ta) (hs : starEach [a] X.env = [(false, eval a X.env)] := by rfl) : PI X tg (.Call (.Name "range" p) [a] [] pos) (iRng1 ta) := by
  intro pins s σ H R I h
  refine Call_ (ld_blt I hg hm boot_range (PyProof.Rows.callWith_type1 (thn (ha pos pins s σ H _ I h) fun us s1 ⟨vs, H1, I1, r1, q1⟩ => ?_) hs rfl))
  obtain ⟨j, e, q1, q2, q⟩ := q1
  subst e
  cases r1 with
  | cons r rr =>
    cases rr
    obtain ⟨t, rfl⟩ := r
    exact call_range_1 (range_it I1 (by omega) (by omega) q1 q2 (by simpa using q))

/-! ### for -/
/-- W: the invariant by the turn and a measure; N: what the body is to reach -/
def tFor (wi : TI) (g : TG) (tb : TS) : TS := fun D σ H => wi σ H fun J H1 => ∃ W : Nat → Nat → St → Hp → Prop, (∃ m, W 0 m σ H1) ∧ ∀ i m σ H, W i m σ H →
  (J.stop i H ∧ D.nx σ H) ∨ (J.go i H ∧ ∃ N : St → Hp → Prop, (∀ σ' H', N σ' H' → ∃ m', m' < m ∧ W (i + 1) m' σ' H') ∧ ∀ x H', J.yld i H x H' → g x σ H' fun σ2 H2 => tb { D with nx := N, ct := N, bk := D.nx } σ2 H2)
/-- the records at fp as they stand -/
def pinsAt (fp : List Addr) (h : Heap) : List (Addr × Obj) := fp.filterMap fun b => (h.get? b).map fun o => (b, o)
theorem mem_pinsAt {fp : List Addr} {h : Heap} {b : Addr} {o : Obj} (hb : b ∈ fp) (e : h.get? b = some o) : (b, o) ∈ pinsAt fp h := List.mem_filterMap.mpr ⟨b, hb, by rw [e]; rfl⟩
theorem of_pinsAt {fp : List Addr} {h : Heap} {p : Addr × Obj} (hp : p ∈ pinsAt fp h) : p.1 ∈ fp ∧ h.get? p.1 = some p.2 := by
  obtain ⟨b, hb, e⟩ := List.mem_filterMap.mp hp
  cases q : h.get? b with
  | none => rw [q] at e; cases e
  | some o =>
    rw [q] at e
    have e' : (b, o) = p := Option.some.inj e
    subst e'
    exact ⟨hb, q⟩
theorem Inv.pinned {pins : List (Addr × Obj)} {σ : St} {H : Hp} {s : Shared} {fp : List Addr} (I : Inv X pins σ H s) (hf : ∀ b ∈ fp, FpOk X pins H b) (ho : ∀ b ∈ fp, ∃ o, s.heap.get? b = some o ∧ ∀ v, o.data ≠ .cell v) : Inv X (pins ++ pinsAt fp s.heap) σ H s :=
  I.pins_of fun p hp => (List.mem_append.mp hp).elim (fun z => I.pin p (List.mem_append_right _ z)) fun z => by
    obtain ⟨hb, e⟩ := of_pinsAt z
    obtain ⟨f0, f1, f2, _⟩ := hf p.1 hb
    obtain ⟨o, e', d⟩ := ho p.1 hb
    rw [e] at e'; cases e'
    exact ⟨e, f0, f1, f2, d⟩
theorem Inv.unpinned {pins pl : List (Addr × Obj)} {σ : St} {H : Hp} {s : Shared} (I : Inv X (pins ++ pl) σ H s) : Inv X pins σ H s := I.pins_of fun p hp => I.pin p (List.mem_append_right _ (List.mem_append_left _ hp))
theorem ps_for {iter : Expr} {body : List Stmt} {wi : TI} {g : TG} {tb : TS} {pos : Pos} (hp : PassesOwn (model X.prog X.w) X.A X.env X.xe) (hc : X.calm = true) (hi : PI X tg iter wi) (hg : PG X tg g) (hb : PSs X body tb)
    (hs : ∀ x, foldedSetIterable iter X.env x = pure x := by intro _; rfl) : PS X (.For tg iter body [] pos) (tFor wi g tb) := by
  intro pins s σ H D I h
  refine wpAny_For (thn (hi pins s σ H _ I h) fun v s1 h1 => thn h1 fun itv s2 h2 => ?_) hs
  obtain ⟨it, fp, tn, J, H2, e, I2, T, st2, f2, W, ⟨m0, w0⟩, turn⟩ := h2
  subst e
  -- what stays true of the iterator's objects through the loop
  have stat : ∀ {H' : Hp}, (∀ b ∈ fp, H' b = none) → ∀ b ∈ fp, FpOk X pins H' b := fun hn b hb => ⟨hn b hb, (f2 b hb).2⟩
  refine codeAny_forLoop_any (fun n s' => ∃ i σ' H', Inv X pins σ' H' s' ∧ tn i s'.heap ∧ (∀ b ∈ fp, H' b = none) ∧ W i n σ' H') ?_ m0 ⟨0, σ, H2, I2, st2, fun b hb => (f2 b hb).1, w0⟩
  rintro n s3 ⟨i, σ3, H3, I3, st3, fr3, w3⟩
  rcases turn i n σ3 H3 w3 with ⟨stop, qn⟩ | ⟨go, N, hN, step⟩
  · refine wpAny_passesOwn hp (thn (T.done X rfl rfl rfl hc i pins s3 σ3 H3 X.xe I3 (stat fr3) st3 stop) fun r s4 ⟨hr, I4⟩ => ?_)
    subst hr
    exact wpAny_execs_nil ⟨σ3, H3, I4, qn⟩
  · refine wpAny_passesOwn hp (thn (T.item X rfl rfl rfl hc i pins s3 σ3 H3 X.xe I3 (stat fr3) st3 go) fun r s4 ⟨u, hr, h4⟩ => ?_)
    subst hr
    refine wpAny_passesOwn hp (thn h4 fun _ s5 ⟨x, H5, I5, r5, y5, st5, fr5⟩ => ?_)
    have I5' := I5.pinned (stat fr5) (T.obj _ _ st5)
    refine wpAny_passesOwn hp (thn (hg _ s5 σ3 H5 x u _ I5' r5 (step x H5 y5)) fun _ s6 ⟨σ6, H6, I6, q6⟩ => ?_)
    refine wpAny_passesOwn hp (thn (hb _ s6 σ6 H6 _ I6 q6) fun f s7 q7 => ?_)
    have again : ∀ {σ7 : St} {H7 : Hp}, Inv X (pins ++ pinsAt fp s5.heap) σ7 H7 s7 → N σ7 H7 → ∃ m, m < n ∧ ∃ i σ' H', Inv X pins σ' H' s7 ∧ tn i s7.heap ∧ (∀ b ∈ fp, H' b = none) ∧ W i m σ' H' := fun {σ7 H7} I7 n7 => by
      obtain ⟨m', hm, w7⟩ := hN σ7 H7 n7
      refine ⟨m', hm, i + 1, σ7, H7, I7.unpinned, T.keep _ _ _ st5 fun b hb o e => (I7.pin (b, o) (List.mem_append_right _ (List.mem_append_right _ (mem_pinsAt hb e)))).1, fun b hb => ?_, w7⟩
      obtain ⟨o, e, d⟩ := T.obj _ _ st5 b hb
      exact (I7.pin (b, o) (List.mem_append_right _ (List.mem_append_right _ (mem_pinsAt hb e)))).2.1
    cases f with
    | next => obtain ⟨σ7, H7, I7, n7⟩ := q7; exact again I7 n7
    | cont => obtain ⟨σ7, H7, I7, n7⟩ := q7; exact again I7 n7
    | brk => obtain ⟨σ7, H7, I7, q7⟩ := q7; exact ⟨σ7, H7, I7.unpinned, q7⟩
    | ret v => obtain ⟨x7, σ7, H7, I7, r7, q7⟩ := q7; exact ⟨x7, σ7, H7, I7.unpinned, r7, q7⟩
end

/-! ### the forms one uses -/
/-- over a list that the body leaves as it is -/
theorem for_list {K : PySem.W.Frag} {a : Addr} {xs : List V} {g : TG} {tb : TS} {D : Ends} {σ : St} {H : Hp} (Pv : Nat → St → Hp → Prop) (h0 : Pv 0 σ H) (hl : ∀ i σ H, i ≤ xs.length → Pv i σ H → SqL K H a xs)
    (hs : ∀ i x σ H, xs[i]? = some x → Pv i σ H → g x σ H fun σ2 H2 => tb { D with nx := Pv (i + 1), ct := Pv (i + 1), bk := D.nx } σ2 H2) (hd : ∀ σ H, Pv xs.length σ H → D.nx σ H) :
    ∃ W : Nat → Nat → St → Hp → Prop, (∃ m, W 0 m σ H) ∧ ∀ i m σ H, W i m σ H →
      ((Itl K a).stop i H ∧ D.nx σ H) ∨ ((Itl K a).go i H ∧ ∃ N : St → Hp → Prop, (∀ σ' H', N σ' H' → ∃ m', m' < m ∧ W (i + 1) m' σ' H') ∧ ∀ x H', (Itl K a).yld i H x H' → g x σ H' fun σ2 H2 => tb { D with nx := N, ct := N, bk := D.nx } σ2 H2) := by
  refine ⟨fun i m σ H => m = xs.length - i ∧ i ≤ xs.length ∧ Pv i σ H, ⟨xs.length, by simp, Nat.zero_le _, h0⟩, ?_⟩
  rintro i m σ H ⟨rfl, hi, p⟩
  have q := hl i σ H hi p
  by_cases hlt : i < xs.length
  · refine .inr ⟨⟨xs, xs[i], q, by simp [hlt]⟩, Pv (i + 1), fun σ' H' p' => ⟨xs.length - (i + 1), by omega, rfl, hlt, p'⟩, fun x H' y => ?_⟩
    obtain ⟨e, y⟩ := y
    subst e
    exact hs i x σ _ (y xs q) p
  · have e : i = xs.length := by omega
    subst e
    exact .inl ⟨⟨xs, q, Nat.le_refl _⟩, hd σ H p⟩
theorem for_range {lo : Int} {n : Nat} {g : TG} {tb : TS} {D : Ends} {σ : St} {H : Hp} (Pv : Nat → St → Hp → Prop) (h0 : Pv 0 σ H)
    (hs : ∀ i σ H, i < n → Pv i σ H → g (.int (lo + i)) σ H fun σ2 H2 => tb { D with nx := Pv (i + 1), ct := Pv (i + 1), bk := D.nx } σ2 H2) (hd : ∀ σ H, Pv n σ H → D.nx σ H) :
    ∃ W : Nat → Nat → St → Hp → Prop, (∃ m, W 0 m σ H) ∧ ∀ i m σ H, W i m σ H →
      ((Itr lo n).stop i H ∧ D.nx σ H) ∨ ((Itr lo n).go i H ∧ ∃ N : St → Hp → Prop, (∀ σ' H', N σ' H' → ∃ m', m' < m ∧ W (i + 1) m' σ' H') ∧ ∀ x H', (Itr lo n).yld i H x H' → g x σ H' fun σ2 H2 => tb { D with nx := N, ct := N, bk := D.nx } σ2 H2) := by
  refine ⟨fun i m σ H => m = n - i ∧ i ≤ n ∧ Pv i σ H, ⟨n, by simp, Nat.zero_le _, h0⟩, ?_⟩
  rintro i m σ H ⟨rfl, hi, p⟩
  by_cases hlt : i < n
  · refine .inr ⟨hlt, Pv (i + 1), fun σ' H' p' => ⟨n - (i + 1), by omega, rfl, hlt, p'⟩, fun x H' y => ?_⟩
    obtain ⟨e, y⟩ := y
    subst e y
    exact hs i σ _ hlt p
  · have e : i = n := by omega
    subst e
    exact .inl ⟨Nat.le_refl _, hd σ H p⟩
/-- while, by a word and a measure of the state -/
theorem while_by {c : TT} {tb : TS} {D : Ends} {σ : St} {H : Hp} (Pv : St → Hp → Prop) (μ : St → Hp → Nat) (h0 : Pv σ H)
    (hs : ∀ σ H, Pv σ H → c σ H fun b H1 => if b = true then tb { D with nx := fun σ' H' => Pv σ' H' ∧ μ σ' H' < μ σ H, ct := fun σ' H' => Pv σ' H' ∧ μ σ' H' < μ σ H, bk := D.nx } σ H1 else D.nx σ H1)
    (mono : ∀ σ H Q Q', (∀ b H1, Q b H1 → Q' b H1) → c σ H Q → c σ H Q') : tWhile c tb D σ H := by
  refine ⟨fun m σ H => m = μ σ H ∧ Pv σ H, ⟨_, rfl, h0⟩, ?_⟩
  rintro m σ H ⟨rfl, p⟩
  refine mono σ H _ _ (fun b H1 q => ?_) (hs σ H p)
  cases b with
  | true => exact ⟨_, fun σ' H' ⟨p', l⟩ => ⟨_, l, rfl, p'⟩, q⟩
  | false => exact q
end L2

namespace L2
open PySem PySem.Spec PyProof.Rows

abbrev R2 := V → V → Hp → VK → Prop
/-- a two-place operation on values: f is binaryOp op, inplaceOp op or compareOp op -/
def OpR (X : Cx) (f : Value → Value → Sem Value) (r : R2) : Prop :=
  ∀ (pins : List (Addr × Obj)) (s : Shared) (σ : St) (H : Hp) (x y : V) (v u : Value) (Q : VK), Inv X pins σ H s → RelV x v → RelV y u → r x y H Q →
    wpAny (model X.prog X.w) X.A (f v u) (EP X pins σ Q) X.xe s
/-- a one-place operation -/
def UnR (X : Cx) (f : Value → Sem Value) (r : V → Hp → VK → Prop) : Prop :=
  ∀ (pins : List (Addr × Obj)) (s : Shared) (σ : St) (H : Hp) (x : V) (v : Value) (Q : VK), Inv X pins σ H s → RelV x v → r x H Q →
    wpAny (model X.prog X.w) X.A (f v) (EP X pins σ Q) X.xe s
/-- a call of a value that is known (a builtin, a type) with values -/
def CallR (X : Cx) (f : Value) (r : List V → Hp → VK → Prop) : Prop :=
  ∀ (pins : List (Addr × Obj)) (s : Shared) (σ : St) (H : Hp) (xs : List V) (us : List Value) (Q : VK), Inv X pins σ H s → Vals xs us → r xs H Q →
    wpAny (model X.prog X.w) X.A (call f us) (EP X pins σ Q) X.xe s

def tOp (r : R2) (ta tb : TE) : TE := fun σ H Q => ta σ H fun x H1 => tb σ H1 fun y H2 => r x y H2 Q
def tUn (r : V → Hp → VK → Prop) (ta : TE) : TE := fun σ H Q => ta σ H fun x H1 => r x H1 Q
/-- ints in, under C, and a value out -/
def rI (C : Int → Int → Prop) (g : Int → Int → V) : R2 := fun x y H Q => ∃ i j, x = .int i ∧ y = .int j ∧ C i j ∧ Q (g i j) H
def rI0 (g : Int → Int → V) : R2 := fun x y H Q => ∃ i j, x = .int i ∧ y = .int j ∧ Q (g i j) H
def rU (g : Int → V) : V → Hp → VK → Prop := fun x H Q => ∃ i, x = .int i ∧ Q (g i) H

section
variable {X : Cx} {a b c : Expr} {ta tb tc : TE} {pos : Pos}

theorem binT (ha : PE X a ta) (hb : PE X b tb) {pins : List (Addr × Obj)} {s : Shared} {σ : St} {H : Hp} {R : V → V → Hp → Prop} (I : Inv X pins σ H s)
    (h : ta σ H fun x H1 => tb σ H1 fun y H2 => R x y H2) {Q : Value → Shared → Prop} {f : Value → Value → Sem Value}
    (hf : ∀ v u s2 x y H2, Inv X pins σ H2 s2 → RelV x v → RelV y u → R x y H2 → wpAny (model X.prog X.w) X.A (f v u) Q X.xe s2) :
    wpAny (model X.prog X.w) X.A (eval a X.env) (fun v s₁ => wpAny (model X.prog X.w) X.A (eval b X.env) (fun u s₂ => wpAny (model X.prog X.w) X.A (f v u) Q X.xe s₂) X.xe s₁) X.xe s := by
  refine thn (ha pins s σ H _ I h) fun v s1 ⟨x, H1, I1, r1, q1⟩ => ?_
  refine thn (hb pins s1 σ H1 _ I1 q1) fun u s2 ⟨y, H2, I2, r2, q2⟩ => ?_
  exact hf v u s2 x y H2 I2 r1 r2 q2

theorem pe_op {op : Operator} {r : R2} (ho : OpR X (binaryOp op) r) (ha : PE X a ta) (hb : PE X b tb) : PE X (.BinOp a op b pos) (tOp r ta tb) := by
  intro pins s σ H Q I h
  exact wpAny_BinOp (binT ha hb I h fun v u s2 x y H2 I2 rx ry q => ho pins s2 σ H2 x y v u Q I2 rx ry q)
theorem pe_un {op : UnaryOp} {r : V → Hp → VK → Prop} (ho : UnR X (unaryOp op) r) (ha : PE X a ta) : PE X (.UnaryOp op a pos) (tUn r ta) := by
  intro pins s σ H Q I h
  exact UnaryOp_ (thn (ha pins s σ H _ I h) fun v s1 ⟨x, H1, I1, r1, q1⟩ => ho pins s1 σ H1 x v Q I1 r1 q1)

/-! ### ints -/
theorem opI {f : Value → Value → Sem Value} {C : Int → Int → Prop} {g : Int → Int → Int}
    (rule : ∀ (i j : Int) (t u : Tok) (s : Shared) (Q : Value → Shared → Prop) (E : Value → Shared → Prop), C i j → Q (.int (g i j) s.toks) { s with toks := s.toks + 1 } → wpAny (model X.prog X.w) X.A (f (.int i t) (.int j u)) Q E s) :
    OpR X f (rI C fun i j => .int (g i j)) := by
  intro pins s σ H x y v u Q I rx ry h
  obtain ⟨i, j, rfl, rfl, hc, q⟩ := h
  obtain ⟨t, rfl⟩ := rx
  obtain ⟨t', rfl⟩ := ry
  exact rule i j t t' s _ _ hc ⟨.int (g i j), H, I.tok _, ⟨_, rfl⟩, q⟩
theorem opI0 {f : Value → Value → Sem Value} {g : Int → Int → Int}
    (rule : ∀ (i j : Int) (t u : Tok) (s : Shared) (Q : Value → Shared → Prop) (E : Value → Shared → Prop), Q (.int (g i j) s.toks) { s with toks := s.toks + 1 } → wpAny (model X.prog X.w) X.A (f (.int i t) (.int j u)) Q E s) :
    OpR X f (rI0 fun i j => .int (g i j)) := by
  intro pins s σ H x y v u Q I rx ry h
  obtain ⟨i, j, rfl, rfl, q⟩ := h
  obtain ⟨t, rfl⟩ := rx
  obtain ⟨t', rfl⟩ := ry
  exact rule i j t t' s _ _ ⟨.int (g i j), H, I.tok _, ⟨_, rfl⟩, q⟩
theorem opB0 {f : Value → Value → Sem Value} {g : Int → Int → Bool}
    (rule : ∀ (i j : Int) (t u : Tok) (s : Shared) (Q : Value → Shared → Prop) (E : Value → Shared → Prop), Q (.bool (g i j)) s → wpAny (model X.prog X.w) X.A (f (.int i t) (.int j u)) Q E s) :
    OpR X f (rI0 fun i j => .bl (g i j)) := by
  intro pins s σ H x y v u Q I rx ry h
  obtain ⟨i, j, rfl, rfl, q⟩ := h
  obtain ⟨t, rfl⟩ := rx
  obtain ⟨t', rfl⟩ := ry
  exact rule i j t t' s _ _ ⟨.bl (g i j), H, I, rfl, q⟩

def CDiv (i j : Int) : Prop := 0 < j ∧ j < 1073741824
def CPow (i j : Int) : Prop := 0 ≤ j ∧ j ≤ 1000000 ∧ i.natAbs < 2 ^ 64
def CMul (i j : Int) : Prop := (-(2 ^ 64) < i ∧ i < 2 ^ 64) ∨ (-(2 ^ 64) < j ∧ j < 2 ^ 64)
theorem CMul.ok {i j : Int} (h : CMul i j) : IntMulOk i j := by
  rcases h with ⟨h1, h2⟩ | ⟨h1, h2⟩
  · exact .of_left (intBits_le_64 h1 h2)
  · exact .of_right (intBits_le_64 h1 h2)

theorem op_add : OpR X (binaryOp .Add) (rI0 fun i j => .int (i + j)) := opI0 fun _ _ _ _ _ _ _ q => add_int q
theorem op_sub : OpR X (binaryOp .Sub) (rI0 fun i j => .int (i - j)) := opI0 fun _ _ _ _ _ _ _ q => sub_int q
theorem op_mul : OpR X (binaryOp .Mult) (rI CMul fun i j => .int (i * j)) := opI fun _ _ _ _ _ _ _ hc q => mul_int q hc.ok
/-- // by a positive divisor -/
theorem op_fdiv : OpR X (binaryOp .FloorDiv) (rI CDiv fun i j => .int (i / j)) := opI fun i j _ _ _ _ _ hc q => by
  have h1 : (0 : Int) < j := hc.1
  have h2 : j < 1073741824 := hc.2
  exact floordiv_int (by omega) (by rw [Int.fdiv_eq_ediv_of_nonneg i (by omega)]; exact q) (.inl (PyProof.noPylong_small (by omega)))
/-- % by a positive divisor of any size -/
theorem op_mod : OpR X (binaryOp .Mod) (rI (fun _ j => 0 < j) fun i j => .int (i % j)) := opI fun i j _ _ _ _ _ hc q => by
  have h1 : (0 : Int) < j := hc
  exact mod_int' (by omega) (by rw [Int.fmod_eq_emod_of_nonneg i (by omega)]; exact q)
theorem op_shl : OpR X (binaryOp .LShift) (rI CPow fun i j => .int (i * 2 ^ j.toNat)) := opI fun _ _ _ _ _ _ _ hc q => lshift_int_small hc.1 hc.2.1 hc.2.2 q
theorem op_and : OpR X (binaryOp .BitAnd) (rI0 fun i j => .int (Builtin.bitAnd i j)) := opI0 fun _ _ _ _ _ _ _ q => and_int q
theorem op_or : OpR X (binaryOp .BitOr) (rI0 fun i j => .int (Builtin.bitOr i j)) := opI0 fun _ _ _ _ _ _ _ q => or_int q
theorem op_xor : OpR X (binaryOp .BitXor) (rI0 fun i j => .int (Builtin.bitXor i j)) := opI0 fun _ _ _ _ _ _ _ q => xor_int q


theorem unI {f : Value → Sem Value} {g : Int → Int}
    (rule : ∀ (i : Int) (t : Tok) (s : Shared) (Q : Value → Shared → Prop) (E : Value → Shared → Prop), Q (.int (g i) s.toks) { s with toks := s.toks + 1 } → wpAny (model X.prog X.w) X.A (f (.int i t)) Q E s) :
    UnR X f (rU fun i => .int (g i)) := by
  intro pins s σ H x v Q I rx h
  obtain ⟨i, rfl, q⟩ := h
  obtain ⟨t, rfl⟩ := rx
  exact rule i t s _ _ ⟨.int (g i), H, I.tok _, ⟨_, rfl⟩, q⟩
theorem un_neg : UnR X (unaryOp .USub) (rU fun i => .int (-i)) := unI fun _ _ _ _ _ q => neg_int q

/-! ### bools among ints: n += (a < b) -/
end

/-! ### comparisons -/
/-- the scalars that == tells apart as data does -/
def scal : V → V → Bool
  | .non, .non => true | .non, .int _ => true | .int _, .non => true | .non, .bl _ => true | .bl _, .non => true | .non, .str _ => true | .str _, .non => true
  | .int _, .int _ => true | .bl _, .bl _ => true | .str _, .str _ => true | .byt _, .byt _ => true
  | .int _, .str _ => true | .str _, .int _ => true | .bl _, .str _ => true | .str _, .bl _ => true
  | _, _ => false
def rEq : R2 := fun x y H Q => scal x y = true ∧ Q (.bl (decide (x = y))) H
def rNe : R2 := fun x y H Q => scal x y = true ∧ Q (.bl (!decide (x = y))) H

theorem dec_int {i j : Int} : decide (V.int i = V.int j) = (i == j) := by
  rw [Bool.eq_iff_iff]
  simp
theorem dec_bl {i j : Bool} : decide (V.bl i = V.bl j) = (i == j) := by
  rw [Bool.eq_iff_iff]
  simp
theorem dec_str {i j : Str} : decide (V.str i = V.str j) = (i == j) := by
  rw [Bool.eq_iff_iff]
  simp
theorem dec_byt {i j : Array UInt8} : decide (V.byt i = V.byt j) = (i.toList == j.toList) := by
  rw [Bool.eq_iff_iff]
  cases i
  cases j
  simp

section
variable {X : Cx} {a b c : Expr} {ta tb tc : TE} {pos : Pos}
theorem fin_bl {pins : List (Addr × Obj)} {σ : St} {H : Hp} {s : Shared} {Q : VK} {k k' : Bool} (I : Inv X pins σ H s) (q : Q (.bl k) H) (e : k = k') : EP X pins σ Q (.bool k') s := by
  subst e
  exact ⟨.bl k, H, I, rfl, q⟩
theorem op_eq : OpR X (compareOp .Eq) rEq := by
  intro pins s σ H x y v u Q I rx ry h
  obtain ⟨hs, q⟩ := h
  cases x with
  | non =>
    cases rx
    cases y with
    | non => cases ry; exact PySem.EqNone.eq_none_none (fin_bl I q (by simp))
    | bl j => cases ry; exact PySem.EqNone.eq_none_bool (fin_bl I q (by simp))
    | int j => obtain ⟨t', rfl⟩ := ry; exact PySem.EqNone.eq_none_int (fin_bl I q (by simp))
    | str j => obtain ⟨t', rfl⟩ := ry; exact PySem.EqNone.eq_none_str (fin_bl I q (by simp))
    | _ => exact absurd (show false = true from hs) Bool.false_ne_true
  | bl i =>
    cases rx
    cases y with
    | non => cases ry; exact PySem.EqNone.eq_bool_none (fin_bl I q (by simp))
    | bl j => cases ry; exact eq_bool (fin_bl I q dec_bl)
    | str j => obtain ⟨t', rfl⟩ := ry; exact PySem.EqMixed.eq_bool_str (fin_bl I q (by simp))
    | _ => exact absurd (show false = true from hs) Bool.false_ne_true
  | int i =>
    obtain ⟨t, rfl⟩ := rx
    cases y with
    | non => cases ry; exact PySem.EqNone.eq_int_none (fin_bl I q (by simp))
    | int j => obtain ⟨t', rfl⟩ := ry; exact eq_int (fin_bl I q dec_int)
    | str j => obtain ⟨t', rfl⟩ := ry; exact PySem.EqMixed.eq_int_str (fin_bl I q (by simp))
    | _ => exact absurd (show false = true from hs) Bool.false_ne_true
  | str i =>
    obtain ⟨t, rfl⟩ := rx
    cases y with
    | non => cases ry; exact PySem.EqNone.eq_str_none (fin_bl I q (by simp))
    | bl j => cases ry; exact PySem.EqMixed.eq_str_bool (fin_bl I q (by simp))
    | int j => obtain ⟨t', rfl⟩ := ry; exact PySem.EqMixed.eq_str_int (fin_bl I q (by simp))
    | str j => obtain ⟨t', rfl⟩ := ry; exact eq_str (fin_bl I q dec_str)
    | _ => exact absurd (show false = true from hs) Bool.false_ne_true
  | byt i =>
    obtain ⟨t, rfl⟩ := rx
    cases y with
    | byt j => obtain ⟨t', rfl⟩ := ry; exact PySem.W.eq_bytes (fin_bl I q dec_byt)
    | _ => exact absurd (show false = true from hs) Bool.false_ne_true
  | _ => cases y <;> exact absurd (show false = true from hs) Bool.false_ne_true
theorem op_ne : OpR X (compareOp .NotEq) rNe := by
  intro pins s σ H x y v u Q I rx ry h
  obtain ⟨hs, q⟩ := h
  cases x with
  | non =>
    cases rx
    cases y with
    | non => cases ry; exact PySem.EqNone.ne_none_none (fin_bl I q (by simp))
    | bl j => cases ry; exact PySem.EqNone.ne_none_bool (fin_bl I q (by simp))
    | int j => obtain ⟨t', rfl⟩ := ry; exact PySem.EqNone.ne_none_int (fin_bl I q (by simp))
    | str j => obtain ⟨t', rfl⟩ := ry; exact PySem.EqNone.ne_none_str (fin_bl I q (by simp))
    | _ => exact absurd (show false = true from hs) Bool.false_ne_true
  | bl i =>
    cases rx
    cases y with
    | non => cases ry; exact PySem.EqNone.ne_bool_none (fin_bl I q (by simp))
    | bl j => cases ry; exact ne_bool (fin_bl I q (congrArg not dec_bl))
    | str j => obtain ⟨t', rfl⟩ := ry; exact PySem.EqMixed.ne_bool_str (fin_bl I q (by simp))
    | _ => exact absurd (show false = true from hs) Bool.false_ne_true
  | int i =>
    obtain ⟨t, rfl⟩ := rx
    cases y with
    | non => cases ry; exact PySem.EqNone.ne_int_none (fin_bl I q (by simp))
    | int j => obtain ⟨t', rfl⟩ := ry; exact ne_int (fin_bl I q (congrArg not dec_int))
    | str j => obtain ⟨t', rfl⟩ := ry; exact PySem.EqMixed.ne_int_str (fin_bl I q (by simp))
    | _ => exact absurd (show false = true from hs) Bool.false_ne_true
  | str i =>
    obtain ⟨t, rfl⟩ := rx
    cases y with
    | non => cases ry; exact PySem.EqNone.ne_str_none (fin_bl I q (by simp))
    | bl j => cases ry; exact PySem.EqMixed.ne_str_bool (fin_bl I q (by simp))
    | int j => obtain ⟨t', rfl⟩ := ry; exact PySem.EqMixed.ne_str_int (fin_bl I q (by simp))
    | str j => obtain ⟨t', rfl⟩ := ry; exact ne_str (fin_bl I q (congrArg not dec_str))
    | _ => exact absurd (show false = true from hs) Bool.false_ne_true
  | byt i =>
    obtain ⟨t, rfl⟩ := rx
    cases y with
    | byt j => obtain ⟨t', rfl⟩ := ry; exact PySem.W.ne_bytes (fin_bl I q (congrArg not dec_byt))
    | _ => exact absurd (show false = true from hs) Bool.false_ne_true
  | _ => cases y <;> exact absurd (show false = true from hs) Bool.false_ne_true

theorem op_lt : OpR X (compareOp .Lt) (rI0 fun i j => .bl (decide (i < j))) := opB0 fun _ _ _ _ _ _ _ q => lt_int q
theorem op_gt : OpR X (compareOp .Gt) (rI0 fun i j => .bl (decide (j < i))) := opB0 fun _ _ _ _ _ _ _ q => gt_int q

/-- is None, is not None: the right side a value none -/
theorem op_isN : OpR X (compareOp .Is) (fun x y H Q => y = .non ∧ Q (.bl (decide (x = .non))) H) := by
  intro pins s σ H x y v u Q I rx ry h
  obtain ⟨rfl, q⟩ := h
  cases ry
  refine is_none_gen (fin_bl I q ?_)
  cases x <;> first
    | (cases rx; rfl)
    | (obtain ⟨t, rfl⟩ := rx; rfl)



theorem nomark (b : Expr) {op : CmpOp} (h : op ≠ .In := by decide) (h2 : op ≠ .NotIn := by decide) : behindInMarks op b = false := by
  have e1 : (op == CmpOp.In) = false := by cases op <;> first | rfl | exact absurd rfl h
  have e2 : (op == CmpOp.NotIn) = false := by cases op <;> first | rfl | exact absurd rfl h2
  cases b <;> simp [behindInMarks, e1, e2]
/-- a comparison as a value; hm: nomark b, or (for in, not in) by with_unfolding_all rfl -/
theorem pe_cmpR {op : CmpOp} {r : R2} (ho : OpR X (compareOp op) r) (ha : PE X a ta) (hb : PE X b tb) (hm : behindInMarks op b = false) : PE X (.Compare a [op] [b] pos) (tOp r ta tb) := by
  intro pins s σ H Q I h
  exact wpAny_Compare1 (binT ha hb I h fun v u s2 x y H2 I2 rx ry q => ho pins s2 σ H2 x y v u Q I2 rx ry q) hm
/-- a reading of a value as a test -/
def tTest (t : TE) : TT := fun σ H Q => t σ H fun x H' => ∃ k, x = .bl k ∧ Q k H'
theorem pt_cmpR {op : CmpOp} {r : R2} (ho : OpR X (compareOp op) r) (ha : PE X a ta) (hb : PE X b tb) (hm : behindInMarks op b = false) : PT X (.Compare a [op] [b] pos) (tTest (tOp r ta tb)) := by
  intro pins s σ H Q I h
  refine wpAny_isTrue_Compare1 (thn (ha pins s σ H _ I h) fun v s1 ⟨x, H1, I1, r1, q1⟩ => thn (hb pins s1 σ H1 _ I1 q1) fun u s2 ⟨y, H2, I2, r2, q2⟩ =>
    thn (ho pins s2 σ H2 x y v u _ I2 r1 r2 q2) fun c s3 ⟨z, H3, I3, r3, k, e, q3⟩ => ?_) hm
  subst e
  cases r3
  exact wpAny_truthy_bool ⟨H3, I3, q3⟩

/-! ### truth -/
theorem line63 : (sizeLine : Nat) < 2 ^ 63 := by rw [sizeLine_eq]; decide

/-! ### strs and bytes -/
theorem op_add_str : OpR X (binaryOp .Add) (fun x y H Q => ∃ i j, x = .str i ∧ y = .str j ∧ i.length + j.length ≤ sizeLine ∧ Q (.str (i ++ j)) H) := by
  intro pins s σ H x y v u Q I rx ry h
  obtain ⟨i, j, rfl, rfl, hz, q⟩ := h
  obtain ⟨t, rfl⟩ := rx
  obtain ⟨t', rfl⟩ := ry
  exact add_str (fun t' tk => ⟨.str (i ++ j), H, I.tok _, ⟨_, rfl⟩, q⟩) hz


/-! ### scalar builtins, by CallR -/
theorem vals1 {x : V} {us : List Value} (r : Vals [x] us) : ∃ u, us = [u] ∧ RelV x u := by
  cases r with
  | cons r1 r2 => cases r2; exact ⟨_, rfl, r1⟩
theorem vals2 {x y : V} {us : List Value} (r : Vals [x, y] us) : ∃ u w', us = [u, w'] ∧ RelV x u ∧ RelV y w' := by
  cases r with
  | cons r1 r2 =>
    cases r2 with
    | cons r3 r4 => cases r4; exact ⟨_, _, rfl, r1, r3⟩
end
end L2

namespace L2
open PySem PySem.Spec PyProof.Rows

/-! ### an instance, its attributes a map -/
structure ObjM (h : Heap) (x dx C : Addr) (mA : Str → Option Value) : Prop where
  obj : h.get? x = some (PySem.W.instObj C dx)
  ns : h.Ns1 dx mA
  ne : dx ≠ x

theorem lookIn_ns {h : Heap} {dx : Addr} {mA : Str → Option Value} (n : h.Ns1 dx mA) : ∃ od, h.get? dx = some od ∧ ∀ name, PySem.W.lookIn name od = some (mA name) := by
  obtain ⟨o, es, ep, ho, hd, hk, _, hm⟩ := n
  refine ⟨o, ho, fun name => ?_⟩
  have e := hm name
  unfold nsFind findBy at e
  rw [← Array.find?_toList] at e
  unfold PySem.W.lookIn
  rw [hd]
  dsimp only
  split
  · rename_i y q
    rw [q] at e
    exact congrArg some e
  · rename_i q
    rw [q] at e
    have a : es.toList.any (·.refKey) = false := by
      rw [List.any_eq_false]
      intro y hy
      obtain ⟨z, t, hkey⟩ := hk y (Array.mem_toList_iff.mp hy)
      simp [DictEntry.refKey, hkey]
    have a' : ¬ es.toList.any (·.refKey) = true := by rw [a]; exact Bool.false_ne_true
    rw [if_neg a']
    exact congrArg some e

theorem ObjM.look {h : Heap} {x dx C : Addr} {mA : Str → Option Value} (I : ObjM h x dx C mA) : ∃ od, PySem.W.InstAt h x (PySem.W.instObj C dx) C (some od) ∧ ∀ name, PySem.W.lookIn name od = some (mA name) :=
  let ⟨od, ho, hl⟩ := lookIn_ns I.ns
  ⟨od, ⟨I.obj, rfl, rfl, ho⟩, hl⟩

section
variable {prog : Program} {w : World} {A : Around} {E : Value → Shared → Prop} {s : Shared} {K : PySem.W.Frag} {x dx C f : Addr} {mA : Str → Option Value} {name : Str} {v : Value}

theorem get_map {expr : Bool} {Q : Value → Shared → Prop} (X : K.In s.heap) (I : ObjM s.heap x dx C mA) (hg : PySem.W.plainGet K C name = true) (hh : PySem.W.hasDictIn K C = true)
    (ha : PySem.W.findIn K (.ref C) name = some none) (hv : mA name = some v) (hv' : PySem.W.handedIn v = true) (h : Q v { s with toks := s.toks + 1 }) :
    wpAny (model prog w) A (getAttr (.ref x) name expr) Q E s := by
  obtain ⟨od, J, hl⟩ := I.look
  exact PySem.W.get_value X J (PySem.W.plainGet_of hg).1 (PySem.W.findObj_own hh ha rfl (by rw [hl, hv])) hv' h


theorem get_meth {pl : Sem Bool} {Q : Value × List Value → Shared → Prop} (X : K.In s.heap) (I : ObjM s.heap x dx C mA) (hg : PySem.W.plainGet K C name = true)
    (hf : PySem.W.findIn K (.ref C) name = some (some (.ref f))) (ht : PySem.W.isFn K (.ref f) = true) (hv : mA name = none) (h : Q (.ref f, [.ref x]) s) :
    wpAny (model prog w) A (getMethod (.ref x) name pl) Q E s := by
  obtain ⟨od, J, hl⟩ := I.look
  exact PySem.W.method_fn X J (PySem.W.plainGet_of hg).1 (PySem.W.plainGet_of hg).2 hf (beq_iff_eq.mp ht) (by show (PySem.W.lookIn name od).map (·.isSome) = some false; rw [hl, hv]; rfl) h

theorem set_map {ns : List Str} {Q : Unit → Shared → Prop} (X : K.In s.heap) (I : ObjM s.heap x dx C mA)
    (hs : PySem.W.findIn K (.ref C) "__setattr__" = some (some (.builtin "object.__setattr__"))) (hp : PySem.W.plainOver K C = true) (ht : PySem.W.takerIn K C name = some none) (hh : PySem.W.hasDictIn K C = true)
    (hw : PySem.Within mA ns) (hsz : ns.length ≤ sizeLine)
    (h : ∀ h', ObjM h' x dx C (fun y => if y = name then some v else mA y) → Heap.SameBut dx s.heap h' → Q () { s with heap := h', toks := s.toks + 2 }) :
    wpAny (model prog w) A (setAttr (.ref x) name v) Q E s := by
  obtain ⟨od, J, hl⟩ := I.look
  refine PySem.W.set_plain X J hs (PySem.W.osa_open (s := { s with toks := s.toks + 1 }) (r := none) X J hp ht fun b => ?_)
  obtain ⟨cd, hc, hd'⟩ := PySem.W.any_some hh
  have hx : s.heap.get? x = some ⟨.ref C, some dx, .plain, #[]⟩ := I.obj
  refine wpAny_bind (wpAny_pure (wpAny_bind (wpAny_bind (wpAny_loadPart hx (wpAny_bind (PySem.W.Looks.here (s := { s with toks := s.toks + 1 }) (PySem.W.looks_clsIn X hc) ?_))))))
  rw [hd']
  refine wpAny_pure (a := some dx) (wpAny_bind (wpAny_pure (wpAny_bind ?_)))
  refine wpAny_nsSet1 (s := { s with toks := s.toks + 1 }) I.ns fun h' hn2 hs2 => ?_
  obtain ⟨oD, esD, epD, hoD, hdD, hcD⟩ := hn2.count (PySem.Within.cons name v hw)
  refine wpAny_bind (wpAny_lookBehind hoD (by rw [hdD]; exact pastItsLine_dict (Nat.le_trans hcD (by rw [List.length_cons]; omega))) ?_)
  exact wpAny_pure (h _ ⟨(hs2.2 _ (Ne.symm I.ne)).trans I.obj, hn2, I.ne⟩ hs2)

/-- C(..): the dict at the heap's end, the instance behind it; then its __init__ -/
theorem make_map {R : Result → Shared → Prop} {vs : List Value} {kw : List (Str × Value)} (X : K.In s.heap) (hm : PySem.W.makesIn K C = true)
    (hi : PySem.W.findIn K (.ref C) "__init__" = some (some (.ref f))) (hf : PySem.W.typeIn K (.ref f) = some (.type "function"))
    (h : codeAny (model prog w) (A.under (.builtin "type.__call__" ⟨.ref C :: vs, kw⟩)) (.call (.ref f) ⟨.ref (s.heap.objs.size + 1) :: vs, kw⟩) (PySem.W.InitBack (s.heap.objs.size + 1) R)
      { s with heap := (s.heap.push PySem.W.emptyDict).push (PySem.W.instObj C s.heap.objs.size) }) :
    codeAny (model prog w) A (.call (.ref C) ⟨vs, kw⟩) R s := by
  obtain ⟨hh, g, d, t, os⟩ := s
  exact PySem.W.make_core (PySem.W.makes_of X hm) (PySem.W.looks_findIn X hi) (fun self => PySem.W.bind_fn X self hf) (.inl rfl) h
end

/-! ### the attributes as a list of pairs -/
def putF (f : Str) (v : V) : List (Str × V) → List (Str × V)
  | [] => [(f, v)]
  | (g, x) :: r => if g = f then (g, v) :: r else (g, x) :: putF f v r
theorem lookup_putF (f g : Str) (v : V) : ∀ fs : List (Str × V), (putF f v fs).lookup g = if g = f then some v else fs.lookup g
  | [] => by
    show List.lookup g [(f, v)] = _
    by_cases h : g = f
    · have hb : (g == f) = true := beq_iff_eq.mpr h
      simp only [List.lookup, hb, if_pos h]
    · have hb : (g == f) = false := beq_eq_false_iff_ne.mpr h
      simp only [List.lookup, hb, if_neg h]
  | (k, x) :: r => by
    have ih := lookup_putF f g v r
    rw [show putF f v ((k, x) :: r) = (if k = f then (k, v) :: r else (k, x) :: putF f v r) from rfl]
    by_cases hk : k = f
    · rw [if_pos hk]
      by_cases h : g = k
      · have hb : (g == k) = true := beq_iff_eq.mpr h
        simp only [List.lookup, hb, if_pos (h.trans hk)]
      · have hb : (g == k) = false := beq_eq_false_iff_ne.mpr h
        simp only [List.lookup, hb, if_neg (fun e : g = f => h (e.trans hk.symm))]
    · rw [if_neg hk]
      by_cases h : g = k
      · have hb : (g == k) = true := beq_iff_eq.mpr h
        simp only [List.lookup, hb, if_neg (fun e : g = f => hk (h.symm.trans e))]
      · have hb : (g == k) = false := beq_eq_false_iff_ne.mpr h
        simp only [List.lookup, hb]
        exact ih
theorem keys_putF (f : Str) (v : V) : ∀ fs : List (Str × V), f ∈ (putF f v fs).map (·.1) ∧ ∀ g, g ∈ fs.map (·.1) → g ∈ (putF f v fs).map (·.1)
  | [] => ⟨by simp [putF], fun g h => by simp at h⟩
  | (k, x) :: r => by
    obtain ⟨i1, i2⟩ := keys_putF f v r
    rw [show putF f v ((k, x) :: r) = (if k = f then (k, v) :: r else (k, x) :: putF f v r) from rfl]
    by_cases hk : k = f
    · rw [if_pos hk]
      subst hk
      exact ⟨by simp, fun g h => by simpa using h⟩
    · rw [if_neg hk]
      refine ⟨?_, fun g h => ?_⟩
      · rw [List.map_cons]
        exact List.mem_cons_of_mem _ i1
      · rw [List.map_cons] at h ⊢
        rcases List.mem_cons.mp h with e | e
        · exact List.mem_cons.mpr (.inl e)
        · exact List.mem_cons_of_mem _ (i2 g e)
theorem length_putF (f : Str) (v : V) : ∀ fs : List (Str × V), (putF f v fs).length ≤ fs.length + 1
  | [] => by simp [putF]
  | (k, x) :: r => by
    have ih := length_putF f v r
    rw [show putF f v ((k, x) :: r) = (if k = f then (k, v) :: r else (k, x) :: putF f v r) from rfl]
    by_cases hk : k = f
    · rw [if_pos hk, List.length_cons, List.length_cons]; omega
    · rw [if_neg hk, List.length_cons, List.length_cons]; omega

theorem RelO.some_of {v : V} {o : Option Value} (r : RelO (some v) o) : ∃ u, o = some u ∧ RelV v u := by
  cases o with
  | none => exact (show False from r).elim
  | some u => exact ⟨u, rfl, r⟩
theorem RelO.none_of {o : Option Value} (r : RelO none o) : o = none := by
  cases o with
  | none => rfl
  | some u => exact (show False from r).elim
theorem handed_of {v : V} {u : Value} (r : RelV v u) : PySem.W.handedIn u = true := by
  cases v with
  | non => cases (show u = Value.none from r); rfl
  | bl b => cases (show u = Value.bool b from r); rfl
  | int i => obtain ⟨t, e⟩ := (show ∃ t, u = Value.int i t from r); cases e; rfl
  | str x => obtain ⟨t, e⟩ := (show ∃ t, u = Value.str x t from r); cases e; rfl
  | byt b => obtain ⟨t, e⟩ := (show ∃ t, u = Value.bytes b t from r); cases e; rfl
  | flt b => obtain ⟨t, e⟩ := (show ∃ t, u = Value.float b t from r); cases e; rfl
  | ref a => cases (show u = Value.ref a from r); rfl
  | ty n => cases (show u = Value.type n from r); rfl

section
variable {P : Program} {w : World} {H H' : Hp} {h h' : Heap} {a C dx : Addr} {fs fs' : List (Str × V)}
theorem ins_get (hok : HOk P w H h) (e : H a = some (.ins C dx fs)) : ∃ mA, ObjM h a dx C mA ∧ (∀ f, RelO (fs.lookup f) (mA f)) ∧ PySem.Within mA (fs.map (·.1)) ∧ fs.length ≤ 1000 ∧ H dx = some (.own a) := by
  obtain ⟨d, z, ne, ob, mA, n, r, q⟩ := (show ObjOk P w H h a (.ins C dx fs) from hok a _ e)
  exact ⟨mA, ⟨ob, n, ne⟩, r, q, z, d⟩
end

/-! ### what of the text a class must have -/
structure Cls (K : PySem.W.Frag) (C : Addr) : Prop where
  pg : PySem.W.plainGet K C Str.empty = true
  hd : PySem.W.hasDictIn K C = true
  po : PySem.W.plainOver K C = true
  sa : PySem.W.findIn K (.ref C) "__setattr__" = some (some (.builtin "object.__setattr__"))
theorem Cls.get {K : PySem.W.Frag} {C : Addr} (c : Cls K C) (f : Str) : PySem.W.plainGet K C f = true := c.pg
/-- no class of it has the name -/
def NoAttr (K : PySem.W.Frag) (C : Addr) (f : Str) : Prop := PySem.W.findIn K (.ref C) f = some none
theorem NoAttr.taker {K : PySem.W.Frag} {C : Addr} {f : Str} (n : NoAttr K C f) : PySem.W.takerIn K C f = some none := by
  unfold PySem.W.takerIn
  rw [show PySem.W.findIn K (.ref C) f = some none from n]
  rfl
/-- a method: a plain def of the class or of one above it -/
structure Meth (K : PySem.W.Frag) (C : Addr) (m : Str) (f : Addr) : Prop where
  at_ : PySem.W.findIn K (.ref C) m = some (some (.ref f))
  fn : PySem.W.isFn K (.ref f) = true
  kp : PySem.W.keepIn K (.ref f) = true

section
variable {X : Cx} {pins : List (Addr × Obj)} {σ : St} {H : Hp} {s : Shared} {a C dx : Addr} {fs : List (Str × V)} {f : Str} {v : V} {A : Around} {E : Value → Shared → Prop}

theorem getattr_ok {b : Bool} {Q : Value → Shared → Prop} (I : Inv X pins σ H s) (e : H a = some (.ins C dx fs)) (c : Cls X.K C) (n : NoAttr X.K C f) (l : fs.lookup f = some v)
    (h : ∀ u s', Inv X pins σ H s' → RelV v u → Q u s') : wpAny (model X.prog X.w) A (getAttr (.ref a) f b) Q E s := by
  obtain ⟨mA, O, r, _, _, _⟩ := ins_get I.hok e
  obtain ⟨u, hu, ru⟩ := RelO.some_of (v := v) (o := mA f) (by rw [← l]; exact r f)
  exact get_map I.kIn O (c.get f) c.hd n hu (handed_of ru) (h u _ (I.tok _) ru)


theorem getmeth_ok {m : Str} {g : Addr} {pl : Sem Bool} {Q : Value × List Value → Shared → Prop} (I : Inv X pins σ H s) (e : H a = some (.ins C dx fs)) (c : Cls X.K C) (k : Meth X.K C m g) (l : fs.lookup m = none)
    (h : Q (.ref g, [.ref a]) s) : wpAny (model X.prog X.w) A (getMethod (.ref a) m pl) Q E s := by
  obtain ⟨mA, O, r, _, _, _⟩ := ins_get I.hok e
  have hn : mA m = none := RelO.none_of (by rw [← l]; exact r m)
  exact get_meth I.kIn O (c.get m) k.at_ k.fn hn h

theorem setattr_ok {y : V} {u : Value} {Q : Unit → Shared → Prop} (I : Inv X pins σ H s) (e : H a = some (.ins C dx fs)) (c : Cls X.K C) (n : NoAttr X.K C f) (hl : fs.length < 1000) (ry : RelV y u)
    (h : ∀ s', Inv X pins σ (upd H a (.ins C dx (putF f y fs))) s' → Q () s') : wpAny (model X.prog X.w) A (setAttr (.ref a) f u) Q E s := by
  obtain ⟨mA, O, r, wi, _, ho⟩ := ins_get I.hok e
  have hz : (fs.map (·.1)).length ≤ sizeLine := by rw [List.length_map, sizeLine_eq]; omega
  refine set_map I.kIn O c.sa c.po n.taker c.hd wi hz fun h' O' sb => h _ ?_
  have hd : ∃ o, h'.get? dx = some o := let ⟨o, _, _, e', _⟩ := O'.ns; ⟨o, e'⟩
  refine I.write (x := a) (e := dx) (by rw [e]; exact True.intro) (.inr ho) (fun b q hb z => (sb.2 b hb).trans z) hd ?_
  refine ⟨by rw [upd_ne O.ne]; exact ho, ?_, O.ne, O'.obj, _, O'.ns, fun g => ?_, fun g hg => ?_⟩
  · have := length_putF f y fs; omega
  · show RelO ((putF f y fs).lookup g) (if g = f then some u else mA g)
    rw [lookup_putF]
    by_cases q : g = f
    · rw [if_pos q, if_pos q]; exact ry
    · rw [if_neg q, if_neg q]; exact r g
  · by_cases q : g = f
    · rw [q]; exact (keys_putF f y fs).1
    · refine (keys_putF f y fs).2 g (wi g fun z => hg ?_)
      show (if g = f then some u else mA g) = none
      rw [if_neg q]; exact z

/-- a new instance, tracked, without attributes -/
theorem Inv.made (I : Inv X pins σ H s) : Inv X pins σ (upd (upd H s.heap.objs.size (.own (s.heap.objs.size + 1))) (s.heap.objs.size + 1) (.ins C s.heap.objs.size []))
    { s with heap := (s.heap.push PySem.W.emptyDict).push (PySem.W.instObj C s.heap.objs.size) } := by
  have e1 : (s.heap.push PySem.W.emptyDict).get? s.heap.objs.size = some PySem.W.emptyDict := Heap.get?_push_size s.heap rfl
  have e2 : ((s.heap.push PySem.W.emptyDict).push (PySem.W.instObj C s.heap.objs.size)).get? (s.heap.objs.size + 1) = some (PySem.W.instObj C s.heap.objs.size) := by
    have := Heap.get?_push_size (s.heap.push PySem.W.emptyDict) (o := PySem.W.instObj C s.heap.objs.size) rfl
    rwa [Heap.size_push] at this
  have e3 : (s.heap.push PySem.W.emptyDict).Ns s.heap.objs.size (fun _ => none) := ⟨PySem.W.emptyDict, #[], _, e1, rfl, (fun e he => absurd he (by simp)), fun _ => rfl⟩
  have I1 := I.laid (a := s.heap.objs.size) (o := .own (s.heap.objs.size + 1)) (h' := s.heap.push PySem.W.emptyDict) (t' := s.toks) (fun b u q => Heap.get?_push_of_some _ q) (Nat.le_refl _) ⟨_, e1⟩
  refine I1.laid (a := s.heap.objs.size + 1) (o := .ins C s.heap.objs.size []) (t' := s.toks) (fun b u q => Heap.get?_push_of_some _ q) (Nat.le_of_eq (Heap.size_push _ _)) ?_
  have ne : s.heap.objs.size ≠ s.heap.objs.size + 1 := Nat.ne_of_lt (Nat.lt_succ_self _)
  refine ⟨by rw [upd_ne ne, upd_same], Nat.zero_le _, ne, e2, fun _ => none, (Heap.Ns1.of_empty e3).at fun o q => Heap.get?_push_of_some _ q, fun _ => True.intro, fun y hy => absurd rfl hy⟩

/-- e.f where nothing but the object is asked: through attributeBase (super) and the last hold -/
theorem attr_of {prog : Program} {w : World} {env : Env} {e : Expr} {f : Str} {pos : Pos} {s : Shared} {Q : Value → Shared → Prop} (hb : attributeBase e f env (eval e env) = eval e env)
    (h : wpAny (model prog w) A (eval e env) (fun o s₁ => wpAny (model prog w) A (getAttr o f true) Q E s₁) E s) : wpAny (model prog w) A (eval (.Attribute e f pos) env) Q E s :=
  Attribute_any_ h (by rw [arm_eval_Attribute, hb])
end

/-! ### readings and rules -/
/-- e.f, an attribute of the instance -/
def tFld (K : PySem.W.Frag) (ta : TE) (f : Str) : TE := fun σ H Q => ta σ H fun x H1 => ∃ a C dx fs v, x = .ref a ∧ H1 a = some (.ins C dx fs) ∧ Cls K C ∧ NoAttr K C f ∧ fs.lookup f = some v ∧ Q v H1
/-- e.f = value -/
def sFld (K : PySem.W.Frag) (ta tv : TE) (f : Str) : TS := fun D σ H => tv σ H fun y H1 => ta σ H1 fun x H2 => ∃ a C dx fs, x = .ref a ∧ H2 a = some (.ins C dx fs) ∧ Cls K C ∧ NoAttr K C f ∧ fs.length < 1000 ∧
  D.nx σ (upd H2 a (.ins C dx (putF f y fs)))

section
variable {X : Cx} {o e value : Expr} {f : Str} {pos pos' tpos : Pos} {ta tv : TE}
theorem pe_fld (he : PE X e ta) (hb : attributeBase e f X.env (eval e X.env) = eval e X.env) : PE X (.Attribute e f pos) (tFld X.K ta f) := by
  intro pins s σ H Q I h
  refine attr_of hb (thn (he pins s σ H _ I h) fun u s1 ⟨x, H1, I1, rx, a, C, dx, fs, v, ex, ea, c, n, l, q⟩ => ?_)
  subst ex
  obtain rfl : u = Value.ref a := rx
  exact getattr_ok I1 ea c n l fun u' s2 I2 ru => ⟨v, H1, I2, ru, q⟩
theorem ps_fld (ha : PE X o ta) (hv : PE X value tv) (hs : swapsWith value (some (.Attribute o f pos')) pos.line X.env = pure false) : PS X (.Assign [.Attribute o f pos'] value pos) (sFld X.K ta tv f) := by
  intro pins s σ H D I h
  refine plainObj_wpAny_Assign_Attribute (thn (hv pins s σ H _ I h) fun u s1 ⟨y, H1, I1, ry, q⟩ => thn (ha pins s1 σ H1 _ I1 q) fun ov s2 ⟨x, H2, I2, rx, a, C, dx, fs, ex, ea, c, n, l, q2⟩ => ?_) hs
  subst ex
  obtain rfl : ov = Value.ref a := rx
  exact setattr_ok I2 ea c n l ry fun s3 I3 => ⟨σ, _, I3, q2⟩

end

/-! ### isinstance -/
section
variable {X : Cx} {pins : List (Addr × Obj)} {σ : St} {H : Hp} {s : Shared} {A : Around} {E : Value → Shared → Prop} {Q : Value → Shared → Prop} {c : Value} {b : Bool}
/-- the type of a value, as the fragment's deciders take it; for an instance its class -/
inductive TyOf (K : PySem.W.Frag) (H : Hp) : V → Value → Prop where
  | non : TyOf K H .non (.type "NoneType")
  | bl (x : Bool) : TyOf K H (.bl x) (.type "bool")
  | int (i : Int) : TyOf K H (.int i) (.type "int")
  | str (x : Str) : TyOf K H (.str x) (.type "str")
  | flt (x : UInt64) : TyOf K H (.flt x) (.type "float")
  | lst {a : Addr} {xs : List V} (e : H a = some (.lst xs)) : TyOf K H (.ref a) (.type "list")
  | frz {a : Addr} {o : Obj} {xs : List V} (e : H a = some (.frz o (.lst xs))) : TyOf K H (.ref a) (.type "list")
  | tup {a : Addr} {xs : List V} (e : H a = some (.tup xs)) : TyOf K H (.ref a) (.type "tuple")
  | dK {a : Addr} {kvs : List (Key × V)} (e : H a = some (.dK kvs)) : TyOf K H (.ref a) (.type "dict")
  | dT {a : Addr} {kvs : List (List Key × V)} (e : H a = some (.dT kvs)) : TyOf K H (.ref a) (.type "dict")
  | ins {a C dx : Addr} {fs : List (Str × V)} (e : H a = some (.ins C dx fs)) (cl : Cls K C) (ha : PySem.W.findIn K (.ref C) "__class__" = some (some (.builtin "object.__class__")))
      (hn : PySem.W.specialIn K (.builtin "object.__class__") "__get__" = some (some (.builtin "getset_descriptor.__get__"))) (htk : PySem.W.takesIn K (.builtin "object.__class__") = some true)
      (hm : PySem.W.mroIn K C (.type "object") = some true) : TyOf K H (.ref a) (.ref C)
/-- isinstance(x, c) for one class c, a built-in or an own one: kitOne's answer -/
theorem isinst_ok {x : V} {u t : Value} (I : Inv X pins σ H s) (rx : RelV x u) (ty : TyOf X.K H x t) (e : PySem.W.kitOne X.K t c = some b) (h : ∀ tk, Q (.bool b) { s with toks := tk }) :
    wpAny (model X.prog X.w) A (call (.builtin "isinstance") [u, c]) Q E s := by
  cases ty with
  | non => cases (show u = Value.none from rx); exact PySem.W.kia_one PySem.W.kitx_none I.kIn True.intro e (fun z => nomatch z) h
  | bl y => cases (show u = Value.bool y from rx); exact PySem.W.kia_one PySem.W.kitx_bool I.kIn True.intro e (fun z => nomatch z) h
  | int i => obtain ⟨t, q⟩ := (show ∃ t, u = Value.int i t from rx); cases q; exact PySem.W.kia_one PySem.W.kitx_int I.kIn True.intro e (fun z => nomatch z) h
  | str y => obtain ⟨t, q⟩ := (show ∃ t, u = Value.str y t from rx); cases q; exact PySem.W.kia_one PySem.W.kitx_str I.kIn True.intro e (fun z => nomatch z) h
  | flt y => obtain ⟨t, q⟩ := (show ∃ t, u = Value.float y t from rx); cases q; exact PySem.W.kia_one PySem.W.kitx_float I.kIn True.intro e (fun z => nomatch z) h
  | @lst a xs ea =>
    cases (show u = Value.ref a from rx)
    obtain ⟨_, _, n, _, h1⟩ := (show ObjOk X.prog X.w H s.heap a (.lst xs) from I.hok a _ ea)
    exact PySem.W.kia_one PySem.W.kitx_list I.kIn ⟨_, h1, rfl⟩ e (fun z => nomatch z) h
  | @frz a ob xs ea =>
    cases (show u = Value.ref a from rx)
    obtain ⟨_, _, _, n, _, h1⟩ := (show ObjOk X.prog X.w H s.heap a (.frz ob (.lst xs)) from I.hok a _ ea)
    exact PySem.W.kia_one PySem.W.kitx_list I.kIn ⟨_, h1, rfl⟩ e (fun z => nomatch z) h
  | @tup a xs ea =>
    cases (show u = Value.ref a from rx)
    obtain ⟨_, _, _, p⟩ := (show ObjOk X.prog X.w H s.heap a (.tup xs) from I.hok a _ ea)
    obtain ⟨o, h1, h2, _⟩ := p
    exact PySem.W.kia_one PySem.W.kitx_tuple I.kIn ⟨o, h1, h2⟩ e (fun z => nomatch z) h
  | @dK a kvs ea =>
    cases (show u = Value.ref a from rx)
    obtain ⟨_, _, vs, _, p⟩ := (show ObjOk X.prog X.w H s.heap a (.dK kvs) from I.hok a _ ea)
    obtain ⟨o, es, ep, h1, h2, _⟩ := p
    exact PySem.W.kia_one PySem.W.kitx_dict I.kIn ⟨o, h1, h2.1⟩ e (fun z => nomatch z) h
  | @dT a kvs ea =>
    cases (show u = Value.ref a from rx)
    obtain ⟨_, _, xs, _, o, es, ep, h1, h2, _⟩ := (show ObjOk X.prog X.w H s.heap a (.dT kvs) from I.hok a _ ea)
    exact PySem.W.kia_one PySem.W.kitx_dict I.kIn ⟨o, h1, h2.1⟩ e (fun z => nomatch z) h
  | @ins a C dx fs ea cl ha hn htk hm =>
    cases (show u = Value.ref a from rx)
    obtain ⟨mA, O, _⟩ := ins_get I.hok ea
    obtain ⟨od, J, _⟩ := O.look
    exact PySem.W.kia_one (PySem.W.kitx_own (cl.get _) cl.hd ha hn htk hm) I.kIn J e (fun z => nomatch z) h
end
end L2

namespace L2
open PySem PySem.Spec PyProof.Rows

/-! ### room -/
structure Room (k : Nat) (A : Around) : Prop where
  hd : A.handled = none
  dp : A.depth + 3 * k + 5 < recursionLimit
  un : A.units + 16 * k + 200 < cLine
theorem Room.mono {j k : Nat} {A : Around} (r : Room k A) (h : j ≤ k) : Room j A := ⟨r.hd, by have := r.dp; omega, by have := r.un; omega⟩
theorem Room.deeper {k : Nat} {A : Around} (r : Room (k + 1) A) (env : Env) : Room k (A.deeper env) :=
  ⟨r.hd, by have := r.dp; show A.depth + 1 + 3 * k + 5 < _; omega, by have := r.un; show A.units + 3 + 16 * k + 200 < _; omega⟩
theorem make_depth {A : Around} {C : Addr} {us : List Value} {kw : List (Str × Value)} : (A.under (.builtin "type.__call__" ⟨.ref C :: us, kw⟩)).depth = A.depth + 1 := by
  first | rfl | simp [Around.under, Code.weight, Code.isCreation, Code.isGuard, Code.isCaller, Code.frames, Code.isFrame, guardIds]
theorem make_units {A : Around} {C : Addr} {us : List Value} {kw : List (Str × Value)} : (A.under (.builtin "type.__call__" ⟨.ref C :: us, kw⟩)).units = A.units + 1 := by
  first | rfl | simp [Around.under, Code.cUnits, Code.frames, Code.isFrame]
theorem Room.make {k : Nat} {A : Around} (r : Room (k + 1) A) (C : Addr) (us : List Value) (kw : List (Str × Value)) : Room k (A.under (.builtin "type.__call__" ⟨.ref C :: us, kw⟩)) :=
  ⟨r.hd, by have := r.dp; rw [make_depth]; omega, by have := r.un; rw [make_units]; omega⟩
theorem Room.depth {k : Nat} {A : Around} (r : Room k A) : A.depth < recursionLimit := by have := r.dp; omega
theorem Room.units {k : Nat} {A : Around} (r : Room k A) : A.units + 64 < cLine := by have := r.un; omega

/-! ### argument lists and displays -/
def tNil : TA := fun _ H Q => Q [] H
def tCons (ta : TE) (tr : TA) : TA := fun σ H Q => ta σ H fun x H1 => tr σ H1 fun xs H2 => Q (x :: xs) H2
section
variable {X : Cx} {e : Expr} {es : List Expr} {te : TE} {t : TA} {pos : Pos}
theorem pa_nil : PA X [] tNil := fun _ _ _ _ H Q I h => Calls.spliced_nil ⟨[], H, I, .nil, h⟩
theorem pa_cons (ha : PE X e te) (hr : PA X es t) (hs : starEach (e :: es) X.env = (false, eval e X.env) :: starEach es X.env := by rfl) : PA X (e :: es) (tCons te t) := by
  intro pos pins s σ H Q I h
  rw [hs]
  show wpAny _ _ (spliced ((false, eval e X.env) :: backTo pos (starEach es X.env))) _ _ s
  refine Calls.spliced_cons (thn (ha pins s σ H _ I h) fun u s1 ⟨x, H1, I1, r1, q1⟩ => ?_)
  exact thn (hr pos pins s1 σ H1 _ I1 q1) fun us s2 ⟨xs, H2, I2, r2, q2⟩ => ⟨x :: xs, H2, I2, .cons r1 r2, q2⟩

/-- a tuple, a list of written items -/
def tTup (t : TA) : TE := fun σ H Q => t σ H fun xs H1 => xs.length ≤ sizeLine ∧ ∀ p, H1 p = none → Q (.ref p) (upd H1 p (.tup xs))
def tLst (t : TA) : TE := fun σ H Q => t σ H fun xs H1 => xs.length ≤ sizeLine ∧ ∀ p, H1 p = none → Q (.ref p) (upd H1 p (.lst xs))
theorem pe_tup {x1} (h : PA X es t) : PE X (.Tuple es x1 pos) (tTup t) := by
  intro pins s σ H Q I hq
  refine wpAny_Tuple_spliced (thn (h pos pins s σ H _ I hq) fun us s1 ⟨xs, H1, I1, r, z, q⟩ => ⟨by rw [← r.length]; exact z, ?_⟩)
  have hf : H1 s1.heap.objs.size = none := I1.hok.fresh (Nat.le_refl _)
  refine ⟨.ref s1.heap.objs.size, upd H1 s1.heap.objs.size (.tup xs), I1.laid (t' := s1.toks) (fun b u e => Heap.get?_push_of_some _ e) (Nat.le_refl _) ?_, rfl, q _ hf⟩
  exact ⟨z, us, r, ⟨_, Heap.get?_push_size _ rfl, rfl, _, rfl⟩⟩
theorem pe_lst (h : PA X es t) : PE X (.List es pos) (tLst t) := by
  intro pins s σ H Q I hq
  refine wpAny_List_spliced (thn (h pos pins s σ H _ I hq) fun us s1 ⟨xs, H1, I1, r, z, q⟩ => ⟨by rw [← r.length]; exact z, ?_⟩)
  have hf : H1 s1.heap.objs.size = none := I1.hok.fresh (Nat.le_refl _)
  refine ⟨.ref s1.heap.objs.size, upd H1 s1.heap.objs.size (.lst xs), I1.laid (t' := s1.toks) (fun b u e => Heap.get?_push_of_some _ e) (Nat.le_refl _) ?_, rfl, q _ hf⟩
  exact ⟨z, us, 0, r, Heap.get?_push_size _ rfl⟩
end

/-! ### what a def promises -/
/-- a def's promise: the bound arguments in the parameters' order, the heap, the wanted end, the wanted exception -/
abbrev Sp := List V → Hp → VK → XK → Prop
/-- how an exception lies behind a call (file 08 gives it): the callers' frames, abstract heap and state ahead of the call, the wish, the exception, the state -/
abbrev CXT := List Env → Hp → Shared → XK → Value → Shared → Prop

/-- the state at a call -/
structure Env0 (P : Program) (w : World) (K : PySem.W.Frag) (mg : Str → Option Value) (base : Heap) (A : Around) (outer : List Env) (s : Shared) (H : Hp) : Prop where
  frames : A.frames = some outer
  mod : Mod K mg base
  bs : ∀ b o, base.get? b = some o → s.heap.get? b = some o ∧ H b = none
  bsz : base.objs.size ≤ s.heap.objs.size
  funs : s.heap.FunFrames base outer
  frf : ∀ b ∈ frs outer, H b = none
  hok : HOk P w H s.heap
  bare : AllBare s.gens
/-- a call's end -/
def CE (outer : List Env) (P : Program) (w : World) (H : Hp) (s : Shared) (Q : VK) (u : Value) (s' : Shared) : Prop :=
  ∃ v H', s'.os = s.os ∧ AllBare s'.gens ∧ Un (frs outer) [] H H' s.heap s'.heap ∧ HOk P w H' s'.heap ∧ RelV v u ∧ Q v H'
def CR (CX : CXT) (outer : List Env) (P : Program) (w : World) (H : Hp) (s : Shared) (Q : VK) (E : XK) (r : Result) (s' : Shared) : Prop :=
  match r with
  | .ok (.ret u) => CE outer P w H s Q u s'
  | .ok _ => False
  | .error e => CX outer H s E e s'
structure FnOk (P : Program) (w : World) (K : PySem.W.Frag) (mg : Str → Option Value) (base : Heap) (CX : CXT) (k : Nat) (f : Addr) (fd : FuncData) (ps : List Str) (sp : Sp) : Prop where
  len : ∀ vs H Q E, sp vs H Q E → vs.length = ps.length
  run : ∀ (A : Around) (outer : List Env) (s : Shared) (H : Hp) (args : Args) (us : List Value) (vs : List V) (Q : VK) (E : XK), Room k A → Env0 P w K mg base A outer s H → BindsTo s fd args (ps.zip us) → Vals vs us → sp vs H Q E →
    codeAny (model P w) A (.call (.ref f) args) (CR CX outer P w H s Q E) s
theorem FnOk.mono {P : Program} {w : World} {K : PySem.W.Frag} {mg : Str → Option Value} {base : Heap} {CX : CXT} {j k : Nat} {f : Addr} {fd : FuncData} {ps : List Str} {sp : Sp} (F : FnOk P w K mg base CX j f fd ps sp) (h : j ≤ k) :
    FnOk P w K mg base CX k f fd ps sp := ⟨F.len, fun A outer s H args us vs Q E hr => F.run A outer s H args us vs Q E (hr.mono h)⟩

theorem Env0.make {P : Program} {w : World} {K : PySem.W.Frag} {mg : Str → Option Value} {base : Heap} {A : Around} {outer : List Env} {s : Shared} {H : Hp} (e : Env0 P w K mg base A outer s H) (C : Addr) (us : List Value) (kw : List (Str × Value)) :
    Env0 P w K mg base (A.under (.builtin "type.__call__" ⟨.ref C :: us, kw⟩)) outer s H := ⟨by first | exact e.frames | (simpa [Around.under, Code.envs, Code.isFrame, pushEnvs] using e.frames), e.mod, e.bs, e.bsz, e.funs, e.frf, e.hok, e.bare⟩

section
variable {X : Cx} {pins : List (Addr × Obj)} {σ : St} {H : Hp} {s s' : Shared}
/-- from a body: what a callee wants -/
theorem Inv.env0 (I : Inv X pins σ H s) : Env0 X.prog X.w X.K X.mg X.base X.A X.stack s H :=
  ⟨I.ok.frames, I.ok.mod, I.bs, Nat.le_trans I.ok.bsz I.sz, I.stack, I.stkFree, I.hok, I.bare⟩
/-- behind a call -/
theorem Inv.after {Q : VK} {u : Value} (I : Inv X pins σ H s) (h : CE X.stack X.prog X.w H s Q u s') : EP X pins σ Q u s' := by
  obtain ⟨v, H', os, bare, un, hok, r, q⟩ := h
  obtain ⟨hh, g, d, t, os'⟩ := s'
  obtain rfl : os' = s.os := os
  exact ⟨v, H', I.call (h' := hh) (g' := g) (d' := d) (t' := t) (ch := []) un hok bare (fun b z => absurd z (by simp)), r, q⟩
end

/-! ### calls -/
/-- f(..): the written arguments, then the defaults dvs; E: what is wanted of an exception -/
def tCall (sp : Sp) (dvs : List V) (E : XK) (t : TA) : TE := fun σ H Q => t σ H fun vs H1 => sp (vs ++ dvs) H1 Q E
/-- o.m(..) of an instance of the class at C -/
def tMeth (C : Addr) (m : Str) (sp : Sp) (dvs : List V) (E : XK) (ta : TE) (t : TA) : TE := fun σ H Q => ta σ H fun x H1 => ∃ a dx fs, x = .ref a ∧ H1 a = some (.ins C dx fs) ∧ fs.lookup m = none ∧
  t σ H1 fun vs H2 => sp (x :: (vs ++ dvs)) H2 Q E
/-- C(..): a new instance and its dict, then __init__ -/
def tMake (C : Addr) (sp : Sp) (dvs : List V) (E : XK) (t : TA) : TE := fun σ H Q => t σ H fun vs H1 => ∀ x dx, H1 x = none → H1 dx = none → dx ≠ x →
  sp (.ref x :: (vs ++ dvs)) (upd (upd H1 dx (.own x)) x (.ins C dx [])) (fun v H2 => v = .non ∧ Q (.ref x) H2) E

/-- how the parameters are bound: us the positional arguments, kw the keywords' values by name, ds the defaults that fill up -/
def Binds (K : PySem.W.Frag) (fd : FuncData) (ps : List Str) (ds : List Value) : Prop :=
  ∀ (s : Shared) (us : List Value), K.In s.heap → (us ++ ds).length = ps.length → BindsTo s fd ⟨us, []⟩ (ps.zip (us ++ ds))
/-- every parameter is given -/
theorem Binds.all {K : PySem.W.Frag} {fd : FuncData} {ps : List Str} (h : ∀ us : List Value, us.length = ps.length → bindArgs fd ⟨us, []⟩ = pure (ps.zip us)) : Binds K fd ps [] := fun s us _ hl => by
  rw [List.append_nil] at hl ⊢
  exact .of_eq (h us hl)

/-- an exception of a callee reaches what this body wants of exceptions -/
def Passes (CX : CXT) (X : Cx) (E : XK) : Prop := ∀ (pins : List (Addr × Obj)) (σ : St) (H : Hp) (s : Shared) (e : Value) (s' : Shared), Inv X pins σ H s → CX X.stack H s E e s' → X.xe e s'

section
variable {X : Cx} {CX : CXT} {k : Nat} {f C : Addr} {fd : FuncData} {ps : List Str} {sp : Sp} {dvs : List V} {ds : List Value} {E : XK} {x m : Str} {p pos apos : Pos} {e o : Expr} {es : List Expr} {ta : TE} {t : TA}

/-- the callee runs -/
theorem run_fn {pins : List (Addr × Obj)} {σ : St} {H : Hp} {s : Shared} {Q : VK} {us : List Value} {vs : List V} (F : FnOk X.prog X.w X.K X.mg X.base CX k f fd ps sp) (hr : Room k X.A) (hb : Binds X.K fd ps ds) (hd : Vals dvs ds) (hx : Passes CX X E)
    (I : Inv X pins σ H s) (r : Vals vs us) (h : sp (vs ++ dvs) H Q E) : wpAny (model X.prog X.w) X.A (call (.ref f) us) (EP X pins σ Q) X.xe s := by
  have r2 : Vals (vs ++ dvs) (us ++ ds) := r.append hd
  have hl : (us ++ ds).length = ps.length := by rw [← r2.length]; exact F.len _ _ _ _ h
  refine wpAny_call (codeAny_mono (F.run X.A X.stack s H ⟨us, []⟩ (us ++ ds) (vs ++ dvs) Q E hr I.env0 (hb s us I.kIn hl) r2 h) fun r s' hq => ?_)
  cases r with
  | error e => exact hx pins σ H s e s' I hq
  | ok fl =>
    cases fl with
    | ret u => exact I.after hq
    | next => exact False.elim hq
    | brk => exact False.elim hq
    | cont => exact False.elim hq

theorem pe_call (F : FnOk X.prog X.w X.K X.mg X.base CX k f fd ps sp) (hr : Room k X.A) (hg : Gl X x) (hm : X.mg x = some (.ref f)) (hk : PySem.W.keepIn X.K (.ref f) = true) (hb : Binds X.K fd ps ds) (hd : Vals dvs ds) (hx : Passes CX X E)
    (ha : PA X (e :: es) t) (hdb : (x == ("__debug__" : Str)) = false := by decide) (he : starEach (e :: es) X.env = (false, eval e X.env) :: starEach es X.env := by rfl) (hpl : (backTo pos (starEach es X.env)).any (·.1) = false := by rfl) :
    PE X (.Call (.Name x p) (e :: es) [] pos) (tCall sp dvs E t) := by
  intro pins s σ H Q I h
  refine wpAny_Call_Name_kw (ld_glob I hg hm ?_ hdb)
  refine PySem.W.callWith_K (h₀ := X.base) I.ok.mod.kin hk (thn (ha pos pins s σ H _ I h) fun us s1 ⟨vs, H1, I1, r, q⟩ => ⟨I1.kIn, ?_⟩) he hpl
  exact run_fn F hr hb hd hx I1 r q

/-- o.m(e, ..) -/
theorem pe_meth {pl : Sem Bool} (he : PE X o ta) (c : Cls X.K C) (hm : Meth X.K C m f) (F : FnOk X.prog X.w X.K X.mg X.base CX k f fd ps sp) (hr : Room k X.A) (hb : Binds X.K fd ps ds) (hd : Vals dvs ds) (hx : Passes CX X E) (ha : PA X (e :: es) t)
    (hst : starEach (e :: es) X.env = (false, eval e X.env) :: starEach es X.env := by rfl) (hpl : (backTo pos (starEach es X.env)).any (·.1) = false := by rfl)
    (ht : eval (.Call (.Attribute o m apos) (e :: es) [] pos) X.env = (do
      let ov ← eval o X.env
      standAt apos.atName
      let (f, first) ← holding [ov] (getMethod ov m pl)
      callWith pos f first (backTo pos (starEach (e :: es) X.env)) (backToKw pos (keywordEach [] X.env))) := by rfl) :
    PE X (.Call (.Attribute o m apos) (e :: es) [] pos) (tMeth C m sp dvs E ta t) := by
  intro pins s σ H Q I h
  refine PySem.W.methodCall_KW (pl := pl) (thn (he pins s σ H _ I h) fun u s1 ⟨x, H1, I1, rx, a, dx, fs, ex, ea, l, q⟩ => ?_) ht
  subst ex
  obtain rfl : u = Value.ref a := rx
  refine getmeth_ok I1 ea c hm l ?_
  refine PySem.W.callWith_K (first := [.ref a]) (h₀ := X.base) I.ok.mod.kin hm.kp (thn (ha pos pins s1 σ H1 _ I1 q) fun us s2 ⟨vs, H2, I2, r, q2⟩ => ⟨I2.kIn, ?_⟩) hst hpl
  exact run_fn (us := .ref a :: us) (vs := .ref a :: vs) F hr hb hd hx I2 (.cons rfl r) q2

/-- what a class must have to be made -/
structure Mk (K : PySem.W.Frag) (C f : Addr) : Prop where
  makes : PySem.W.makesIn K C = true
  init : PySem.W.findIn K (.ref C) "__init__" = some (some (.ref f))
  fn : PySem.W.isFn K (.ref f) = true
  kp : PySem.W.keepIn K (.ref C) = true

theorem run_make {pins : List (Addr × Obj)} {σ : St} {H : Hp} {s : Shared} {Q : VK} {us : List Value} {vs : List V} (M : Mk X.K C f) (F : FnOk X.prog X.w X.K X.mg X.base CX k f fd ps sp) (hr : Room (k + 1) X.A) (hb : Binds X.K fd ps ds) (hd : Vals dvs ds)
    (hx : Passes CX X E) (I : Inv X pins σ H s) (r : Vals vs us)
    (h : ∀ x dx, H x = none → H dx = none → dx ≠ x → sp (.ref x :: (vs ++ dvs)) (upd (upd H dx (.own x)) x (.ins C dx [])) (fun v H2 => v = .non ∧ Q (.ref x) H2) E) :
    wpAny (model X.prog X.w) X.A (call (.ref C) us) (EP X pins σ Q) X.xe s := by
  have hq := h (s.heap.objs.size + 1) s.heap.objs.size (I.hok.fresh (Nat.le_succ _)) (I.hok.fresh (Nat.le_refl _)) (Nat.ne_of_lt (Nat.lt_succ_self _))
  have I2 := Inv.made (C := C) I
  have r2 : Vals (V.ref (s.heap.objs.size + 1) :: (vs ++ dvs)) (Value.ref (s.heap.objs.size + 1) :: (us ++ ds)) := .cons rfl (r.append hd)
  have hl : (Value.ref (s.heap.objs.size + 1) :: us ++ ds).length = ps.length := by
    have e := r2.length
    rw [F.len _ _ _ _ hq] at e
    exact e.symm
  refine wpAny_call (make_map (f := f) I.kIn M.makes M.init (beq_iff_eq.mp M.fn) (codeAny_mono (F.run _ X.stack _ _ ⟨Value.ref (s.heap.objs.size + 1) :: us, []⟩ (Value.ref (s.heap.objs.size + 1) :: (us ++ ds)) _ _ E (hr.make C us [])
    (I2.env0.make C us []) (hb _ (Value.ref (s.heap.objs.size + 1) :: us) I2.kIn hl) r2 hq) fun r s' hq' => ?_))
  cases r with
  | error e => exact hx pins σ _ _ e s' I2 hq'
  | ok fl =>
    cases fl with
    | ret u =>
      obtain ⟨v, H', I3, rv, ev, q3⟩ := I2.after hq'
      subst ev
      exact ⟨rv, ⟨V.ref (s.heap.objs.size + 1), H', I3, rfl, q3⟩⟩
    | next => exact False.elim hq'
    | brk => exact False.elim hq'
    | cont => exact False.elim hq'
theorem pe_make0 (M : Mk X.K C f) (F : FnOk X.prog X.w X.K X.mg X.base CX k f fd ps sp) (hr : Room (k + 1) X.A) (hg : Gl X x) (hm : X.mg x = some (.ref C)) (hb : Binds X.K fd ps ds) (hd : Vals dvs ds) (hx : Passes CX X E)
    (hdb : (x == ("__debug__" : Str)) = false := by decide) : PE X (.Call (.Name x p) [] [] pos) (tMake C sp dvs E tNil) := by
  intro pins s σ H Q I h
  refine wpAny_Call_Name_kw (ld_glob I hg hm ?_ hdb)
  exact PySem.W.callWith_K0 I.kIn M.kp (run_make (us := []) M F hr hb hd hx I .nil h)
end

/-! ### keywords -/
section
variable {X : Cx} {CX : CXT} {k : Nat} {f C : Addr} {fd : FuncData} {ps ks : List Str} {sp : Sp} {E : XK} {x m : Str} {p pos apos kpos : Pos} {e o : Expr} {es : List Expr} {kws : List Keyword} {te ta : TE} {t tk : TA} {nm : Option Str}

variable {g : List Value → List Value → List Value} {gV : List V → List V → List V}
end

/-! ### a def's body keeps its promise -/
/-- names: the parameters first -/
structure FnScope (N P : List Str) (sc : Scope) : Prop where
  kind : sc.kind = .function
  co : sc.isCoroutine = false
  gen : sc.isGenerator = false
  nd : N.Nodup
  pre : N.take P.length = P
  par : ∀ x ∈ P, sc.names.lookup x = some .local ∨ sc.names.lookup x = some .cell
  nofree : ∀ y ∈ sc.names, y.2 ≠ .free

theorem bindL_out {kindOf : Str → Option NameKind} {x : Str} : ∀ {binds : List (Str × Value)} {m : Str → Option Value}, (∀ v, (x, v) ∉ binds) → bindL kindOf binds m x = m x
  | [], _, _ => rfl
  | (n, v) :: r, m, h => by
    unfold bindL
    rw [bindL_out fun w hw => h w (List.mem_cons_of_mem _ hw)]
    split
    · have : x ≠ n := by rintro rfl; exact h v List.mem_cons_self
      simp [this]
    · rfl
theorem bindC_out {kindOf : Str → Option NameKind} {x : Str} : ∀ {binds : List (Str × Value)} {m : Str → Option Value}, (∀ v, (x, v) ∉ binds) → bindC kindOf binds m x = m x
  | [], _, _ => rfl
  | (n, v) :: r, m, h => by
    unfold bindC
    rw [bindC_out fun w hw => h w (List.mem_cons_of_mem _ hw)]
    split
    · rfl
    · have : x ≠ n := by rintro rfl; exact h v List.mem_cons_self
      simp [this]
theorem bindL_get {kindOf : Str → Option NameKind} {x : Str} {v : Value} : ∀ {P : List Str} {vs : List Value} {i : Nat} {m : Str → Option Value}, P.Nodup → P[i]? = some x → vs[i]? = some v → kindOf x = some .local →
    bindL kindOf (P.zip vs) m x = some v
  | [], _, _, _, _, h, _, _ => by simp at h
  | _ :: _, [], _, _, _, _, h, _ => by simp at h
  | p :: P, w :: vs, 0, m, nd, h1, h2, hk => by
    simp at h1 h2; subst h1; subst h2
    show bindL kindOf ((p, w) :: P.zip vs) m p = _
    unfold bindL
    rw [bindL_out fun v hv => (List.nodup_cons.mp nd).1 (List.of_mem_zip hv).1, if_pos hk]
    simp
  | p :: P, w :: vs, i + 1, m, nd, h1, h2, hk => by
    show bindL kindOf ((p, w) :: P.zip vs) m x = _
    unfold bindL
    exact bindL_get (i := i) (List.nodup_cons.mp nd).2 (by simpa using h1) (by simpa using h2) hk
theorem bindC_get {kindOf : Str → Option NameKind} {x : Str} {v : Value} : ∀ {P : List Str} {vs : List Value} {i : Nat} {m : Str → Option Value}, P.Nodup → P[i]? = some x → vs[i]? = some v → kindOf x ≠ some .local →
    bindC kindOf (P.zip vs) m x = some v
  | [], _, _, _, _, h, _, _ => by simp at h
  | _ :: _, [], _, _, _, _, h, _ => by simp at h
  | p :: P, w :: vs, 0, m, nd, h1, h2, hk => by
    simp at h1 h2; subst h1; subst h2
    show bindC kindOf ((p, w) :: P.zip vs) m p = _
    unfold bindC
    rw [bindC_out fun v hv => (List.nodup_cons.mp nd).1 (List.of_mem_zip hv).1, if_neg hk]
    simp
  | p :: P, w :: vs, i + 1, m, nd, h1, h2, hk => by
    show bindC kindOf ((p, w) :: P.zip vs) m x = _
    unfold bindC
    exact bindC_get (i := i) (List.nodup_cons.mp nd).2 (by simpa using h1) (by simpa using h2) hk

/-- the names' values at the entry -/
def start (N : List Str) (vs : List V) : St := vs.map some ++ List.replicate (N.length - vs.length) none

/-- the context of a def's body, at its entry; an exception leaves the frame, then lies as CX says -/
def cxOf (CX : CXT) (P : Program) (w : World) (K : PySem.W.Frag) (mg : Str → Option Value) (base : Heap) (N : List Str) (qual : Str) (scope : Scope) (f : Addr) (cd : Value) (A : Around) (outer : List Env) (s : Shared) (H : Hp) (E : XK) : Cx where
  prog := P
  w := w
  K := K
  mg := mg
  base := base
  A := A.deeper (envOfC qual scope s.heap.objs.size f cd)
  N := N
  s₀ := s
  H₀ := H
  env := envOfC qual scope s.heap.objs.size f cd
  outer := outer
  stack := envOfC qual scope s.heap.objs.size f cd :: outer
  ex := []
  calm := true
  fn := fun _ => true
  pn := []
  xe := fun e s' => wpAny (model P w) (A.deeper (envOfC qual scope s.heap.objs.size f cd)) (leaving (envOfC qual scope s.heap.objs.size f cd) e) (fun _ s'' => CX outer H s E e s'') (fun e' s'' => CX outer H s E e' s'') s'

theorem cell_has {sc : Scope} {n : Nat} {x : Str} (h : sc.names.lookup x = some .cell) : ∃ c, (cellsFrom n sc.names []).lookup x = some c := by
  have q := PySem.W.cellsFrom_some sc.names n [] (.inl h)
  exact Option.isSome_iff_exists.mp q

theorem inv_start {CX : CXT} {P : Program} {w : World} {K : PySem.W.Frag} {mg : Str → Option Value} {base : Heap} {N ps : List Str} {qual : Str} {scope : Scope} {f : Addr} {cd : Value} {A : Around} {outer : List Env} {s s1 : Shared} {H : Hp} {E : XK} {us : List Value} {vs : List V}
    (S : FnScope N ps scope) (hd : A.handled = none) (e0 : Env0 P w K mg base A outer s H) (hl : vs.length = ps.length) (r : Vals vs us)
    (x : InCallC s s.heap.objs.size (bindL (envOfC qual scope s.heap.objs.size f cd).kindOf (ps.zip us) fun _ => none) (cellsFrom (s.heap.objs.size + 1) scope.names []) (bindC (envOfC qual scope s.heap.objs.size f cd).kindOf (ps.zip us) fun _ => none) s1) :
    Inv (cxOf CX P w K mg base N qual scope f cd A outer s H E) [] (start N vs) H s1 := by
  have hpl : ps.length ≤ N.length := by have := congrArg List.length S.pre; rw [List.length_take] at this; omega
  obtain ⟨h1, tk, rfl, hk⟩ := x.done
  have noA : ∀ b : Addr, b ∉ (cxOf CX P w K mg base N qual scope f cd A outer s H E).ex := fun b z => absurd (show b ∈ ([] : List Addr) from z) (by simp)
  refine ⟨⟨e0.mod, S.kind, rfl, rfl, Nat.le_refl _, fun y z c h1 h2 => ?_, fun y hy => ?_, fun y c _ h => ?_, fun _ => hd, Around.frames_deeper e0.frames, .inr ⟨rfl, rfl⟩, fun b z => absurd z (noA b), e0.bs, e0.bsz, fun b _ _ => noA b, fun b z => absurd z (noA b), e0.funs, e0.frf⟩,
    rfl, e0.bare, Un.kept hk, ⟨_, x.toInCall.ns, fun i y v h1 h2 h3 => ?_⟩, fun y c h => ⟨_, x.cell y c h⟩, e0.hok.fresh (Nat.le_refl _), fun y c h => ?_, fun p hp => absurd (show p ∈ ([] : List (Addr × Obj)) from hp) (by simp), e0.hok.kept hk, ?_⟩
  · exact name_of_addr x.apart (PySem.mem_of_lookup h1) (PySem.mem_of_lookup h2)
  · have hy : scope.names.lookup y = some .cell ∨ scope.names.lookup y = some .free := hy
    rcases hy with hy | hy
    · exact cell_has hy
    · exact absurd rfl (S.nofree _ (PySem.mem_of_lookup hy))
  · exact Nat.le_of_lt (x.above y c (PySem.mem_of_lookup h))
  · have hi : i < vs.length := by
      unfold start at h2
      by_cases hi : i < vs.length
      · exact hi
      · rw [List.getElem?_append_right (by simpa using hi)] at h2
        rw [List.getElem?_replicate] at h2
        split at h2 <;> cases h2
    have ha : vs[i]? = some v := by
      unfold start at h2
      rw [List.getElem?_append_left (by simpa using hi), List.getElem?_map] at h2
      cases e : vs[i]? with
      | none => rw [e] at h2; cases h2
      | some a => rw [e] at h2; cases h2; rfl
    obtain ⟨u, hu, rv⟩ := r.get ha
    have hp : ps[i]? = some y := by
      rw [← S.pre, List.getElem?_take_of_lt (by omega)]; exact h1
    have ndP : ps.Nodup := by rw [← S.pre]; exact S.nd.sublist (List.take_sublist _ _)
    refine ⟨u, rv, ?_⟩
    rcases S.par y (List.mem_of_getElem? hp) with k | k
    · exact .inl ⟨k, bindL_get ndP hp hu k⟩
    · obtain ⟨c, e⟩ := cell_has (n := s.heap.objs.size + 1) k
      refine .inr ⟨.inl k, c, e, ?_⟩
      have q := x.cell y c e
      rw [bindC_get ndP hp hu (by show scope.names.lookup y ≠ _; rw [k]; decide)] at q
      exact q
  · exact e0.hok.fresh (Nat.le_of_lt (x.above y c (PySem.mem_of_lookup h)))
  · unfold start
    show _ = N.length
    rw [List.length_append, List.length_map, List.length_replicate]
    omega

/-- THE RULE: a def (or a method) of the text, by its body. The body's reading t is chosen for each entry; it is run at the parameters' values -/
theorem fn_of {CX : CXT} {P : Program} {w : World} {K : PySem.W.Frag} {mg : Str → Option Value} {base : Heap} {k : Nat} {f : Addr} {name qual : Str} {params : Arguments} {body : List Stmt} {scope : Scope} {dV kV doc pm cdv ct oc : Value} {an od : Option Addr}
    {osl : Array (Option Value)} {N ps : List Str} {sp : Sp} (lk : K.lookup f = some ⟨oc, od, .func (PySem.W.fnOf name qual params body scope dV kV doc pm an cdv ct), osl⟩) (hcd : PySem.W.codeIn K cdv qual = true) (S : FnScope N ps scope)
    (len : ∀ vs H Q E, sp vs H Q E → vs.length = ps.length)
    (hbody : ∀ (A : Around) (outer : List Env) (s : Shared) (H : Hp) (vs : List V) (Q : VK) (E : XK), Room k (A.deeper (envOfC qual scope s.heap.objs.size f cdv)) → sp vs H Q E →
      ∃ t, PSs (cxOf CX P w K mg base N qual scope f cdv A outer s H E) body t ∧ t { nx := fun _ H' => Q .non H', rt := Q } (start N vs) H) :
    FnOk P w K mg base CX (k + 1) f (PySem.W.fnOf name qual params body scope dV kV doc pm an cdv ct) ps sp := by
  refine ⟨len, fun A outer s H args us vs Q E hr e0 hb r hsp => ?_⟩
  have hl := len _ _ _ _ hsp
  have KX : K.In s.heap := e0.mod.kin.keeps fun b o e => (e0.bs b o e).1
  have lim : s.heap.NoLimit := e0.mod.nolimit.keeps fun b o e => (e0.bs b o e).1
  have hkind : ∀ y ∈ ps.zip us, scope.names.lookup y.1 = some .local ∨ (scope.names.lookup y.1 = some .cell ∧ ((cellsFrom (s.heap.objs.size + 1) scope.names []).lookup y.1).isSome = true) := fun ⟨n, v⟩ hy => by
    rcases S.par n (List.of_mem_zip hy).1 with q | q
    · exact .inl q
    · exact .inr ⟨q, PySem.W.cellsFrom_some _ _ _ (.inl q)⟩
  refine codeAny_call_function hr.depth (KX _ _ lk) rfl S.co S.gen rfl (PySem.W.codeRec_of KX hcd) (hb _ _ _ _ ?_)
  refine wpAny_newFunctionEnv_cells S.kind hkind fun env he s1 x => ?_
  subst he
  refine ⟨lim.keeps x.toInCall.keep, codeAny_func ?_⟩
  obtain ⟨t, ht, hq⟩ := hbody A outer s H vs Q E (hr.deeper _) hsp
  have I : Inv (cxOf CX P w K mg base N qual scope f cdv A outer s H E) [] (start N vs) H s1 := inv_start S hr.hd e0 hl r x
  refine wpAny_mono (ht [] s1 (start N vs) H _ I hq) (fun fl s' hs => ?_) fun e s' hs => hs
  have fin : ∀ {σ' : St} {H' : Hp} {v : V} {u : Value}, Inv (cxOf CX P w K mg base N qual scope f cdv A outer s H E) [] σ' H' s' → RelV v u → Q v H' → CE outer P w H s Q u s' :=
    fun {σ' H' v u} J rv q => ⟨v, H', J.os, J.bare, J.base, J.hok, rv, q⟩
  cases fl with
  | ret u =>
    obtain ⟨v, σ', H', J, rv, q⟩ := hs
    exact fin J rv q
  | next =>
    obtain ⟨σ', H', J, q⟩ := hs
    exact fin (v := V.non) (u := Value.none) J rfl q
  | brk =>
    obtain ⟨_, _, _, q⟩ := hs
    exact False.elim q
  | cont =>
    obtain ⟨_, _, _, q⟩ := hs
    exact False.elim q
end L2

namespace L2
open PySem PySem.Spec PyProof.Rows
section
variable {X : Cx} {x : Str} {p pos : Pos} {e : Expr} {es : List Expr} {t : TA} {id T : String} {r : List V → Hp → VK → Prop}

def tCB (r : List V → Hp → VK → Prop) (t : TA) : TE := fun σ H Q => t σ H fun vs H1 => r vs H1 Q
/-- f(e, ..), f a built-in function -/
theorem pe_callB (hc : CallR X (.builtin id) r) (hg : Gl X x) (hm : X.mg x = none) (hv : bootBuiltins x = some (.builtin id)) (ha : PA X (e :: es) t) (hn : x ≠ "__name__" := by decide) (hdb : (x == ("__debug__" : Str)) = false := by decide)
    (he : starEach (e :: es) X.env = (false, eval e X.env) :: starEach es X.env := by rfl) (hpl : (backTo pos (starEach es X.env)).any (·.1) = false := by rfl) : PE X (.Call (.Name x p) (e :: es) [] pos) (tCB r t) := by
  intro pins s σ H Q I h
  refine wpAny_Call_Name_kw (ld_blt I hg hm hv ?_ hn hdb)
  exact PyProof.Rows.callWith_builtin1 (thn (ha pos pins s σ H _ I h) fun us s1 ⟨vs, H1, I1, r1, q1⟩ => hc pins s1 σ H1 vs us Q I1 r1 q1) he hpl
/-- T(e, ..), T a built-in type -/
theorem pe_callTy (hc : CallR X (.type T) r) (hg : Gl X x) (hm : X.mg x = none) (hv : bootBuiltins x = some (.type T)) (ha : PA X (e :: es) t) (hn : x ≠ "__name__" := by decide) (hdb : (x == ("__debug__" : Str)) = false := by decide)
    (he : starEach (e :: es) X.env = (false, eval e X.env) :: starEach es X.env := by rfl) (hpl : (backTo pos (starEach es X.env)).any (·.1) = false := by rfl) : PE X (.Call (.Name x p) (e :: es) [] pos) (tCB r t) := by
  intro pins s σ H Q I h
  refine wpAny_Call_Name_kw (ld_blt I hg hm hv ?_ hn hdb)
  exact PyProof.Rows.callWith_type1 (thn (ha pos pins s σ H _ I h) fun us s1 ⟨vs, H1, I1, r1, q1⟩ => hc pins s1 σ H1 vs us Q I1 r1 q1) he hpl
end
end L2

namespace HT
open PySem PyProof.Rows



section
open PySem.SeqAt
open PySem.AutoSeq1 (wpAny_loadPart')
open PySem.MeetsSeq PySem.MeetsSeq2 PySem.MeetsSeq3

end

section
variable {prog : Program} {w : World} {A : Around} {E : Value → Shared → Prop} {s : Shared}



/-! ### t[a:b], not the whole -/

end
end HT

namespace L2
open PySem PySem.Spec PyProof.Rows

/-! ### the parts of a slice -/
abbrev TO := St → Hp → (Option Int → Hp → Prop) → Prop
/-- a slice's part (left out, or an int) -/
def PO (X : Cx) (e : Option Expr) (t : TO) : Prop :=
  ∀ (pins : List (Addr × Obj)) (s : Shared) (σ : St) (H : Hp) (Q : Option Int → Hp → Prop), Inv X pins σ H s → t σ H Q →
    wpAny (model X.prog X.w) X.A (evalPart e X.env) (fun u s' => ∃ o H', Inv X pins σ H' s' ∧ IsPart u o ∧ Q o H') X.xe s
def tNoPart : TO := fun _ H Q => Q none H
def tPart (t : TE) : TO := fun σ H Q => t σ H fun x H1 => ∃ i, x = .int i ∧ Q (some i) H1

theorem intsAre_of {ns : List Int} : ∀ {us : List Value}, Vals (ns.map V.int) us → IntsAre us ns := by
  induction ns with
  | nil => intro us r; rw [List.map_nil] at r; cases r; exact .nil
  | cons n ns ih =>
    intro us r
    rw [List.map_cons] at r
    cases r with
    | cons r1 r2 =>
      obtain ⟨t, e⟩ := r1
      subst e
      exact .cons n t (ih r2)

section
variable {X : Cx} {e : Expr} {te : TE} {lo hi : Option Expr} {tl th : TO} {pos p2 : Pos}

theorem po_none : PO X none tNoPart := by
  intro pins s σ H Q I h
  rw [evalPart_none]
  exact wpAny_pure ⟨none, H, I, .none, h⟩
theorem po_some (h : PE X e te) : PO X (some e) (tPart te) := by
  intro pins s σ H Q I hw
  rw [evalPart_some]
  refine thn (h pins s σ H _ I hw) fun u s1 ⟨x, H1, I1, r1, q1⟩ => ?_
  obtain ⟨i, rfl, q⟩ := q1
  obtain ⟨t, rfl⟩ := r1
  exact ⟨some i, H1, I1, .int i t, q⟩

/-- what a slice of a value is, by values: the slice object stands at sl -/
def SlR (X : Cx) (r : V → Option Int → Option Int → Hp → VK → Prop) : Prop :=
  ∀ (pins : List (Addr × Obj)) (s : Shared) (σ : St) (H : Hp) (x : V) (v vl vu : Value) (lo hi : Option Int) (sl : Addr) (Q : VK), Inv X pins σ H s → RelV x v → s.heap.IsSliceOf sl vl vu .none → IsPart vl lo → IsPart vu hi → r x lo hi H Q →
    ∃ T id, typeLookup (.type T) "__getitem__" = pure (some (.builtin id)) ∧ s.TypeIs v T ∧ wpAny (model X.prog X.w) X.A (getItem v (.ref sl)) (EP X pins σ Q) X.xe s
def tSl (r : V → Option Int → Option Int → Hp → VK → Prop) (te : TE) (tl th : TO) : TE := fun σ H Q => te σ H fun x H1 => tl σ H1 fun l H2 => th σ H2 fun u H3 => r x l u H3 Q
/-- a[lo:hi], any a -/
theorem pe_slice {r : V → Option Int → Option Int → Hp → VK → Prop} (hr : SlR X r) (he : PE X e te) (hl : PO X lo tl) (hu : PO X hi th) : PE X (.Subscript e (.Slice lo hi none p2) pos) (tSl r te tl th) := by
  intro pins s σ H Q I h
  refine Subscript_ (thn (he pins s σ H _ I h) fun v s1 ⟨x, H1, I1, r1, q1⟩ => ?_)
  refine wpAny_Slice (thn (hl pins s1 σ H1 _ I1 q1) fun vl s2 ⟨l, H2, I2, pl, q2⟩ => thn (hu pins s2 σ H2 _ I2 q2) fun vu s3 ⟨u, H3, I3, pu, q3⟩ => ?_)
  rw [evalPart_none]
  refine wpAny_pure ?_
  have I4 : Inv X pins σ H3 { s3 with heap := s3.heap.push { cls := .type "slice", data := .fields #[vl, vu, .none] } } := I3.kept (t' := s3.toks) fun b ob q => Heap.get?_push_of_some _ q
  obtain ⟨T, id, hT, ht, hg⟩ := hr pins { s3 with heap := s3.heap.push { cls := .type "slice", data := .fields #[vl, vu, .none] } } σ H3 x v vl vu l u s3.heap.objs.size Q I4 r1 (Heap.IsSliceOf.new ..) pl pu q3
  show wpAny (model X.prog X.w) X.A (subscriptTail e (.Slice lo hi none p2) v (.ref s3.heap.objs.size)) (EP X pins σ Q) X.xe { s3 with heap := s3.heap.push { cls := .type "slice", data := .fields #[vl, vu, .none] } }
  exact tail_any (ops := [.ref s3.heap.objs.size, v]) ht hT hg (by with_unfolding_all rfl)


/-! ### t < u, t + u -/
end
end L2

namespace L2
open PySem PySem.Spec PyProof.Rows

/-! ### places -/
/-- the place that an index of any sign means -/
def ixN (n : Nat) (i : Int) : Option Nat := if 0 ≤ i then (if i < n then some i.toNat else none) else if -(n : Int) ≤ i then some (i + n).toNat else none
def atI {α : Type} (xs : List α) (i : Int) : Option α := (ixN xs.length i).bind fun j => xs[j]?
theorem ixN_seq {n : Nat} {i : Int} {j : Nat} (h : ixN n i = some j) : seqIndex? i n = some j ∧ j < n ∧ -(n : Int) ≤ i ∧ i < n := by
  unfold ixN at h
  by_cases h0 : 0 ≤ i
  · rw [if_pos h0] at h
    by_cases h1 : i < n
    · rw [if_pos h1] at h
      have e : i.toNat = j := Option.some.inj h
      exact ⟨by rw [seqIndex_of h0 h1, e], by omega, by omega, h1⟩
    · rw [if_neg h1] at h; cases h
  · rw [if_neg h0] at h
    by_cases h1 : -(n : Int) ≤ i
    · rw [if_pos h1] at h
      have e : (i + n).toNat = j := Option.some.inj h
      exact ⟨by rw [seqIndex_neg (by omega) h1, e], by omega, h1, by omega⟩
    · rw [if_neg h1] at h; cases h
theorem atI_get {α : Type} {xs : List α} {i : Int} {v : α} (h : atI xs i = some v) : ∃ j, seqIndex? i xs.length = some j ∧ xs[j]? = some v ∧ j < xs.length ∧ -(xs.length : Int) ≤ i ∧ i < xs.length := by
  unfold atI at h
  cases e : ixN xs.length i with
  | none => rw [e] at h; cases h
  | some j =>
    rw [e] at h
    obtain ⟨h1, h2, h3, h4⟩ := ixN_seq e
    exact ⟨j, h1, h, h2, h3, h4⟩

/-! ### what may be subscripted -/
/-- what stands as an index of a plain subscript -/
def PlainIx (b : Expr) : Prop := ∀ o i, subscripted b false o i = operate [o, i] (getItem o i)
/-- a subscript by values -/
def IxR (X : Cx) (r : R2) : Prop :=
  ∀ (value slice : Expr) (pins : List (Addr × Obj)) (s : Shared) (σ : St) (H : Hp) (x y : V) (v u : Value) (Q : VK), Inv X pins σ H s → RelV x v → RelV y u → r x y H Q →
    subscripted slice false v u = operate [v, u] (getItem v u) → wpAny (model X.prog X.w) X.A (subscriptTail value slice v u) (EP X pins σ Q) X.xe s
/-- a call of a builtin's method by values: the receiver, the arguments -/
def MtR (X : Cx) (id : String) (r : V → List V → Hp → VK → Prop) : Prop :=
  ∀ (pins : List (Addr × Obj)) (s : Shared) (σ : St) (H : Hp) (x : V) (xs : List V) (v : Value) (us : List Value) (Q : VK), Inv X pins σ H s → RelV x v → Vals xs us → r x xs H Q →
    wpAny (model X.prog X.w) X.A (call (.builtin id) (v :: us)) (EP X pins σ Q) X.xe s
section
variable {X : Cx} {a b : Expr} {ta tb : TE} {pos : Pos}
/-- a[b] -/
theorem pe_ix {r : R2} (hr : IxR X r) (ha : PE X a ta) (hb : PE X b tb) (hs : PlainIx b) : PE X (.Subscript a b pos) (tOp r ta tb) := by
  intro pins s σ H Q I h
  exact Subscript_ (binT ha hb I h fun v u s2 x y H2 I2 rx ry q => hr a b pins s2 σ H2 x y v u Q I2 rx ry q (hs _ _))

def rIxL (K : PySem.W.Frag) : R2 := fun x y H Q => ∃ p xs i v, x = .ref p ∧ y = .int i ∧ SqL K H p xs ∧ atI xs i = some v ∧ Q v H
def rIxT (K : PySem.W.Frag) : R2 := fun x y H Q => ∃ p xs i v, x = .ref p ∧ y = .int i ∧ SqT K H p xs ∧ atI xs i = some v ∧ Q v H
def rIxS : R2 := fun x y H Q => ∃ z i c, x = .str z ∧ y = .int i ∧ z.length ≤ sizeLine ∧ atI z.cps.toList i = some c ∧ Q (.str ⟨#[c]⟩) H
theorem ix_list : IxR X (rIxL X.K) := by
  intro value slice pins s σ H x y v u Q I rx ry h hs
  obtain ⟨p, xs, i, z, rfl, rfl, hq, he, q⟩ := h
  cases rx
  obtain ⟨t, rfl⟩ := ry
  obtain ⟨its, r, pl, hz⟩ := I.list hq
  obtain ⟨j, h1, h2, h3, h4, h5⟩ := atI_get he
  obtain ⟨w, ew, rw'⟩ := r.get h2
  have hl := r.length
  have hn := line63
  have fin : EP X pins σ Q w s := ⟨z, H, I, rw', q⟩
  by_cases h0 : 0 ≤ i
  · have hj : i.toNat = j := by
      rw [seqIndex_of h0 h5] at h1
      exact Option.some.inj h1
    exact item_listR pl.isList h0 (by omega) (by rw [hj]; simpa using ew) fin hs
  · have hj : (i + (its.toArray.size : Int)).toNat = j := by
      rw [seqIndex_neg (by omega) h4] at h1
      rw [List.size_toArray, ← hl]
      exact Option.some.inj h1
    exact subscriptTail_builtinR (x := w) pl.isList.typeIs slot_list_getitem.lookup
      (wpAny_getItem_list_neg (Q := fun r s' => r = w ∧ EP X pins σ Q r s') pl.isList (by omega) (by rw [List.size_toArray] <;> omega) (by omega) (by rw [hj]; simpa using ew) ⟨rfl, fin⟩) hs
theorem ix_tup : IxR X (rIxT X.K) := by
  intro value slice pins s σ H x y v u Q I rx ry h hs
  obtain ⟨p, xs, i, z, rfl, rfl, hq, he, q⟩ := h
  cases rx
  obtain ⟨t, rfl⟩ := ry
  obtain ⟨its, r, pl, hz⟩ := I.tuple hq
  obtain ⟨j, h1, h2, h3, h4, h5⟩ := atI_get he
  obtain ⟨w, ew, rw'⟩ := r.get h2
  have hl := r.length
  have hn := line63
  have fin : EP X pins σ Q w s := ⟨z, H, I, rw', q⟩
  exact subscriptTail_builtinR (x := w) pl.typeIs slot_tuple_getitem.lookup
    (getItem_tuple (j := j) (Q := fun r s' => r = w ∧ EP X pins σ Q r s') pl (by omega) (by omega) (by rw [List.size_toArray, ← hl]; exact h1) (by simpa using ew) ⟨rfl, fin⟩) hs
theorem ix_str : IxR X rIxS := by
  intro value slice pins s σ H x y v u Q I rx ry h hs
  obtain ⟨z, i, c, rfl, rfl, hz, he, q⟩ := h
  obtain ⟨t, rfl⟩ := rx
  obtain ⟨t', rfl⟩ := ry
  obtain ⟨j, h1, h2, h3, h4, h5⟩ := atI_get he
  have hl : z.cps.toList.length = z.length := by simp [Str.length]
  rw [hl] at h1 h4 h5
  have hn := line63
  exact tail_any (typeIs_str s z t) slot_str_getitem.lookup (getItem_str (c := c) (by
    have e1 : decide (i < -(2 ^ 63 : Int)) = false := decide_eq_false (by omega)
    have e2 : decide (i ≥ 2 ^ 63) = false := decide_eq_false (by omega)
    rw [e1, e2, Bool.or_false]) (by rw [h1]; simpa using h2) ⟨.str ⟨#[c]⟩, H, I.tok _, ⟨_, rfl⟩, q⟩) hs

/-! ### xs[i] = v, any sign -/

/-! ### slices -/

/-! ### in, not in: flat items -/
def flatV : V → Bool
  | .non => true
  | .bl _ => true
  | .int _ => true
  | .str _ => true
  | _ => false
/-- == of flat values -/
def eqV : V → V → Bool
  | .non, .non => true
  | .bl a, .bl b => a == b
  | .bl a, .int b => (if a then 1 else 0) == b
  | .int a, .bl b => a == (if b then 1 else 0)
  | .int a, .int b => a == b
  | .str a, .str b => a == b
  | _, _ => false
theorem eqAt_V {A : Around} {s : Shared} {y x : V} {u v : Value} (ry : RelV y u) (rx : RelV x v) (fy : flatV y = true) (fx : flatV x = true) : SeqAt.EqAt A s u v (eqV y x) := by
  cases y with
  | non =>
    cases ry
    cases x with
    | non => cases rx; exact SeqAt.EqAt.same _
    | bl b => cases rx; exact SeqAt.EqAt.none_bool b
    | int b => obtain ⟨t, rfl⟩ := rx; exact SeqAt.EqAt.none_int b t
    | str b => obtain ⟨t, rfl⟩ := rx; exact SeqAt.EqAt.none_str b t
    | _ => exact absurd (show false = true from fx) Bool.false_ne_true
  | bl a =>
    cases ry
    cases x with
    | non => cases rx; exact SeqAt.EqAt.bool_none a
    | bl b => cases rx; exact SeqAt.EqAt.bool_bool a b
    | int b => obtain ⟨t, rfl⟩ := rx; exact SeqAt.EqAt.bool_int a b t
    | str b => obtain ⟨t, rfl⟩ := rx; exact SeqAt.EqAt.bool_str a b t
    | _ => exact absurd (show false = true from fx) Bool.false_ne_true
  | int a =>
    obtain ⟨t', rfl⟩ := ry
    cases x with
    | non => cases rx; exact SeqAt.EqAt.int_none a t'
    | bl b => cases rx; exact SeqAt.EqAt.int_bool a t' b
    | int b => obtain ⟨t, rfl⟩ := rx; exact SeqAt.EqAt.int_int a t' b t
    | str b => obtain ⟨t, rfl⟩ := rx; exact SeqAt.EqAt.int_str a t' b t
    | _ => exact absurd (show false = true from fx) Bool.false_ne_true
  | str a =>
    obtain ⟨t', rfl⟩ := ry
    cases x with
    | non => cases rx; exact SeqAt.EqAt.str_none a t'
    | bl b => cases rx; exact SeqAt.EqAt.str_bool a t' b
    | int b => obtain ⟨t, rfl⟩ := rx; exact SeqAt.EqAt.str_int a t' b t
    | str b => obtain ⟨t, rfl⟩ := rx; exact SeqAt.EqAt.str_str a t' b t
    | _ => exact absurd (show false = true from fx) Bool.false_ne_true
  | _ => exact absurd (show false = true from fy) Bool.false_ne_true

/-! ### len, list(x), tuple(x) of any list or tuple that is read -/
theorem call_len_seq : CallR X (.builtin "len") (fun xs H Q => ∃ p ys, xs = [.ref p] ∧ (SqL X.K H p ys ∨ SqT X.K H p ys) ∧ Q (.int ys.length) H) := by
  intro pins s σ H xs us Q I r h
  obtain ⟨p, ys, rfl, hq, q⟩ := h
  obtain ⟨u, rfl, rx⟩ := vals1 r
  cases rx
  have hn := line63
  rcases hq with hq | hq
  · obtain ⟨its, r', pl, hz⟩ := I.list hq
    have hlen := r'.length
    exact Calls.call_len_list pl.isList (by simp only [List.size_toArray] <;> omega) ⟨.int ys.length, H, I.tok _, ⟨s.toks + 1, by rw [List.size_toArray, hlen]⟩, q⟩
  · obtain ⟨its, r', pl, hz⟩ := I.tuple hq
    have hlen := r'.length
    exact len_tuple pl (by simp only [List.size_toArray] <;> omega) ⟨.int ys.length, H, I.tok _, ⟨s.toks + 1, by rw [List.size_toArray, hlen]⟩, q⟩
theorem call_len_str : CallR X (.builtin "len") (fun xs H Q => ∃ z, xs = [.str z] ∧ z.length ≤ sizeLine ∧ Q (.int z.length) H) := by
  intro pins s σ H xs us Q I r h
  obtain ⟨z, rfl, hz, q⟩ := h
  obtain ⟨u, rfl, t, rfl⟩ := vals1 r
  have hn := line63
  exact len_str (by omega) ⟨.int z.length, H, I.tok _, ⟨_, rfl⟩, q⟩
theorem call_list_of : CallR X (.type "list") (fun xs H Q => ∃ p ys, xs = [.ref p] ∧ (SqL X.K H p ys ∨ SqT X.K H p ys) ∧ ∀ l, H l = none → Q (.ref l) (upd H l (.lst ys))) := by
  intro pins s σ H xs us Q I r h
  obtain ⟨p, ys, rfl, hq, q⟩ := h
  obtain ⟨u, rfl, rx⟩ := vals1 r
  cases rx
  have fin : ∀ (its : List Value), Vals ys its → ys.length ≤ sizeLine → ∀ (h' : Heap) (c' : Nat), (∀ b o', s.heap.get? b = some o' → h'.get? b = some o') →
      h'.get? s.heap.objs.size = some { cls := .type "list", dict := none, data := .seq its.toArray c', slots := #[] } → EP X pins σ Q (.ref s.heap.objs.size) { s with heap := h' } := fun its r' hz h' c' kp e =>
    ⟨.ref s.heap.objs.size, _, I.laid (t' := s.toks) kp (Nat.le_refl _) (show ObjOk X.prog X.w _ h' _ (.lst ys) from ⟨hz, its, c', r', e⟩), rfl, q _ (I.hok.fresh (Nat.le_refl _))⟩
  rcases hq with hq | hq
  · obtain ⟨its, r', pl, hz⟩ := I.list hq
    have hlen := r'.length
    obtain ⟨o, ho, hc, n, hd⟩ := pl.isList
    exact call_list_seq p (.inl rfl) ho hc hd (fun h' c' kp e => fin its r' hz h' c' kp e) (by simp only [List.size_toArray] <;> omega)
  · obtain ⟨its, r', pl, hz⟩ := I.tuple hq
    have hlen := r'.length
    obtain ⟨o, ho, hc, n, hd⟩ := pl
    exact call_list_seq p (.inr rfl) ho hc hd (fun h' c' kp e => fin its r' hz h' c' kp e) (by simp only [List.size_toArray] <;> omega)

/-! ### the call of a builtin's method: o.m(..) -/
/-- the value is of that builtin type -/
def tyV (K : PySem.W.Frag) (T : String) (x : V) (H : Hp) : Prop := match x with
  | .str _ => T = "str"
  | .int _ => T = "int"
  | .ref p => (T = "list" ∧ ∃ xs, SqL K H p xs) ∨ (T = "tuple" ∧ ∃ o, K.lookup p = some o ∧ o.cls = .type "tuple" ∧ o.dict = none) ∨
      (T = "dict" ∧ ((∃ kvs, H p = some (.dK kvs)) ∨ ∃ kvs, H p = some (.dT kvs))) ∨ (T = "set" ∧ ∃ S n, H p = some (.set S n))
  | _ => False
theorem tyV_is {pins : List (Addr × Obj)} {σ : St} {H : Hp} {s : Shared} {T : String} {x : V} {v : Value} (I : Inv X pins σ H s) (r : RelV x v) (ty : tyV X.K T x H) :
    s.TypeIs v T ∧ ∀ a, v = .ref a → ∃ ob, s.heap.get? a = some ob ∧ ob.dict = none := by
  cases x with
  | str z =>
    obtain ⟨t, rfl⟩ := r
    cases (show T = "str" from ty)
    exact ⟨typeIs_str s z t, fun _ e => nomatch e⟩
  | int i =>
    obtain ⟨t, rfl⟩ := r
    cases (show T = "int" from ty)
    exact ⟨typeIs_int s i t, fun _ e => nomatch e⟩
  | ref p =>
    cases r
    rcases ty with ⟨rfl, xs, hq⟩ | ⟨rfl, o, hk, hc, hd⟩ | ⟨rfl, hk⟩ | ⟨rfl, S, n, hk⟩
    · obtain ⟨its, _, pl, _⟩ := I.list hq
      refine ⟨pl.isList.typeIs, fun a e => ?_⟩
      cases e
      obtain ⟨o, n, e, c, hd, _⟩ := pl
      exact ⟨o, e, hd⟩
    · refine ⟨⟨o, I.kIn p o hk, hc⟩, fun a e => ?_⟩
      cases e
      exact ⟨o, I.kIn _ o hk, hd⟩
    · have z : ∃ o, s.heap.get? p = some o ∧ o.ExactDict := by
        rcases hk with ⟨kvs, hk⟩ | ⟨kvs, hk⟩
        · obtain ⟨_, _, _, _, o, _, _, e, ex, _⟩ := I.hok p _ hk
          exact ⟨o, e, ex⟩
        · obtain ⟨_, _, _, _, o, _, _, e, ex, _⟩ := I.hok p _ hk
          exact ⟨o, e, ex⟩
      obtain ⟨o, e, ex⟩ := z
      refine ⟨⟨o, e, ex.1⟩, fun a e2 => ?_⟩
      cases e2
      exact ⟨o, e, ex.2.1⟩
    · obtain ⟨o, _, _, _, e, ex, _⟩ := I.hok p _ hk
      refine ⟨⟨o, e, ex.1⟩, fun a e2 => ?_⟩
      cases e2
      exact ⟨o, e, ex.2.1⟩
  | _ => exact False.elim ty
def tBM0 (K : PySem.W.Frag) (T : String) (r : V → List V → Hp → VK → Prop) (to : TE) : TE := fun σ H Q => to σ H fun x H1 => tyV K T x H1 ∧ r x [] H1 Q
def tBM (K : PySem.W.Frag) (T : String) (r : V → List V → Hp → VK → Prop) (to : TE) (t : TA) : TE := fun σ H Q => to σ H fun x H1 => tyV K T x H1 ∧ t σ H1 fun xs H2 => r x xs H2 Q
variable {o e : Expr} {es : List Expr} {to : TE} {t : TA} {name : Str} {apos cpos : Pos} {T id : String} {r : V → List V → Hp → VK → Prop}
theorem pe_bm0 (pa : PlainAttrs T) (slot : Slot T name id) (hty : typeOf (.builtin id) = pure (.type "method_descriptor")) (hm : MtR X id r) (ho : PE X o to)
    (hbase : attributeBase o name X.env (eval o X.env) = eval o X.env := by rfl) (hline : (apos.endLine == cpos.line) = true := by rfl) : PE X (.Call (.Attribute o name apos) [] [] cpos) (tBM0 X.K T r to) := by
  intro pins s σ H Q I h
  refine wpAny_Call_method0_late hbase hline (thn (ho pins s σ H _ I h) fun v s1 ⟨x, H1, I1, r1, ty, q1⟩ => ?_)
  obtain ⟨h1, h2⟩ := tyV_is I1 r1 ty
  exact ⟨T, id, pa, slot, hty, h1, h2, Calls.callWith_builtin rfl (PySem.evalArgs_none (hm pins s1 σ H1 x [] v [] Q I1 r1 .nil q1))⟩
theorem pe_bm (pa : PlainAttrs T) (slot : Slot T name id) (hty : typeOf (.builtin id) = pure (.type "method_descriptor")) (hm : MtR X id r) (ho : PE X o to) (ha : PA X (e :: es) t)
    (hbase : attributeBase o name X.env (eval o X.env) = eval o X.env := by rfl)
    (hfew : ((backTo cpos (starEach (e :: es) X.env)).all (fun x => !x.1) && (backToKw cpos (keywordEach [] X.env)).all (fun x => x.1.isSome)
      && decide ((e :: es).length + ([] : List Keyword).length + (if ([] : List Keyword).isEmpty then 0 else 1) < 30)) = true := by rfl)
    (hline : (apos.endLine == cpos.line) = true := by rfl) (hs : starEach (e :: es) X.env = (false, eval e X.env) :: starEach es X.env := by rfl) (hplain : (backTo cpos (starEach es X.env)).any (·.1) = false := by rfl) :
    PE X (.Call (.Attribute o name apos) (e :: es) [] cpos) (tBM X.K T r to t) := by
  intro pins s σ H Q I h
  refine wpAny_Call_method_late hbase hfew hline rfl (thn (ho pins s σ H _ I h) fun v s1 ⟨x, H1, I1, r1, ty, q1⟩ => ?_)
  obtain ⟨h1, h2⟩ := tyV_is I1 r1 ty
  refine ⟨T, id, pa, slot, hty, h1, h2, ?_⟩
  have hA := ha cpos pins s1 σ H1 _ I1 q1
  rw [hs] at hA ⊢
  refine Calls.callWith_builtin (by show (false || (backTo cpos (starEach es X.env)).any (·.1)) = false; rw [hplain] <;> rfl) (Calls.evalArgs_plain ?_)
  exact thn hA fun us s2 ⟨vs, H2, I2, r2, q2⟩ => hm pins s2 σ H2 x vs v us Q I2 r1 r2 q2
/- xs.append(e), list.index on a module's tuple .. are MtR facts of 06m -/
end
end L2

namespace L2
open PySem PySem.Spec PyProof.Rows

def MtM (X : Cx) (id : String) (r : V → List V → Hp → VK → Prop) : Prop :=
  ∀ (pins : List (Addr × Obj)) (s : Shared) (σ : St) (H : Hp) (x : V) (xs : List V) (v : Value) (us : List Value) (Q : VK), Inv X pins σ H s → RelV x v → Vals xs us → r x xs H Q →
    wpAny (model X.prog X.w) X.A (call (.builtin id) (v :: us)) (EP X pins σ Q) X.xe s

/-! ### lists of values -/
theorem Vals.one : ∀ {x : V} {us : List Value}, Vals [x] us → ∃ u, us = [u] ∧ RelV x u
  | _, _, .cons r .nil => ⟨_, rfl, r⟩

section
variable {X : Cx} {pins : List (Addr × Obj)} {σ : St} {H : Hp} {s : Shared} {l b : Addr} {xs ys zs : List V}

/-! ### the two steps: a tracked list is rewritten, a new list is laid -/
theorem Inv.lset {its its' : List Value} {n : Nat} {f : Array Value → Array Value} {t' : Nat} (I : Inv X pins σ H s) (hH : H l = some (.lst xs))
    (e : s.heap.get? l = some { cls := .type "list", data := .seq its.toArray n }) (hf : f its.toArray = its'.toArray) (hv : Vals ys its') (hz : ys.length ≤ sizeLine) :
    Inv X pins σ (upd H l (.lst ys)) { s with heap := s.heap.update l (Obj.mapSeq f), toks := t' } := by
  have q := PySem.IsL.update e f
  rw [hf] at q
  refine I.write (x := l) (e := l) (by rw [hH]; exact trivial) (.inl rfl) (fun b' u hb hu => (Heap.get?_update_other s.heap (Obj.mapSeq f) (Ne.symm hb)).trans hu) ⟨_, q⟩ ?_
  exact ⟨hz, its', _, hv, q⟩
theorem Inv.lnew {its : List Value} {t' : Nat} (I : Inv X pins σ H s) (hv : Vals ys its) (hz : ys.length ≤ sizeLine) :
    Inv X pins σ (upd H s.heap.objs.size (.lst ys)) { s with heap := s.heap.push { cls := .type "list", data := .seq its.toArray }, toks := t' } :=
  I.laid (fun _ _ q => Heap.get?_push_of_some _ q) (Nat.le_refl _) ⟨hz, its, 0, hv, Heap.get?_push_size _ rfl⟩
theorem Inv.fresh (I : Inv X pins σ H s) : H s.heap.objs.size = none := I.hok.fresh (Nat.le_refl _)
theorem Inv.lstM (I : Inv X pins σ H s) (hH : H l = some (.lst xs)) : xs.length ≤ sizeLine ∧ ∃ (its : List Value) (n : Nat), Vals xs its ∧ xs.length = its.length ∧ s.heap.get? l = some { cls := .type "list", data := .seq its.toArray n } := by
  obtain ⟨z, its, n, r, e⟩ := I.hok l _ hH
  exact ⟨z, its, n, r, r.length, e⟩

theorem notLongL {n : Nat} (h : n ≤ sizeLine) : Builtin.List.listTooLong n = false := by
  unfold Builtin.List.listTooLong
  exact decide_eq_false (by omega)
end

section
variable {X : Cx}

/-! ### methods -/
def rAppend : V → List V → Hp → VK → Prop := fun x vs H Q => ∃ l xs y, x = .ref l ∧ vs = [y] ∧ H l = some (.lst xs) ∧ xs.length < sizeLine ∧ Q .non (upd H l (.lst (xs ++ [y])))
theorem mt_append : MtM X "list.append" rAppend := by
  intro pins s σ H x vs v us Q I rx rv h
  obtain ⟨l, xs, y, rfl, rfl, hH, hz, q⟩ := h
  cases rx
  obtain ⟨u, rfl, ru⟩ := rv.one
  obtain ⟨z, its, n, r, hl, e⟩ := I.lstM hH
  refine call_meets F.slot_list_append ⟨_, e, rfl⟩ F.entry_list_append (F.args_list_append_2 _ _) (PySem.list_append l its.toArray n u (by rw [List.size_toArray]; omega)) ⟨e, ?_⟩
  refine ⟨.non, _, I.lset (its' := its ++ [u]) hH e (by simp) (r.append (.cons ru .nil)) ?_, rfl, q⟩
  rw [List.length_append, List.length_singleton]
  omega

def rExtend : V → List V → Hp → VK → Prop := fun x vs H Q => ∃ l b xs zs, x = .ref l ∧ vs = [.ref b] ∧ H l = some (.lst xs) ∧ H b = some (.lst zs) ∧ xs.length + zs.length ≤ sizeLine ∧ Q .non (upd H l (.lst (xs ++ zs)))
theorem mt_extend : MtM X "list.extend" rExtend := by
  intro pins s σ H x vs v us Q I rx rv h
  obtain ⟨l, b, xs, zs, rfl, rfl, hH, hB, hz, q⟩ := h
  cases rx
  obtain ⟨u, rfl, ru⟩ := rv.one
  cases ru
  obtain ⟨z, its, n, r, hl, e⟩ := I.lstM hH
  obtain ⟨z2, its2, n2, r2, hl2, e2⟩ := I.lstM hB
  have hsz : its.toArray.size + its2.toArray.size ≤ sizeLine := by rw [List.size_toArray, List.size_toArray]; omega
  have hlong : ¬ (!its.toArray.isEmpty && Builtin.List.listTooLong (its.toArray.size + its2.toArray.size)) = true := by
    rw [notLongL hsz, Bool.and_false]
    exact Bool.false_ne_true
  refine call_meets F.slot_list_extend ⟨_, e, rfl⟩ F.entry_list_extend (F.args_list_extend_2 _ _)
    (AutoSeq1.list_extend_list_list_0 l its.toArray n b its2.toArray n2 hlong (by rw [List.size_toArray]; omega) (by omega)) ⟨e, e2, ?_⟩
  refine ⟨.non, _, I.lset (its' := its ++ its2) hH e (by simp) (r.append r2) ?_, rfl, q⟩
  rw [List.length_append]
  omega





/-! ### list + list, list += list, list * int -/
def rCat : R2 := fun x y H Q => ∃ l b xs zs, x = .ref l ∧ y = .ref b ∧ H l = some (.lst xs) ∧ H b = some (.lst zs) ∧ xs.length + zs.length ≤ sizeLine ∧ ∀ p, H p = none → Q (.ref p) (upd H p (.lst (xs ++ zs)))
theorem op_cat : OpR X (binaryOp .Add) rCat := by
  intro pins s σ H x y v u Q I rx ry h
  obtain ⟨l, b, xs, zs, rfl, rfl, hH, hB, hz, q⟩ := h
  cases rx
  cases ry
  obtain ⟨z, its, n, r, hl, e⟩ := I.lstM hH
  obtain ⟨z2, its2, n2, r2, hl2, e2⟩ := I.lstM hB
  refine PySem.P.add_list e e2 ?_ (by rw [List.size_toArray, List.size_toArray]; omega)
  have ea : its.toArray ++ its2.toArray = (its ++ its2).toArray := by simp
  rw [ea]
  exact ⟨.ref _, _, I.lnew (t' := s.toks) (r.append r2) (by rw [List.length_append]; omega), rfl, q _ I.fresh⟩

/-! ### del xs[i] -/
end

/-! ### xs[a:b] = ys -/
section
variable {prog : Program} {w : World} {A : Around} {E : Value → Shared → Prop} {s : Shared}
end

section
variable {X : Cx}
end
end L2

namespace Att
open PySem PySem.W PySem.Calls PyProof.Rows

/-! ### the script -/
theorem ints_of_wellAll {P : Params} {h : Heap} : ∀ (ns : List Int) (vs : List Value), WellAll P h vs (ns.map WData.int) → IntsAre vs ns := by
  intro ns
  induction ns with
  | nil =>
    intro vs w
    rw [List.map_nil] at w
    cases w
    exact .nil
  | cons n ns ih =>
    intro vs w
    rw [List.map_cons] at w
    cases w with
    | cons a b =>
      cases a
      exact .cons _ _ (ih _ b)

theorem script_of {l : OpenLaw} {n : Nat} (hn : l.most = some n) {P : Params} {h : Heap} {args : List WData} {vals : List Value}
    (hpre : l.row.toRowW.claim.pre args = true) (hwl : WellAll P h vals args) :
    ∃ a vs ns, vals = [Value.ref a] ∧ args = [WData.list (ns.map WData.int)] ∧ h.get? a = some { cls := .type "list", data := .seq vs.toArray } ∧ IntsAre vs ns ∧ ns.length ≤ n := by
  have hsh : WShape.hasAll [] args [.list .int] = true := (pre_splitW hpre).1
  have hc : l.pre.holds [] { args := args } = true := (pre_splitW hpre).2
  obtain ⟨d, r, rfl, h1, h2⟩ := hasAllW_cons hsh
  obtain rfl := hasAllW_nil h2
  obtain ⟨xs, rfl, h3⟩ := hasW_list h1
  obtain ⟨ns, rfl⟩ := items_int h3
  have hlen : ns.length ≤ n := by
    unfold OpenLaw.pre at hc
    have h4 : (WTm.not (.lt (.lit (.int (n : Int))) (.len (.arg 0)))).holds [] { args := [.list (ns.map .int)] } = true := by
      have h4 := (holds_andW hc).1
      rw [hn] at h4
      exact h4
    have h5 := condW_of h4 (w_not (w_lt w_lit (w_len_list (w_arg rfl))))
    rw [List.length_map] at h5
    refine Nat.le_of_not_lt fun q => ?_
    have q' : (n : Int) < ((ns.length : Nat) : Int) := by omega
    first
      | (rw [decide_eq_true q'] at h5; exact absurd h5 (by decide))
      | (simp at h5; omega)
  cases hwl with
  | cons w1 w2 =>
    cases w2
    cases w1 with
    | list ho hall => exact ⟨_, _, ns, rfl, rfl, ho, ints_of_wellAll ns _ hall, hlen⟩

theorem post_true (l : OpenLaw) (args : List WData) : l.row.toRowW.claim.post args (.bool true) args = true :=
  postW_of (r := l.row.toRowW) (X := (true == true))
    (show WShape.has [] (.bool true) .bool = true by first | rfl | decide | simp [WShape.has, WShape.arms, WShape.armsAll])
    (show (WTm.eq .res (.lit (.bool true))).value [] { args := args, res := some (.bool true), after := args } = some (.bool (true == true)) from w_eq_bool (w_res rfl) w_lit) rfl

/-! ### the attachment: holds_open's last premise (the goal 'hc' behind k_head) from a wpAny of the law's body -/

/-- the same from a codeAny of the CALL (for a layer whose function contracts speak of calls) -/
theorem attach_call {l : OpenLaw} {n : Nat} {q : Program} {loose : List Str} {XP : (Str → Option Value) → Heap → Prop} {YP : World → Heap → Prop} {d : DefRec}
    (hn : l.most = some n) (hdf : d.params.defaults = [])
    (call : ∀ (w : World) (s₀ s₁ : Shared) (mg mb : Str → Option Value) (fa : Addr) (o : Obj) (pm cd doc : Value) (a : Addr) (vs : List Value) (ns : List Int),
      Ground q loose [] XP w s₀ mg mb s₁.heap → YP w s₁.heap →
      s₁.heap.get? fa = some o → o.data = .func (docDef d.name d.params d.body d.scope pm cd doc) → s₁.heap.CodeRec cd d.name → mg d.name = some (.ref fa) →
      s₁.heap.get? a = some { cls := .type "list", data := .seq vs.toArray } → IntsAre vs ns → ns.length ≤ n → s₁.gens = #[] →
      codeAny (model l.prog w) callerA (.call (.ref fa) ⟨[.ref a], []⟩) (fun r s' => r = .ok (.ret (.bool true)) ∧ OldK s₁.heap s'.heap ∧ s'.os = s₁.os ∧ AllBare s'.gens) s₁) :
    WalkO q loose XP YP l.row.toRowW d [] (fun f vs => PySem.call f vs) := by
  intro w s₀ s₁ mg mb G Y fa o pm cd doc dV kV ho hd hcd hD hmg hg args vals as hpre hlay hrd hwl hlo
  obtain rfl : dV = .none := Dflts.none hD hdf
  obtain rfl : kV = .none := Dflts.noKw hD
  obtain ⟨a, vs, ns, rfl, rfl, hobj, hints, hlen⟩ := script_of hn hpre hwl
  refine enter_call (codeAny_mono (call w s₀ s₁ mg mb fa o pm cd doc a vs ns G Y ho (fd_plain hd) hcd hmg hobj hints hlen hg) fun r s' hq => ?_)
  obtain ⟨rfl, h2, h3, h4⟩ := hq
  exact ⟨.inl ⟨.bool true, .bool true, [], rfl, fun _ => rfl, .bool true, post_true l _, fun _ => ⟨List.Pairwise.nil, fun _ hm => (nomatch hm)⟩⟩, h2, h3, h4⟩


/-! ### rules over ANY heap (no ledger) from facts about the written part K: the library's own take a ledger (News) for what they write -/
section
variable {prog : Program} {w : World} {A : Around} {E : Value → Shared → Prop} {s : Shared} {K : Frag}





/-! the whole heap as the ledger: makes every rule that writes through a ledger a rule over any heap -/
def ledger (h : Heap) (L d : Addr) : List (Addr × Obj) := (List.range h.objs.size).filterMap fun a => if a = L ∨ a = d then none else (h.get? a).map fun o => (a, o)

end
end Att

namespace L2
open PySem PySem.Spec PyProof.Rows

theorem vals_ints : ∀ {vs : List Value} {ns : List Int}, IntsAre vs ns → Vals (ns.map V.int) vs
  | _, _, .nil => .nil
  | _, _, .cons n t h => .cons ⟨t, rfl⟩ (vals_ints h)

/-- nothing is tracked but the script, known to the object (or it is an object of the module) -/
def Only (H : Hp) : Prop := ∀ b, H b = none ∨ ∃ o xs, H b = some (.frz o (.lst xs))

/-- THE HEAD: the law's promise, at the heap behind the top. F, the promise of the law's def, may use that base is part of the heap (so K.In base, base.Ns mainGlobals mg stand in Mod) -/
theorem law_call {P : Program} {w : World} {K : PySem.W.Frag} {mg mb : Str → Option Value} {CX : CXT} {k : Nat} {fa a : Addr} {fd : FuncData} {x : Str} {sp : Sp} {s₁ : Shared} {vs : List Value} {ns : List Int}
    (KX : K.In s₁.heap) (hns : s₁.heap.Ns mainGlobals mg) (hb : s₁.heap.Ns builtinsNs mb) (hbb : ∀ x : Str, x ≠ "__name__" → mb x = bootBuiltins x) (hlim : s₁.heap.NoLimit) (hg : s₁.gens = #[])
    (ha : s₁.heap.get? a = some { cls := .type "list", data := .seq vs.toArray }) (hi : IntsAre vs ns) (hl : ns.length ≤ sizeLine) (hr : Room k callerA)
    (F : ∀ base : Heap, K.In base → base.Ns mainGlobals mg → FnOk P w K mg base CX k fa fd [x] sp) (hbind : ∀ (s : Shared) (u : Value), BindsTo s fd ⟨[u], []⟩ [(x, u)])
    (hsp : ∀ H : Hp, Only H → SqL K H a (ns.map V.int) → sp [.ref a] H (fun v _ => v = .bl true) fun _ _ _ => False)
    (hCX : ∀ H e s', CX [] H s₁ (fun _ _ _ => False) e s' → False) :
    codeAny (model P w) callerA (.call (.ref fa) ⟨[.ref a], []⟩) (fun r s' => r = .ok (.ret (.bool true)) ∧ OldK s₁.heap s'.heap ∧ s'.os = s₁.os ∧ AllBare s'.gens) s₁ := by
  have rv := vals_ints hi
  have lenV := hi.length
  -- from an abstract heap in which nothing but the script may be tracked
  have core : ∀ H : Hp, Only H → SqL K H a (ns.map V.int) → HOk P w H s₁.heap → (∀ b, H b ≠ none → b = a) → (H a ≠ none → K.lookup a = none) →
      codeAny (model P w) callerA (.call (.ref fa) ⟨[.ref a], []⟩) (fun r s' => r = .ok (.ret (.bool true)) ∧ OldK s₁.heap s'.heap ∧ s'.os = s₁.os ∧ AllBare s'.gens) s₁ := by
    intro H hO hS hok hA hK
    have base_of : ∀ {b : Addr} {o : Obj}, s₁.heap.get? b = some o → H b = none → (hidT s₁.heap H).get? b = some o := fun e n => hidT_get e n
    have noA : ∀ {b : Addr} {o : Obj} {es : Array DictEntry} {ep : Nat}, s₁.heap.get? b = some o → o.data = .dict es ep → H b = none := fun {b o es ep} e d => by
      cases q : H b with
      | none => rfl
      | some u =>
        have e' : b = a := hA b (by rw [q]; simp)
        subst e'
        rw [ha] at e; cases e
        have d' : Data.seq vs.toArray _ = Data.dict es ep := d
        cases d'
    have nsK : ∀ {b : Addr} {m : Str → Option Value}, s₁.heap.Ns b m → (hidT s₁.heap H).Ns b m := fun {b m} ⟨o, es, ep, e, d, r⟩ => ⟨o, es, ep, base_of e (noA e d), d, r⟩
    have hKb : K.In (hidT s₁.heap H) := fun b o e => base_of (KX b o e) (by
      cases q : H b with
      | none => rfl
      | some u =>
        have e' : b = a := hA b (by rw [q]; simp)
        subst e'
        rw [hK (by rw [q]; simp)] at e; cases e)
    have hM : Mod K mg (hidT s₁.heap H) := ⟨hKb, nsK hns, ⟨mb, nsK hb, hbb⟩, let ⟨mc, h1, h2⟩ := hlim; ⟨mc, nsK h1, h2⟩⟩
    have e0 : Env0 P w K mg (hidT s₁.heap H) callerA [] s₁ H := ⟨rfl, hM, fun b o e => of_hidT e, Nat.le_of_eq (hidT_size _ _), trivial, fun b hb => absurd (show b ∈ ([] : List Addr) from hb) (by simp), hok, .of_eq hg⟩
    refine codeAny_mono ((F _ hKb (nsK hns)).run callerA [] s₁ H ⟨[.ref a], []⟩ [.ref a] [.ref a] _ _ hr e0 (hbind s₁ (.ref a)) (.cons rfl .nil) (hsp H hO hS)) fun r s' h => ?_
    cases r with
    | error e => exact (hCX H e s' h).elim
    | ok fl =>
      cases fl with
      | next => exact False.elim h
      | brk => exact False.elim h
      | cont => exact False.elim h
      | ret u =>
        obtain ⟨v, H', os, bare, un, hok', r', q⟩ := h
        have q' : v = .bl true := q
        subst q'
        obtain rfl : u = Value.bool true := r'
        refine ⟨rfl, OldK.of_keep fun b o e => ?_, os, bare⟩
        cases q : H b with
        | none => exact un.keep b o e q (by intro z; exact absurd (show b ∈ ([] : List Addr) from z) (by simp)) (by simp)
        | some u =>
          rcases hO b with z | ⟨ob, xs, z⟩
          · rw [q] at z; cases z
          · have z2 := un.frzs b ob _ z
            obtain ⟨e1, _⟩ := hok b _ z
            obtain ⟨e2, _⟩ := hok' b _ z2
            rw [e] at e1; cases e1
            exact e2
  cases hk : K.lookup a with
  | some o =>
    -- the script is one of the module's own objects
    have e := KX a o hk
    rw [ha] at e
    cases e
    refine core (fun _ => none) (fun _ => .inl rfl) (.inr ⟨_, vs.toArray, _, hk, rfl, rfl, rfl, by rw [List.size_toArray, lenV]; exact hl, by simpa using rv⟩) (fun b u z => by have z' : (none : Option HO) = some u := z; cases z') (fun b z => absurd rfl z) fun z => absurd rfl z
  | none =>
    refine core (fun b => if b = a then some (.frz { cls := .type "list", data := .seq vs.toArray } (.lst (ns.map V.int))) else none) (fun b => ?_) (.inl (.inr ⟨{ cls := .type "list", data := .seq vs.toArray }, if_pos rfl⟩)) (fun b u z => ?_) (fun b z => ?_) fun _ => hk
    · by_cases hb : b = a
      · exact .inr ⟨_, _, if_pos hb⟩
      · exact .inl (if_neg hb)
    · by_cases hb : b = a
      · have z' := (if_pos hb).symm.trans z
        cases z'
        subst hb
        exact ⟨ha, by rw [List.length_map]; exact hl, vs, _, rv, ha⟩
      · have z' := (if_neg hb).symm.trans z
        cases z'
    · by_cases hb : b = a
      · exact hb
      · exact absurd (if_neg hb) z
end L2

namespace L2
open PySem PySem.Spec PyProof.Rows


/-- the goal that k_head leaves (case hc), from the law's promise. F gives the function object fd (K's own) once, then the promise over every base -/
theorem walk_of {l : PySem.W.OpenLaw} {n k : Nat} {q : Program} {loose : List Str} {XP : (Str → Option Value) → Heap → Prop} {YP : World → Heap → Prop} {d : DefRec} {K : Params → PySem.W.Frag} {CX : World → CXT} {sp : World → Sp} {x : Str}
    (hn : l.most = some n) (hn2 : n ≤ sizeLine) (hdf : d.params.defaults = []) (hr : Room k callerA)
    (hY : ∀ (w : World) (h : Heap), YP w h → (K w.params).In h)
    (F : ∀ (w : World) (mg : Str → Option Value) (fa : Addr) (h : Heap), (K w.params).In h → h.Ns mainGlobals mg → mg d.name = some (.ref fa) →
      ∃ fd : FuncData, (∀ (s : Shared) (u : Value), BindsTo s fd ⟨[u], []⟩ [(x, u)]) ∧
        ∀ base : Heap, (K w.params).In base → base.Ns mainGlobals mg → FnOk l.prog w (K w.params) mg base (CX w) k fa fd [x] (sp w))
    (hsp : ∀ (w : World) (H : Hp) (a : Addr) (ns : List Int), ns.length ≤ n → Only H → SqL (K w.params) H a (ns.map V.int) → sp w [.ref a] H (fun v _ => v = .bl true) fun _ _ _ => False)
    (hCX : ∀ (w : World) (H : Hp) (s : Shared) (e : Value) (s' : Shared), CX w [] H s (fun _ _ _ => False) e s' → False) :
    PySem.W.WalkO q loose XP YP l.row.toRowW d [] (fun f vs => PySem.call f vs) := by
  refine Att.attach_call hn hdf fun w s₀ s₁ mg mb fa o pm cd doc a vs ns G Y ho hd hcd hmg hobj hints hlen hg => ?_
  have KX := hY w _ Y
  obtain ⟨fd, hb, hF⟩ := F w mg fa _ KX G.T.g hmg
  exact law_call KX G.T.g G.T.b G.T.builtins G.T.nolimit hg hobj hints (Nat.le_trans hlen hn2) hr hF hb (fun H hO hS => hsp w H a ns hlen hO hS) fun H e s' => hCX w H s₁ e s'
end L2



/-! SHORT WORDS over the layer: a def of the text, its body, what a loop and a test want. -/
namespace L2
open PySem PySem.Spec PyProof.Rows

/-! ### the text by places -/
/-- the j-th statement of a class's body -/
def inClass (s : Stmt) (j : Nat) : Stmt := match s with
  | .ClassDef _ _ _ body _ _ _ _ _ _ _ => body.getD j (.Pass ⟨0, 0, 0, 0⟩)
  | _ => .Pass ⟨0, 0, 0, 0⟩
def defArgs (s : Stmt) : Arguments := match s with
  | .FunctionDef _ a _ _ _ _ _ _ _ _ => a
  | _ => { posonlyargs := [], args := [], vararg := none, kwonlyargs := [], kw_defaults := [], kwarg := none, defaults := [] }
def defBody (s : Stmt) : List Stmt := match s with
  | .FunctionDef _ _ b _ _ _ _ _ _ _ => b
  | _ => []
def defScope (s : Stmt) : Scope := match s with
  | .FunctionDef _ _ _ _ _ _ sc _ _ _ => sc
  | _ => { kind := .function, names := [], isGenerator := false, isCoroutine := false }

/-! ### no exception leaves a def -/
abbrev CX0 : CXT := fun _ _ _ _ _ _ => False
abbrev E0 : XK := fun _ _ _ => False
theorem pass0 {X : Cx} : Passes CX0 X E0 := fun _ _ _ _ _ _ _ h => h.elim

/-! ### a def (or method) of the text as it stands behind the top -/
structure Fun (K : PySem.W.Frag) (x qual : Str) (st : Stmt) (f : Addr) (fd : FuncData) : Prop where
  ex : ∃ (oc : Value) (od : Option Addr) (kV doc pm : Value) (an : Option Addr) (cdv ct : Value) (osl : Array (Option Value)),
    fd = PySem.W.fnOf x qual (defArgs st) (defBody st) (defScope st) .none kV doc pm an cdv ct ∧ K.lookup f = some ⟨oc, od, .func fd, osl⟩ ∧ PySem.W.codeIn K cdv qual = true
  kp : PySem.W.keepIn K (.ref f) = true
section
variable {P : Program} {w : World} {K : PySem.W.Frag} {mg : Str → Option Value} {base : Heap}
/-- THE RULE for a def: its body as a term of rules, and the reading of that term -/
theorem Fun.ok {x qual : Str} {st : Stmt} {f : Addr} {fd : FuncData} {N ps : List Str} {k : Nat} {sp : Sp} (F : Fun K x qual st f fd) (S : FnScope N ps (defScope st)) (len : ∀ vs H Q E, sp vs H Q E → vs.length = ps.length)
    (hbody : ∀ (cdv : Value) (A : Around) (outer : List Env) (s : Shared) (H : Hp) (vs : List V) (Q : VK) (E : XK), Room k (A.deeper (envOfC qual (defScope st) s.heap.objs.size f cdv)) → sp vs H Q E →
      ∃ t, PSs (cxOf CX0 P w K mg base N qual (defScope st) f cdv A outer s H E).nox (defBody st) t ∧ t { nx := fun _ H' => Q .non H', rt := Q } (start N vs) H) : FnOk P w K mg base CX0 (k + 1) f fd ps sp := by
  obtain ⟨oc, od, kV, doc, pm, an, cdv, ct, osl, rfl, lk, hcd⟩ := F.ex
  refine fn_of lk hcd S len fun A outer s H vs Q E hr hsp => ?_
  obtain ⟨t, h, q⟩ := hbody cdv A outer s H vs Q E hr hsp
  exact ⟨t, h.nox, q⟩
/-- how its arguments bind (no defaults): h is «fun _ _ _ _ _ _ us hl => match us, hl with | [_, _], _ => rfl», one _ a parameter -/
theorem Fun.binds {x qual : Str} {st : Stmt} {f : Addr} {fd : FuncData} {ps : List Str} (F : Fun K x qual st f fd)
    (h : ∀ (kV doc pm : Value) (an : Option Addr) (cdv ct : Value) (us : List Value), us.length = ps.length → bindArgs (PySem.W.fnOf x qual (defArgs st) (defBody st) (defScope st) .none kV doc pm an cdv ct) ⟨us, []⟩ = pure (ps.zip us)) : Binds K fd ps [] := by
  obtain ⟨oc, od, kV, doc, pm, an, cdv, ct, osl, rfl, lk, hcd⟩ := F.ex
  exact .all (h kV doc pm an cdv ct)
theorem fun_mk {x qual : Str} {st : Stmt} {f : Addr} {oc : Value} {od an : Option Addr} {osl : Array (Option Value)} {kV doc pm cdv ct : Value} (l : K.lookup f = some ⟨oc, od, .func (PySem.W.fnOf x qual (defArgs st) (defBody st) (defScope st) .none kV doc pm an cdv ct), osl⟩)
    (c : PySem.W.codeIn K cdv qual = true) (k : PySem.W.keepIn K (.ref f) = true) : Fun K x qual st f (PySem.W.fnOf x qual (defArgs st) (defBody st) (defScope st) .none kV doc pm an cdv ct) := ⟨⟨oc, od, kV, doc, pm, an, cdv, ct, osl, rfl, l, c⟩, k⟩
end
theorem hu_of {A : Around} {k : Nat} (hr : Room k A) : A.units + 1 < cLine := Nat.lt_of_le_of_lt (Nat.add_le_add_left (by decide : 1 ≤ 64) _) hr.units

/-! ### expressions in short: the name that stands in the i-th slot -/
section
variable {X : Cx}
theorem pv (i : Nat) {x : Str} {pos : Pos} (hN : X.N[i]? = some x := by rfl) (hv : Vis X.env.scope x := by first | exact Or.inl rfl | exact Or.inr (Or.inl rfl) | exact Or.inr (Or.inr rfl)) (hd : (x == ("__debug__" : Str)) = false := by decide)
    (hcd : (x == ("__classdict__" : Str)) = false := by decide) : PE X (.Name x pos) (tVar i) := pe_var hN hv hd hcd
end

/-! ### tests -/
theorem iteF {A B : Prop} (h : B) : if false = true then A else B := by
  rw [if_neg Bool.false_ne_true]
  exact h
theorem iteT {A B : Prop} (h : A) : if true = true then A else B := by
  rw [if_pos rfl]
  exact h
theorem ite2 {c A B : Prop} [Decidable c] (h1 : c → A) (h2 : ¬ c → B) : if c then A else B := by
  by_cases h : c
  · rw [if_pos h]
    exact h1 h
  · rw [if_neg h]
    exact h2 h

/-! ### heaps -/
/-- all that was tracked is as it was -/
def Same (H H' : Hp) : Prop := ∀ b o, H b = some o → H' b = some o
theorem Same.refl (H : Hp) : Same H H := fun _ _ h => h
theorem Same.trans {H H1 H2 : Hp} (a : Same H H1) (b : Same H1 H2) : Same H H2 := fun c o h => b c o (a c o h)
theorem Same.free {H H' : Hp} (e : Same H H') {l : Addr} (h : H' l = Option.none) : H l = Option.none := by
  cases q : H l with
  | none => rfl
  | some o =>
    rw [e l o q] at h
    cases h
theorem Same.seq {K : PySem.W.Frag} {H H' : Hp} {a : Addr} {xs : List V} (e : Same H H') (h : SqL K H a xs) : SqL K H' a xs := by
  rcases h with (h | ⟨o, h⟩) | h
  · exact .inl (.inl (e _ _ h))
  · exact .inl (.inr ⟨o, e _ _ h⟩)
  · exact .inr h

end L2

set_option linter.all false
/-! The table of a set of ints: its places rise, so a walk meets each member once. Own work. -/
namespace SetPure
open PySem











end SetPure

set_option linter.all false
set_option maxRecDepth 100000
set_option maxHeartbeats 4000000
/-! A set of ints that is filled: which members, and that its table is good. Own work. -/
namespace SI
open PySem SetPure




section
variable {prog : Program} {w : World} {A : Around} {E : Value → Shared → Prop} {s : Shared}



end
end SI

set_option linter.all false
set_option maxRecDepth 100000
set_option maxHeartbeats 4000000
namespace SI
open PySem SetPure
section
variable {prog : Program} {w : World} {A : Around} {E : Value → Shared → Prop} {s : Shared}

end
end SI

set_option linter.all false
set_option maxRecDepth 100000
set_option maxHeartbeats 4000000
namespace SI
open PySem SetPure
section
variable {prog : Program} {w : World} {A : Around} {E : Value → Shared → Prop} {s : Shared}








end
end SI

set_option linter.all false
set_option maxRecDepth 100000
set_option maxHeartbeats 4000000
namespace SI
open PySem SetPure
section
variable {prog : Program} {w : World} {A : Around} {E : Value → Shared → Prop} {s : Shared}



end
end SI

set_option linter.all false
set_option maxRecDepth 100000
set_option maxHeartbeats 4000000
namespace SI
open PySem SetPure PyProof.Rows
section
variable {prog : Program} {w : World} {A : Around} {R : Result → Shared → Prop} {I : Addr} {fp wr : List Addr} {G : Array GenState → Array GenState → Prop} {n : Nat} {P : Nat → Value → Prop} {St : Nat → Shared → Prop}
end
section
variable {prog : Program} {w : World} {A : Around} {E : Value → Shared → Prop} {s : Shared}
end
end SI

set_option linter.all false
set_option maxRecDepth 100000
set_option maxHeartbeats 4000000
namespace SI
open PySem SetPure PyProof.Rows
section
variable {prog : Program} {w : World} {A : Around} {E : Value → Shared → Prop} {s : Shared}
end
end SI

set_option Elab.async false
set_option linter.all false
set_option maxRecDepth 100000
set_option maxHeartbeats 4000000
/-! A list comprehension of one clause over the hand layer: own work. -/
namespace L2
open PySem PySem.Spec PyProof.Rows

section
variable {prog : Program} {w : World} {A : Around} {R : Result → Shared → Prop} {s : Shared}
/-- the loop of a comprehension, its owned tuple let go, no exception within -/
theorem compLoop_own {elt target iter : Expr} {ifs : List Expr} {scope : Scope} {pos : Pos} {it acc : Value} {env : Env} (I : Nat → Shared → Prop)
    (turn : ∀ n s, I n s → wpAny (model prog w) A (pyNext it) (fun r s₁ => match r with
      | none => R (.ok .next) s₁
      | some v => wpAny (model prog w) A (letOwnedTupleGo target it v) (fun _ s₁' => wpAny (model prog w) A (assign target env v) (fun _ s₂ =>
          wpAny (model prog w) A (forIn ifs true fun c r => if r = true then do let ok ← isTrue c env (eval c env); pure (ForInStep.yield ok) else pure (ForInStep.yield r)) (fun ok s₃ =>
            if ok = true then wpAny (model prog w) A (eval elt env) (fun x s₄ =>
              wpAny (model prog w) A (call (.builtin "list.append") [acc, x]) (fun _ s₅ => ∃ m, m < n ∧ I m s₅) (fun _ _ => False) s₄) (fun _ _ => False) s₃
            else ∃ m, m < n ∧ I m s₃) (fun _ _ => False) s₂) (fun _ _ => False) s₁') (fun _ _ => False) s₁) (fun _ _ => False) s)
    (n : Nat) (h : I n s) : codeAny (model prog w) A (.compLoop (.ListComp elt [⟨target, iter, ifs, 0⟩] scope pos) 0 it acc env) R s := by
  refine codeAny_loop rfl I (fun n s hI => ?_) n h
  show wpAny _ A ((compTurn (.ListComp elt [⟨target, iter, ifs, 0⟩] scope pos) 0 it acc env).onRaise (fun x => do noteFrame x env; theTreesLotGoes x)) _ _ s
  refine wpAny_noted ?_
  rw [compTurn_list]
  refine wpAny_bind (wpAny_standAt (wpAny_bind (wpAny_mono (turn n s hI) (fun r s₁ h₁ => ?_) fun _ _ h' => h'.elim)))
  cases r with
  | none => exact wpAny_pure h₁
  | some v =>
    refine wpAny_bind (wpAny_mono h₁ (fun _ s₁' h₁' => wpAny_bind (wpAny_mono h₁' (fun _ s₂ h₂ => wpAny_bind (wpAny_mono h₂ (fun ok s₃ h₃ => ?_) fun _ _ h' => h'.elim)) fun _ _ h' => h'.elim)) fun _ _ h' => h'.elim)
    cases ok with
    | false => exact wpAny_pure ⟨rfl, h₃⟩
    | true =>
      exact wpAny_bind (wpAny_bind (wpAny_mono h₃ (fun x s₄ h₄ => wpAny_bind (wpAny_mono h₄ (fun _ s₅ h₅ => wpAny_pure (wpAny_pure ⟨rfl, h₅⟩)) fun _ _ h' => h'.elim)) fun _ _ h' => h'.elim))
end

/-- the cells that a comprehension's block takes from around it -/
theorem closure_of {scope : Scope} {env : Env} (h : ∀ y ∈ scope.names, y.2 = .free → ∃ c, env.cells.lookup y.1 = some c) :
    ∃ cl, closureFor scope env = pure cl ∧ (∀ x c, cl.lookup x = some c → env.cells.lookup x = some c) ∧ (∀ x, (x, NameKind.free) ∈ scope.names → ∃ c, cl.lookup x = some c) := by
  have key : ∀ (l : List (Str × NameKind)) (cs : List (Str × Addr)), (∀ y ∈ l, y.2 = .free → ∃ c, env.cells.lookup y.1 = some c) → (∀ x c, cs.lookup x = some c → env.cells.lookup x = some c) →
      ∃ cl, (forIn l cs (fun (p : Str × NameKind) (r : List (Str × Addr)) => (do
          if p.2 == NameKind.free then do
            let a ← cellOf env p.1
            pure (ForInStep.yield ((p.1, a) :: r))
          else pure (ForInStep.yield r) : Sem (ForInStep (List (Str × Addr)))))) = pure cl ∧ (∀ x c, cl.lookup x = some c → env.cells.lookup x = some c) ∧ (∀ x, ((x, NameKind.free) ∈ l ∨ ∃ c, cs.lookup x = some c) → ∃ c, cl.lookup x = some c) := by
    intro l
    induction l with
    | nil => intro cs _ hc; exact ⟨cs, rfl, hc, fun x hx => hx.elim (fun z => by cases z) id⟩
    | cons p r ih =>
      intro cs hl hc
      obtain ⟨n, k⟩ := p
      by_cases hk : k = .free
      · subst hk
        obtain ⟨c, e⟩ := hl (n, .free) List.mem_cons_self rfl
        obtain ⟨cl, e1, e2, e3⟩ := ih ((n, c) :: cs) (fun y hy => hl y (List.mem_cons_of_mem _ hy)) (fun x c' q => by
          rw [List.lookup_cons] at q
          by_cases hx : x == n
          · rw [hx] at q; cases q; rw [eq_of_beq hx]; exact e
          · have hx' : (x == n) = false := by simpa using hx
            rw [hx'] at q; exact hc x c' q)
        refine ⟨cl, ?_, e2, fun x hx => e3 x ?_⟩
        · rw [List.forIn_cons]
          have : (cellOf env n) = pure c := by unfold cellOf; rw [e]
          simp only [beq_self_eq_true, if_true, this, pure_bind]
          exact e1
        · rcases hx with hx | ⟨c', hx⟩
          · rcases List.mem_cons.mp hx with z | z
            · cases z; exact .inr ⟨c, by simp⟩
            · exact .inl z
          · by_cases q : x == n
            · exact .inr ⟨c, by rw [List.lookup_cons, q]⟩
            · have q' : (x == n) = false := by simpa using q
              exact .inr ⟨c', by rw [List.lookup_cons, q']; exact hx⟩
      · obtain ⟨cl, e1, e2, e3⟩ := ih cs (fun y hy => hl y (List.mem_cons_of_mem _ hy)) hc
        refine ⟨cl, ?_, e2, fun x hx => e3 x ?_⟩
        · rw [List.forIn_cons]
          have hb : (k == NameKind.free) = false := by simpa using hk
          simp only [hb, Bool.false_eq_true, if_false, pure_bind]
          exact e1
        · rcases hx with hx | hx
          · rcases List.mem_cons.mp hx with z | z
            · cases z; exact absurd rfl hk
            · exact .inl z
          · exact .inr hx
  obtain ⟨cl, e1, e2, e3⟩ := key scope.names [] h (fun x c q => by cases q)
  refine ⟨cl, ?_, e2, fun x hx => e3 x (.inl hx)⟩
  unfold closureFor
  have e1' := e1
  simp only [bind_pure] at e1' ⊢
  first
    | exact e1'
    | (rw [← e1']; rfl)
    | (show (forIn scope.names [] _ >>= fun r => pure r) = _; rw [bind_pure]; exact e1')
end L2

namespace L2
open PySem PySem.Spec PyProof.Rows

/-- what a comprehension's scope must be, over the def's own scope (outer), the def's names N; ks: which of N the block sees -/
structure LcS (outer names : List (Str × NameKind)) (N : List Str) (ks : List Bool) : Prop where
  fv : ∀ y ∈ names, y.2 = .free → outer.lookup y.1 = some .cell ∨ outer.lookup y.1 = some .free
  nocell : ∀ y ∈ names, y.2 ≠ .cell
  loc : ∀ y ∈ names, y.2 = .local → names.lookup y.1 = some .local
  free : ∀ y ∈ names, y.2 = .free → names.lookup y.1 = some .free
  vis : ∀ p ∈ N.zip ks, p.2 = true → names.lookup p.1 = some .free
  len : ks.length = N.length

/-- the values that the block sees -/
def mask (ks : List Bool) (σ : St) : St := List.zipWith (fun k v => if k then v else none) ks σ
theorem mask_get {ks : List Bool} {σ : St} {i : Nat} {v : V} (h : (mask ks σ)[i]? = some (some v)) : ks[i]? = some true ∧ σ[i]? = some (some v) := by
  unfold mask at h
  rw [List.getElem?_zipWith] at h
  cases e1 : ks[i]? with
  | none => rw [e1] at h; cases h
  | some k =>
    cases e2 : σ[i]? with
    | none => rw [e1, e2] at h; cases h
    | some u =>
      rw [e1, e2] at h
      cases k with
      | true => simp at h; subst h; exact ⟨rfl, rfl⟩
      | false => simp at h
theorem mask_len {ks : List Bool} {σ : St} (h : ks.length = σ.length) : (mask ks σ).length = σ.length := by
  unfold mask; rw [List.length_zipWith, h, Nat.min_self]

/-- the block's context -/
def cxLC (X : Cx) (scope : Scope) (cl : List (Str × Addr)) (ext : List Str) (C : Addr) (fp : List Addr) (s₀ : Shared) (H₀ : Hp) : Cx :=
  { X with N := X.N ++ ext, env := compEnvC scope cl C X.env, s₀ := s₀, H₀ := H₀, outer := X.stack, ex := fp, fn := fun _ => false, pn := [], xe := fun _ _ => False }

theorem relabel_kind {env : Env} : ∀ {names : List (Str × NameKind)} {x : Str} {k' : NameKind},
    (names.map fun (n, k) => if (k == NameKind.free && env.scope.kind == .function && env.kindOf n == some .cell) then (n, NameKind.cell) else (n, k)).lookup x = some k' →
    names.lookup x = some k' ∨ (k' = .cell ∧ names.lookup x = some .free)
  | [], _, _, h => by simp at h
  | (n, k) :: r, x, k', h => by
    have h : List.lookup x ((if (k == NameKind.free && env.scope.kind == .function && env.kindOf n == some .cell) = true then (n, NameKind.cell) else (n, k)) :: (r.map fun (n, k) => if (k == NameKind.free && env.scope.kind == .function && env.kindOf n == some .cell) then (n, NameKind.cell) else (n, k))) = some k' := h
    cases hx : x == n with
    | true =>
      by_cases hc : (k == NameKind.free && env.scope.kind == .function && env.kindOf n == some .cell) = true
      · rw [if_pos hc] at h
        simp only [List.lookup_cons, hx] at h
        cases h
        simp only [Bool.and_eq_true, beq_iff_eq] at hc
        exact .inr ⟨rfl, by simp only [List.lookup_cons, hx]; rw [hc.1.1]⟩
      · rw [if_neg hc] at h
        simp only [List.lookup_cons, hx] at h
        cases h
        exact .inl (by simp only [List.lookup_cons, hx])
    | false =>
      have h' : (r.map fun (n, k) => if (k == NameKind.free && env.scope.kind == .function && env.kindOf n == some .cell) then (n, NameKind.cell) else (n, k)).lookup x = some k' := by
        split at h <;> simpa only [List.lookup_cons, hx] using h
      simp only [List.lookup_cons, hx]
      exact relabel_kind h'
theorem relabel_free {env : Env} : ∀ {names : List (Str × NameKind)} {x : Str}, names.lookup x = some .free →
    (names.map fun (n, k) => if (k == NameKind.free && env.scope.kind == .function && env.kindOf n == some .cell) then (n, NameKind.cell) else (n, k)).lookup x = some .cell ∨
    (names.map fun (n, k) => if (k == NameKind.free && env.scope.kind == .function && env.kindOf n == some .cell) then (n, NameKind.cell) else (n, k)).lookup x = some .free
  | [], _, h => by simp at h
  | (n, k) :: r, x, h => by
    show List.lookup x ((if (k == NameKind.free && env.scope.kind == .function && env.kindOf n == some .cell) = true then (n, NameKind.cell) else (n, k)) :: _) = _ ∨ List.lookup x ((if (k == NameKind.free && env.scope.kind == .function && env.kindOf n == some .cell) = true then (n, NameKind.cell) else (n, k)) :: _) = _
    cases hx : x == n with
    | true =>
      simp only [List.lookup_cons, hx] at h
      cases h
      split
      · exact .inl (by simp only [List.lookup_cons, hx])
      · exact .inr (by simp only [List.lookup_cons, hx])
    | false =>
      simp only [List.lookup_cons, hx] at h
      have ih := @relabel_free env r x h
      split <;> simp only [List.lookup_cons, hx] <;> exact ih

/-- the block's entry -/
theorem inv_lc {X : Cx} {pins : List (Addr × Obj)} {σ : St} {H : Hp} {s : Shared} {scope : Scope} {cl : List (Str × Addr)} {ks : List Bool} {ext : List Str} {fp : List Addr} {C : Addr} {h1 : Heap} {tk : Nat}
    (I : Inv X pins σ H s) (S : LcS X.env.scope.names scope.names X.N ks) (hkind : scope.kind = .function) (c1 : ∀ x c, cl.lookup x = some c → X.env.cells.lookup x = some c) (c2 : ∀ x, (x, NameKind.free) ∈ scope.names → ∃ c, cl.lookup x = some c)
    (hfp : ∀ b ∈ fp, FpOk X pins H b) (hlt : ∀ b ∈ fp, b < s.heap.objs.size) (hC : C = s.heap.objs.size) (hn : h1.Ns C (fun _ => none)) (hk : ∀ b o, s.heap.get? b = some o → h1.get? b = some o) :
    Inv (cxLC X scope cl ext C fp s H) [] (mask ks σ ++ List.replicate ext.length none) H { s with heap := h1, toks := tk } := by
  have hlen : ks.length = σ.length := by rw [S.len, I.len]
  refine ⟨⟨I.ok.mod, hkind, I.ok.glob, I.ok.blt, Nat.le_of_eq hC.symm, fun x y c e1 e2 => I.ok.inj x y c (c1 x c e1) (c1 y c e2), fun x hx => ?_, (fun x c hf => by cases hf), I.ok.hd, I.ok.frames, .inl rfl, fun b hb => ⟨?_, fun x c e => (hfp b hb).2.2.2.2.1 x c (c1 x c e)⟩, I.bs, Nat.le_trans I.ok.bsz I.sz, fun b o e hb => ?_, fun b hb hz => ?_, I.stack, I.stkFree⟩,
    rfl, I.bare, Un.kept hk, ⟨_, hn, fun i x v e1 e2 e3 => ?_⟩, fun x c e => ?_, ?_, fun x c e => I.freeC x c (c1 x c e), fun p hp => absurd (show p ∈ ([] : List (Addr × Obj)) from hp) (by simp), I.hok.kept hk, ?_⟩
  · -- a cell for each cell or free name
    have hx' : (relabel scope X.env).names.lookup x = some .cell ∨ (relabel scope X.env).names.lookup x = some .free := hx
    have hfree : scope.names.lookup x = some .free := by
      rcases hx' with q | q
      · rcases relabel_kind q with z | ⟨_, z⟩
        · exact absurd rfl (S.nocell _ (PySem.mem_of_lookup z))
        · exact z
      · rcases relabel_kind q with z | ⟨z, _⟩
        · exact z
        · cases z
    exact c2 x (PySem.mem_of_lookup hfree)
  · intro z
    have h0 := hlt b hb
    have z' : b = C := z
    rw [z', hC] at h0
    exact Nat.lt_irrefl _ h0
  · obtain ⟨_, _, _, h4, _, _⟩ := hfp b hb
    rcases h4 with z | z
    · exact I.ok.noex b o e z
    · exact absurd (Heap.lt_size (I.ok.bs b o e).1) (Nat.not_lt.mpr z)
  · have hz' : b ∈ frs X.stack := hz
    rcases List.mem_cons.mp (I.stkSub b hz') with q | q
    · exact (hfp b hb).2.1 q
    · exact (hfp b hb).2.2.1 q
  · have hi : i < (mask ks σ).length := by
      by_cases hi : i < (mask ks σ).length
      · exact hi
      · rw [List.getElem?_append_right (by omega), List.getElem?_replicate] at e2
        split at e2 <;> cases e2
    rw [List.getElem?_append_left hi] at e2
    obtain ⟨k1, k2⟩ := mask_get e2
    have hiN : i < X.N.length := by rw [← I.len]; rw [mask_len hlen] at hi; exact hi
    have e1' : X.N[i]? = some x := by
      have : (X.N ++ ext)[i]? = some x := e1
      rwa [List.getElem?_append_left hiN] at this
    have hz : (x, true) ∈ X.N.zip ks := by
      rw [List.mem_iff_getElem?]
      exact ⟨i, by rw [List.getElem?_zip_eq_some]; exact ⟨e1', k1⟩⟩
    have hfree := S.vis (x, true) hz rfl
    have hvis : X.env.kindOf x = some .cell ∨ X.env.kindOf x = some .free := S.fv (x, .free) (PySem.mem_of_lookup hfree) rfl
    obtain ⟨m, hm, hl⟩ := I.loc
    obtain ⟨u, r, l⟩ := hl i x v e1' k2 (hvis.elim (fun z => .inr (.inl z)) fun z => .inr (.inr z))
    refine ⟨u, r, .inr ⟨relabel_free hfree, ?_⟩⟩
    rcases l with ⟨z, _⟩ | ⟨_, c, ec, hc⟩
    · rcases hvis with q | q <;> · rw [q] at z; cases z
    · obtain ⟨c', ec'⟩ := c2 x (PySem.mem_of_lookup hfree)
      have := c1 x c' ec'
      rw [ec] at this; cases this
      obtain ⟨o, ho, hd⟩ := hc
      exact ⟨c, ec', o, hk c o ho, hd⟩
  · obtain ⟨v, o, ho, hd⟩ := I.cell x c (c1 x c e)
    exact ⟨v, o, hk c o ho, hd⟩
  · show H C = none
    rw [hC]; exact I.hok.fresh (Nat.le_refl _)
  · rw [List.length_append, List.length_replicate, mask_len hlen, I.len]
    show _ = (X.N ++ ext).length
    rw [List.length_append]
end L2

namespace L2
open PySem PySem.Spec PyProof.Rows

/-- the tests of a clause -/
def PTs (X : Cx) (ifs : List Expr) (t : TT) : Prop :=
  ∀ (pins : List (Addr × Obj)) (s : Shared) (σ : St) (H : Hp) (Q : Bool → Hp → Prop), Inv X pins σ H s → t σ H Q →
    wpAny (model X.prog X.w) X.A (forIn ifs true fun c r => if r = true then do let ok ← isTrue c X.env (eval c X.env); pure (ForInStep.yield ok) else pure (ForInStep.yield r)) (TP X pins σ Q) X.xe s
def tYes : TT := fun _ H Q => Q true H
theorem pts_nil {X : Cx} : PTs X [] tYes := fun _ _ σ H Q I h => wpAny_tests_nil ⟨H, I, h⟩
theorem pts_one {X : Cx} {c : Expr} {t : TT} (h : PT X c t) : PTs X [c] t := fun pins s σ H Q I q => wpAny_tests_one (h pins s σ H Q I q)

/-- the turns, by a word W of turn, measure, what was gathered, values, heap -/
def lcTurn (J : It) (D : Addr) (g : TG) (tt : TT) (te : TE) (Q : Hp → Prop) (W : Nat → Nat → List V → St → Hp → Prop) : Prop :=
  ∀ i m ys σ H, W i m ys σ H → (J.stop i H ∧ Q H) ∨ (J.go i H ∧ ∀ x H', J.yld i H x H' → g x σ H' fun σ2 H2 => tt σ2 H2 fun b H3 =>
    if b = true then te σ2 H3 fun y H4 => H4 D = some (.lst ys) ∧ ys.length < sizeLine ∧ ∃ m', m' < m ∧ W (i + 1) m' (ys ++ [y]) σ2 (upd H4 D (.lst (ys ++ [y])))
    else ∃ m', m' < m ∧ W (i + 1) m' ys σ2 H3)
def tLC (ks : List Bool) (e : Nat) (wi : TI) (g : TG) (tt : TT) (te : TE) : TE := fun σ H Q => wi σ H fun J H1 => ∀ D, H1 D = none →
  ∃ W : Nat → Nat → List V → St → Hp → Prop, (∃ m, W 0 m [] (mask ks σ ++ List.replicate e none) (upd H1 D (.lst []))) ∧ lcTurn J D g tt te (fun H2 => Q (.ref D) H2) W

structure Blk (X : Cx) (scope : Scope) (ext : List Str) (tg : Expr) (ifs : List Expr) (elt : Expr) (g : TG) (tt : TT) (te : TE) : Prop where
  pg : ∀ cl C fp s₀ H₀, PG (cxLC X scope cl ext C fp s₀ H₀) tg g
  pt : ∀ cl C fp s₀ H₀, PTs (cxLC X scope cl ext C fp s₀ H₀) ifs tt
  pe : ∀ cl C fp s₀ H₀, PE (cxLC X scope cl ext C fp s₀ H₀) elt te

theorem lc_core {X : Cx} {elt tg iter : Expr} {ifs : List Expr} {scope : Scope} {pos : Pos} {ks : List Bool} {ext : List Str} {g : TG} {tt : TT} {te : TE} {pins : List (Addr × Obj)} {σ : St} {H2 : Hp} {s2 : Shared} {cl : List (Str × Addr)}
    {it : Addr} {fp : List Addr} {tn : Nat → Heap → Prop} {J : It} {RR : Value → Addr → Result → Shared → Prop} {QD : Addr → Hp → Prop} {E : Value → Shared → Prop}
    (S : LcS X.env.scope.names scope.names X.N ks) (hkind : scope.kind = .function) (hc : X.calm = true) (B : Blk X scope ext tg ifs elt g tt te)
    (c1 : ∀ x c, cl.lookup x = some c → X.env.cells.lookup x = some c) (c2 : ∀ x, (x, NameKind.free) ∈ scope.names → ∃ c, cl.lookup x = some c)
    (I2 : Inv X pins σ H2 s2) (T : Turn X.prog X.w X.K tg J fp it tn) (st2 : tn 0 s2.heap) (f2 : ∀ b ∈ fp, FpOk X pins H2 b)
    (hW : ∀ D, H2 D = none → ∃ W : Nat → Nat → List V → St → Hp → Prop, (∃ m, W 0 m [] (mask ks σ ++ List.replicate ext.length none) (upd H2 D (.lst []))) ∧ lcTurn J D g tt te (QD D) W)
    (hRR : ∀ D C s4 H' m, Inv X pins σ H' s4 → FpOk X pins H' C → s4.heap.Ns C m → QD D H' → RR (.ref D) C (.ok .next) s4) :
    wpAny (model X.prog X.w) X.A (newList []) (fun acc s₃ => wpAny (model X.prog X.w) X.A (newFunctionEnv scope X.env.globals cl [] X.env.qual none .none (some X.env)) (fun cenv s₄ =>
      codeAny (model X.prog X.w) X.A (.compStart (.ListComp elt [⟨tg, iter, ifs, 0⟩] scope pos) 0 (.ref it) acc { cenv with scope := relabel scope X.env }) (RR acc cenv.locals) s₄) E s₃) E s2 := by
  have hcell : ∀ y ∈ scope.names, y.2 ≠ .cell := S.nocell
  refine wpAny_newObj_type (wpAny_newFunctionEnv hcell (by intro y hy; simp at hy) (fun h₁ hns₁ hsb₁ => ?_) hkind)
  dsimp only at hns₁ hsb₁ ⊢
  have fD : H2 s2.heap.objs.size = none := I2.hok.fresh (Nat.le_refl _)
  have I3 : Inv X pins σ (upd H2 s2.heap.objs.size (.lst [])) { s2 with heap := s2.heap.push { cls := .type "list", dict := none, data := .seq ([] : List Value).toArray } } :=
    I2.laid (t' := s2.toks) (fun b u e => Heap.get?_push_of_some _ e) (Nat.le_refl _) ⟨Nat.zero_le _, [], 0, .nil, Heap.get?_push_size _ rfl⟩
  obtain ⟨W, ⟨m0, w0⟩, turn⟩ := hW s2.heap.objs.size fD
  generalize hH3 : s2.heap.push { cls := .type "list", dict := none, data := .seq ([] : List Value).toArray } = h3 at hns₁ hsb₁ I3 ⊢
  have hsz : h3.objs.size = s2.heap.objs.size + 1 := by rw [← hH3, Heap.size_push]
  have hlt2 : ∀ b ∈ fp, b < s2.heap.objs.size := fun b hb => let ⟨o, e, _⟩ := T.obj 0 _ st2 b hb; Heap.lt_size e
  have hlt : ∀ b ∈ fp, b < h3.objs.size := fun b hb => Nat.lt_of_lt_of_eq (Nat.lt_succ_of_lt (hlt2 b hb)) hsz.symm
  have f3 : ∀ b ∈ fp, FpOk X pins (upd H2 s2.heap.objs.size (.lst [])) b := fun b hb => ⟨by rw [upd_ne (Nat.ne_of_lt (hlt2 b hb))]; exact (f2 b hb).1, (f2 b hb).2⟩
  have hk : ∀ b o, h3.get? b = some o → h₁.get? b = some o := fun b o e => hsb₁.extBut b o (Nat.ne_of_lt (Heap.lt_size e)) (Heap.get?_push_of_some _ e)
  have I4 : Inv (cxLC X scope cl ext h3.objs.size fp { s2 with heap := h3 } (upd H2 s2.heap.objs.size (.lst []))) [] (mask ks σ ++ List.replicate ext.length none) (upd H2 s2.heap.objs.size (.lst [])) { s2 with heap := h₁, toks := s2.toks + ([] : List (Str × Value)).length } :=
    inv_lc (C := h3.objs.size) I3 S hkind c1 c2 f3 hlt rfl (by simpa using hns₁) hk
  have st4 : tn 0 h₁ := T.keep _ _ _ st2 fun b hb o e => hk b o (by rw [← hH3]; exact Heap.get?_push_of_some _ e)
  have stat : ∀ {H' : Hp} {p' : List (Addr × Obj)}, p' = [] → (∀ b ∈ fp, H' b = none) → ∀ b ∈ fp, FpOk (cxLC X scope cl ext h3.objs.size fp { s2 with heap := h3 } (upd H2 s2.heap.objs.size (.lst []))) p' H' b := fun {H' p'} hp hn b hb => by
    subst hp
    exact ⟨hn b hb, (I4.ok.exf b hb).1, I4.ok.exfs b hb, .inl hb, fun x c e => (I4.ok.exf b hb).2 x c e, fun p hp => absurd (show p ∈ ([] : List (Addr × Obj)) from hp) (by simp)⟩
  have loop : ∀ s₃ : Shared, s₃ = { s2 with heap := h₁, toks := s2.toks + ([] : List (Str × Value)).length } →
      codeAny (model X.prog X.w) X.A (.compLoop (.ListComp elt [⟨tg, iter, ifs, 0⟩] scope pos) 0 (.ref it) (.ref s2.heap.objs.size) (compEnvC scope cl h3.objs.size X.env)) (RR (.ref s2.heap.objs.size) h3.objs.size) s₃ := by
    rintro s₃ rfl
    refine compLoop_own (fun n s' => ∃ i ys σ' H', Inv (cxLC X scope cl ext h3.objs.size fp { s2 with heap := h3 } (upd H2 s2.heap.objs.size (.lst []))) [] σ' H' s' ∧ tn i s'.heap ∧ (∀ b ∈ fp, H' b = none) ∧ W i n ys σ' H') ?_ m0
      ⟨0, [], _, _, I4, st4, fun b hb => (f3 b hb).1, w0⟩
    rintro n s' ⟨i, ys, σ', H', I', st', fr', w'⟩
    rcases turn i n ys σ' H' w' with ⟨stop, q⟩ | ⟨go, step⟩
    · refine thn (T.done (cxLC X scope cl ext h3.objs.size fp { s2 with heap := h3 } (upd H2 s2.heap.objs.size (.lst []))) rfl rfl rfl hc i [] s' σ' H' _ I' (stat rfl fr') st' stop) fun r s4 ⟨hr, J4⟩ => ?_
      subst hr
      show RR (.ref s2.heap.objs.size) h3.objs.size (.ok .next) s4
      obtain ⟨m, hn, _⟩ := J4.loc
      have fC : H' h3.objs.size = none := J4.free
      have IX : Inv X pins σ H' s4 := I3.call' (ch := fp) J4.os J4.base J4.hok J4.bare fun b hb => ⟨(f3 b hb).2.2.2.1, (f3 b hb).2.1, (f3 b hb).2.2.2.2.1, (f3 b hb).2.2.2.2.2⟩
      exact hRR _ _ s4 H' m IX (I3.fpOk (Nat.le_refl _) fC) hn q
    · refine thn (T.item (cxLC X scope cl ext h3.objs.size fp { s2 with heap := h3 } (upd H2 s2.heap.objs.size (.lst []))) rfl rfl rfl hc i [] s' σ' H' _ I' (stat rfl fr') st' go) fun r s4 ⟨u, hr, h4⟩ => ?_
      subst hr
      refine thn h4 fun _ s5 ⟨x, H5, I5, r5, y5, st5, fr5⟩ => ?_
      have I5' := I5.pinned (stat rfl fr5) (T.obj _ _ st5)
      refine thn (B.pg _ _ _ _ _ _ s5 σ' H5 x u _ I5' r5 (step x H5 y5)) fun _ s6 ⟨σ6, H6, I6, q6⟩ => ?_
      refine thn (B.pt _ _ _ _ _ _ s6 σ6 H6 _ I6 q6) fun ok s7 ⟨H7, I7, q7⟩ => ?_
      have again : ∀ {σ7 : St} {H8 : Hp} {s8 : Shared} {ys' : List V} {m' : Nat}, Inv (cxLC X scope cl ext h3.objs.size fp { s2 with heap := h3 } (upd H2 s2.heap.objs.size (.lst []))) ([] ++ pinsAt fp s5.heap) σ7 H8 s8 → m' < n → W (i + 1) m' ys' σ7 H8 →
          ∃ m, m < n ∧ ∃ i ys σ' H', Inv (cxLC X scope cl ext h3.objs.size fp { s2 with heap := h3 } (upd H2 s2.heap.objs.size (.lst []))) [] σ' H' s8 ∧ tn i s8.heap ∧ (∀ b ∈ fp, H' b = none) ∧ W i m ys σ' H' := fun {σ7 H8 s8 ys' m'} I8 hm w8 => by
        refine ⟨m', hm, i + 1, ys', σ7, H8, I8.unpinned, T.keep _ _ _ st5 fun b hb o e => (I8.pin (b, o) (List.mem_append_right _ (List.mem_append_right _ (mem_pinsAt hb e)))).1, fun b hb => ?_, w8⟩
        obtain ⟨o, e, d⟩ := T.obj _ _ st5 b hb
        exact (I8.pin (b, o) (List.mem_append_right _ (List.mem_append_right _ (mem_pinsAt hb e)))).2.1
      cases ok with
      | false =>
        obtain ⟨m', hm, w7⟩ := (show ∃ m', m' < n ∧ W (i + 1) m' ys σ6 H7 from q7)
        exact again I7 hm w7
      | true =>
        rw [if_pos rfl] at q7 ⊢
        refine thn (B.pe _ _ _ _ _ _ s7 σ6 H7 _ I7 q7) fun yv s8 ⟨y, H8, I8, r8, e8, z8, m', hm, w8⟩ => ?_
        refine thn (mt_append _ s8 σ6 H8 (.ref s2.heap.objs.size) [y] (.ref s2.heap.objs.size) [yv] (fun _ H9 => H9 = upd H8 s2.heap.objs.size (.lst (ys ++ [y]))) I8 rfl (.cons r8 .nil) ⟨_, ys, y, rfl, rfl, e8, z8, rfl⟩) fun _ s9 ⟨_, H9, I9, _, e9⟩ => ?_
        subst e9
        exact again I9 hm w8
  exact codeAny_compStart_list (loop _ rfl) (T.self _ 0 _ _ _ st4 (loop _ rfl))

section
variable {X : Cx} {elt tg iter : Expr} {ifs : List Expr} {scope : Scope} {pos : Pos} {ks : List Bool} {ext : List Str} {wi : TI} {g : TG} {tt : TT} {te : TE}

theorem lc_clos {pins : List (Addr × Obj)} {σ : St} {H : Hp} {s : Shared} (I : Inv X pins σ H s) (S : LcS X.env.scope.names scope.names X.N ks) :
    ∃ cl, closureFor scope X.env = pure cl ∧ (∀ x c, cl.lookup x = some c → X.env.cells.lookup x = some c) ∧ (∀ x, (x, NameKind.free) ∈ scope.names → ∃ c, cl.lookup x = some c) :=
  closure_of fun y hy hf => I.ok.has y.1 (S.fv y hy hf)

/-- [e for x in iter if ..] -/
theorem pe_lc (S : LcS X.env.scope.names scope.names X.N ks) (hc : X.calm = true) (hi : PI X tg iter wi) (B : Blk X scope ext tg ifs elt g tt te) (hkind : scope.kind = .function := by rfl)
    (hs : ∀ x, foldedSetIterable iter X.env x = pure x := by intro _; rfl) : PE X (.ListComp elt [⟨tg, iter, ifs, 0⟩] scope pos) (tLC ks ext.length wi g tt te) := by
  intro pins s σ H Q I h
  obtain ⟨cl, hcl, c1, c2⟩ := lc_clos I S
  rw [eval_ListComp]
  refine wpAny_comprehension_free (use := none) rfl hs hcl hkind S.loc (thn (hi pins s σ H _ I h) fun v s1 h1 => thn h1 fun itv s2 h2 => ?_)
  obtain ⟨it, fp, tn, J, H2, e, I2, T, st2, f2, hW⟩ := h2
  subst e
  refine lc_core (RR := fun acc C => compPost (model X.prog X.w) X.A X.xe none (EP X pins σ Q) acc C) (QD := fun D H' => Q (.ref D) H') S hkind hc B c1 c2 I2 T st2 f2 hW fun D C s4 H' m I4 fC hn q => ?_
  refine ⟨m, hn, fun h' sb => ⟨.ref D, H', ?_, rfl, q⟩⟩
  exact I4.turned (t' := s4.toks) (fun b o hb e => (sb.2 b hb).trans e) fC.1 fC.2.1 fC.2.2.2.1 fC.2.2.2.2.1 fC.2.2.2.2.2

/-- y = [e for x in iter if ..], y a plain local -/
theorem ps_lc {i : Nat} {y : Str} {py spos : Pos} (hN : X.N.Nodup) (hiN : X.N[i]? = some y) (hy : X.env.scope.names.lookup y = some .local) (S : LcS X.env.scope.names scope.names X.N ks) (hc : X.calm = true) (hi : PI X tg iter wi) (B : Blk X scope ext tg ifs elt g tt te) (hkind : scope.kind = .function := by rfl)
    (hsw : swapsWith (.ListComp elt [⟨tg, iter, ifs, 0⟩] scope pos) (some (.Name y py)) spos.line X.env = pure true := by rfl)
    (hs : ∀ x, foldedSetIterable iter X.env x = pure x := by intro _; rfl) : PS X (.Assign [.Name y py] (.ListComp elt [⟨tg, iter, ifs, 0⟩] scope pos) spos) (tAsg (tLC ks ext.length wi g tt te) (gName i)) := by
  intro pins s σ H D I h
  obtain ⟨cl, hcl, c1, c2⟩ := lc_clos I S
  rw [exec_Assign_Name_used _ _ _ _ hsw]
  refine wpAny_bind (wpAny_standAt (wpAny_bind ?_))
  show wpAny _ X.A (do let _ ← comprehension (.ListComp elt [⟨tg, iter, ifs, 0⟩] scope pos) scope X.env _ (newList []) false (eval iter X.env) (some (assign (.Name y py) X.env))) _ _ s
  refine wpAny_bind (wpAny_mono (wpAny_comprehension_free (use := some (assign (.Name y py) X.env)) (Q := fun _ s' => SP X pins D .next s') rfl hs hcl hkind S.loc
    (thn (hi pins s σ H _ I h) fun v s1 h1 => thn h1 fun itv s2 h2 => ?_)) (fun _ s' hq => wpAny_pure (wpAny_pure hq)) fun _ _ e => e)
  obtain ⟨it, fp, tn, J, H2, e, I2, T, st2, f2, hW⟩ := h2
  subst e
  refine lc_core (RR := fun acc C => compPost (model X.prog X.w) X.A X.xe (some (assign (.Name y py) X.env)) (fun _ s' => SP X pins D .next s') acc C) (QD := fun Dl H' => D.nx (σ.set i (some (.ref Dl))) H') S hkind hc B c1 c2 I2 T st2 f2 hW fun Dl C s4 H' m I4 fC hn q => ?_
  show wpAny _ X.A (assign (.Name y py) X.env (.ref Dl)) _ _ _
  refine wpAny_assign_Name (store_ok2 I4 hN hiN (.inl hy) (v := .ref Dl) rfl (fun s5 I5 ⟨a, sb, ha⟩ => ?_) (.inr hy))
  have hCa : C ≠ a := by
    rcases ha with rfl | ha
    · exact fC.2.1
    · exact fun z => fC.2.2.2.2.1 y a ha z.symm
  refine ⟨m, hn.sameBut sb hCa, fun h' sb' => ⟨_, H', ?_, q⟩⟩
  exact I5.turned (t' := s5.toks) (fun b o hb e => (sb'.2 b hb).trans e) fC.1 fC.2.1 fC.2.2.2.1 fC.2.2.2.2.1 fC.2.2.2.2.2
end

/-! ### forms -/
/-- over a list: what passes the test p becomes f, the tracked heap stays -/
theorem lc_list {K : PySem.W.Frag} {a : Addr} {xs : List V} {i : Nat} {tt : TT} {te : TE} {σ : St} {H : Hp} {D : Addr} {Q : Hp → Prop} (p : V → Bool) (f : V → V) (hl : ∀ ys, SqL K (upd H D (.lst ys)) a xs) (hn : xs.length ≤ sizeLine)
    (ht : ∀ (k : Nat) x (v : Option V) (ys : List V) (R : Bool → Hp → Prop), xs[k]? = some x → (∀ H', H' = upd H D (.lst ys) → R (p x) H') → tt ((σ.set i v).set i (some x)) (upd H D (.lst ys)) R)
    (hs : ∀ (k : Nat) x (v : Option V) (ys : List V) (R : VK), xs[k]? = some x → p x = true → (∀ H', H' = upd H D (.lst ys) → R (f x) H') → te ((σ.set i v).set i (some x)) (upd H D (.lst ys)) R)
    (hq : ∀ H', H' = upd H D (.lst ((xs.filter p).map f)) → Q H') :
    ∃ W : Nat → Nat → List V → St → Hp → Prop, (∃ m, W 0 m [] σ (upd H D (.lst []))) ∧ lcTurn (Itl K a) D (gName i) tt te Q W := by
  refine ⟨fun k m ys σ' H' => m = xs.length - k ∧ k ≤ xs.length ∧ ys = ((xs.take k).filter p).map f ∧ (σ' = σ ∨ ∃ v, σ' = σ.set i v) ∧ H' = upd H D (.lst ys), ⟨xs.length, by simp⟩, ?_⟩
  rintro k m ys σ' H' ⟨rfl, hk, rfl, hσ, rfl⟩
  by_cases hlt : k < xs.length
  · refine .inr ⟨⟨xs, xs[k], hl _, by simp [hlt]⟩, fun x H2 hy => ?_⟩
    obtain ⟨rfl, hy⟩ := hy
    have hx := hy xs (hl _)
    have ex : xs[k] = x := by have := hx; simp [hlt] at this; exact this
    show tt (σ'.set i _) _ _
    have hσ' : ∃ v, σ'.set i (some x) = (σ.set i v).set i (some x) := by
      rcases hσ with rfl | ⟨v, rfl⟩
      · exact ⟨none, by rw [List.set_set]⟩
      · exact ⟨v, rfl⟩
    obtain ⟨v, ev⟩ := hσ'
    have hσ2 : ∃ v', σ'.set i (some x) = σ.set i v' := ⟨some x, by rw [ev, List.set_set]⟩
    have etake : xs.take (k + 1) = xs.take k ++ [x] := by rw [List.take_succ, hx]; rfl
    rw [ev]
    refine ht k x v _ _ hx fun H3 e => ?_
    subst e
    cases hp : p x with
    | true =>
      rw [if_pos rfl]
      refine hs k x v _ _ hx hp fun H4 e => ?_
      subst e
      refine ⟨upd_same, ?_, xs.length - (k + 1), by omega, rfl, hlt, ?_, by rw [← ev]; exact .inr hσ2, upd_upd⟩
      · rw [List.length_map]
        have := List.length_filter_le p (xs.take k)
        rw [List.length_take] at this
        omega
      · rw [etake, List.filter_append, List.map_append]; simp [hp]
    | false =>
      rw [if_neg Bool.false_ne_true]
      refine ⟨xs.length - (k + 1), by omega, rfl, hlt, ?_, by rw [← ev]; exact .inr hσ2, rfl⟩
      rw [etake, List.filter_append]; simp [hp]
  · have e : k = xs.length := by omega
    subst e
    refine .inl ⟨⟨xs, hl _, Nat.le_refl _⟩, hq _ (by rw [List.take_length])⟩
end L2

namespace L2
open PySem PySem.Spec PyProof.Rows
end L2

set_option Elab.async false
set_option linter.all false
set_option maxRecDepth 100000
set_option maxHeartbeats 4000000
/-! Rules over the hand layer: sets of ints, all, isinstance, == of lists. Own work. -/
namespace L2
open PySem PySem.Spec PyProof.Rows SI
theorem len_le_of_sub {α : Type} [DecidableEq α] : ∀ {l m : List α}, l.Nodup → (∀ z ∈ l, z ∈ m) → l.length ≤ m.length
  | [], m, _, _ => Nat.zero_le _
  | x :: l, m, hn, h => by
    rw [List.nodup_cons] at hn
    have hx : x ∈ m := h x List.mem_cons_self
    have ih := len_le_of_sub (l := l) (m := m.erase x) hn.2 (fun z hz => by
      have hz' := h z (List.mem_cons_of_mem _ hz)
      have hne : z ≠ x := fun e => hn.1 (e ▸ hz)
      exact (List.mem_erase_of_ne hne).mpr hz')
    rw [List.length_erase_of_mem hx] at ih
    have : 0 < m.length := List.length_pos_of_mem hx
    simp only [List.length_cons]
    omega

section
variable {X : Cx}





/-- a class, as a value -/
def clsV : V → Option Value
  | .ty n => some (.type n)
  | .ref C => some (.ref C)
  | _ => none
theorem clsV_of {c : V} {cv u : Value} (h : clsV c = some cv) (r : RelV c u) : u = cv := by
  cases c with
  | ty n => cases h; exact r
  | ref C => cases h; exact r
  | _ => cases h
/-- isinstance(x, c) -/
theorem call_isI : CallR X (.builtin "isinstance") (fun xs H Q => ∃ (x c : V) (cv t : Value) (b : Bool), xs = [x, c] ∧ clsV c = some cv ∧ TyOf X.K H x t ∧ PySem.W.kitOne X.K t cv = some b ∧ Q (.bl b) H) := by
  intro pins s σ H xs us Q I r h
  obtain ⟨x, c, cv, t, b, rfl, hcv, ty, hk, q⟩ := h
  obtain ⟨u, w', rfl, r1, r2⟩ := vals2 r
  have e := clsV_of hcv r2
  subst e
  exact isinst_ok I r1 ty hk fun tk => ⟨.bl b, H, I.tok tk, rfl, q⟩

end

theorem bt_len : bootBuiltins "len" = some (.builtin "len") := by decide +kernel
theorem bt_list : bootBuiltins "list" = some (.type "list") := by decide +kernel
theorem bt_isinstance : bootBuiltins "isinstance" = some (.builtin "isinstance") := by decide +kernel
theorem bt_bool : bootBuiltins "bool" = some (.type "bool") := by decide +kernel
theorem bt_int : bootBuiltins "int" = some (.type "int") := by decide +kernel
theorem same_upd {H : Hp} {l : Addr} {o : HO} (h : H l = none) : Same H (upd H l o) := fun b u e => by
  rw [upd_ne (ne_of_none e h)]; exact e
end L2

set_option Elab.async false
set_option linter.all false
set_option maxRecDepth 100000
set_option maxHeartbeats 4000000
/-! Rules over the hand layer: != of lists, sum, list(range(..)), bit_length. Own work. -/
namespace L2
open PySem PySem.Spec PyProof.Rows SI
section
variable {X : Cx}
/-- n.bit_length() -/
def rBitLen : V → List V → Hp → VK → Prop := fun x vs H Q => ∃ i, x = .int i ∧ vs = [] ∧ Q (.int (Builtin.Int.intBits i : Nat)) H
theorem mt_bitlen : MtR X "int.bit_length" rBitLen := by
  intro pins s σ H x xs v us Q I rx rs h
  obtain ⟨i, rfl, rfl, q⟩ := h
  obtain ⟨t, rfl⟩ := rx
  cases rs
  exact call_int_bit_length ⟨.int _, H, I.tok _, ⟨_, rfl⟩, q⟩
end
end L2

set_option Elab.async false
set_option linter.all false
set_option maxRecDepth 100000
set_option maxHeartbeats 4000000
/-! Rules over the hand layer: classes' functions, methods by class, pairs walked (enumerate, zip), tuples compared, is. Own work. -/
namespace L2
open PySem PySem.Spec PyProof.Rows SI
/-! ### records of an iterator that is more than one object -/
section
variable {X : Cx} {pins : List (Addr × Obj)} {σ : St} {H : Hp} {s : Shared} {h' : Heap}
end

/-! ### enumerate(a list), walked by a target of two -/
section
variable {X : Cx}
end

/-! ### zip(a list, a list), walked by a target of two -/
section
variable {X : Cx}
end
end L2

set_option Elab.async false
set_option linter.all false
set_option maxRecDepth 100000
set_option maxHeartbeats 4000000
/-! Rules over the hand layer: a class's function by the class, a method by the instance's class, max with a default, tuples compared, is, defs with defaults, comprehensions that make things. Own work. -/
namespace L2
open PySem PySem.Spec PyProof.Rows SI
/-! ### C.m(..) -/
section
variable {X : Cx} {CX : CXT} {k : Nat} {f C : Addr} {fd : FuncData} {ps : List Str} {sp : Sp} {dvs : List V} {ds : List Value} {E : XK} {x m : Str} {p pos apos : Pos} {e o : Expr} {es : List Expr} {ta : TE} {t : TA}

/-! ### o.m(..), by the class of o -/
end

/-! ### a def with defaults -/
structure FunD (K : PySem.W.Frag) (x qual : Str) (st : Stmt) (f : Addr) (fd : FuncData) (T : Addr) : Prop where
  ex : ∃ (oc : Value) (od : Option Addr) (kV doc pm : Value) (an : Option Addr) (cdv ct : Value) (osl : Array (Option Value)),
    fd = PySem.W.fnOf x qual (defArgs st) (defBody st) (defScope st) (.ref T) kV doc pm an cdv ct ∧ K.lookup f = some ⟨oc, od, .func fd, osl⟩ ∧ PySem.W.codeIn K cdv qual = true
  kp : PySem.W.keepIn K (.ref f) = true
section
variable {P : Program} {w : World} {K : PySem.W.Frag} {mg : Str → Option Value} {base : Heap}
theorem FunD.ok {x qual : Str} {st : Stmt} {f T : Addr} {fd : FuncData} {N ps : List Str} {k : Nat} {sp : Sp} (F : FunD K x qual st f fd T) (S : FnScope N ps (defScope st)) (len : ∀ vs H Q E, sp vs H Q E → vs.length = ps.length)
    (hbody : ∀ (cdv : Value) (A : Around) (outer : List Env) (s : Shared) (H : Hp) (vs : List V) (Q : VK) (E : XK), Room k (A.deeper (envOfC qual (defScope st) s.heap.objs.size f cdv)) → sp vs H Q E →
      ∃ t, PSs (cxOf CX0 P w K mg base N qual (defScope st) f cdv A outer s H E).nox (defBody st) t ∧ t { nx := fun _ H' => Q .non H', rt := Q } (start N vs) H) : FnOk P w K mg base CX0 (k + 1) f fd ps sp := by
  obtain ⟨oc, od, kV, doc, pm, an, cdv, ct, osl, rfl, lk, hcd⟩ := F.ex
  refine fn_of lk hcd S len fun A outer s H vs Q E hr hsp => ?_
  obtain ⟨t, h, q⟩ := hbody cdv A outer s H vs Q E hr hsp
  exact ⟨t, h.nox, q⟩
theorem fund_mk {x qual : Str} {st : Stmt} {f T : Addr} {oc : Value} {od an : Option Addr} {osl : Array (Option Value)} {kV doc pm cdv ct : Value} (l : K.lookup f = some ⟨oc, od, .func (PySem.W.fnOf x qual (defArgs st) (defBody st) (defScope st) (.ref T) kV doc pm an cdv ct), osl⟩)
    (c : PySem.W.codeIn K cdv qual = true) (k : PySem.W.keepIn K (.ref f) = true) : FunD K x qual st f (PySem.W.fnOf x qual (defArgs st) (defBody st) (defScope st) (.ref T) kV doc pm an cdv ct) T := ⟨⟨oc, od, kV, doc, pm, an, cdv, ct, osl, rfl, l, c⟩, k⟩
end

/-! ### max(a list of ints, default = d) -/
section
variable {prog : Program} {w : World} {A : Around} {R : Result → Shared → Prop}
end
end L2

set_option Elab.async false
set_option linter.all false
set_option maxRecDepth 100000
set_option maxHeartbeats 4000000
/-! Rules over the hand layer: max with a default, tuples compared, is, comprehensions that make things. Own work. -/
namespace L2
open PySem PySem.Spec PyProof.Rows SI
section
variable {X : Cx}
/-! ### tuples compared -/
/-! ### is, of bools -/
end
/-! ### comprehensions over a list, of which each element may make things -/
end L2

set_option Elab.async false
set_option linter.all false
set_option maxRecDepth 100000
set_option maxHeartbeats 4000000
/-! Rules over the hand layer: lists of different length compared, whatever they hold. Own work. -/
namespace L2
open PySem PySem.Spec PyProof.Rows SI
section
variable {X : Cx}
end
end L2

set_option Elab.async false
set_option linter.all false
set_option maxRecDepth 100000
set_option maxHeartbeats 4000000
/-! Comprehensions over enumerate, zip, range, whatever their elements do. Own work. -/
namespace L2
open PySem PySem.Spec PyProof.Rows
theorem lc_gen {J : It} {n : Nat} {g : TG} {tt : TT} {te : TE} {σ : St} {H : Hp} {D : Addr} {Q : Hp → Prop} (P : Nat → List V → St → Hp → Prop) (h0 : P 0 [] σ (upd H D (.lst [])))
    (hs : ∀ k ys σ' H', k < n → P k ys σ' H' → J.go k H' ∧ ∀ x H1, J.yld k H' x H1 → g x σ' H1 (fun σ2 H2 => tt σ2 H2 fun b H3 =>
      if b = true then te σ2 H3 fun y H4 => H4 D = some (.lst ys) ∧ ys.length < sizeLine ∧ ∃ m', m' < n - k ∧ m' = n - (k + 1) ∧ k + 1 ≤ n ∧ P (k + 1) (ys ++ [y]) σ2 (upd H4 D (.lst (ys ++ [y]))) else ∃ m', m' < n - k ∧ m' = n - (k + 1) ∧ k + 1 ≤ n ∧ P (k + 1) ys σ2 H3))
    (hd : ∀ ys σ' H', P n ys σ' H' → J.stop n H' ∧ Q H') :
    ∃ W : Nat → Nat → List V → St → Hp → Prop, (∃ m, W 0 m [] σ (upd H D (.lst []))) ∧ lcTurn J D g tt te Q W := by
  refine ⟨fun k m ys σ' H' => m = n - k ∧ k ≤ n ∧ P k ys σ' H', ⟨n, by simp, Nat.zero_le _, h0⟩, ?_⟩
  rintro k m ys σ' H' ⟨rfl, hk, hP⟩
  by_cases hlt : k < n
  · exact .inr (hs k ys σ' H' hlt hP)
  · have e : k = n := by omega
    subst e
    exact .inl (hd ys σ' H' hP)
/-- what stands behind a turn -/
def Beh (n k : Nat) (P : Nat → List V → St → Hp → Prop) (ys : List V) (σ : St) (H : Hp) : Prop := ∃ m', m' < n - k ∧ m' = n - (k + 1) ∧ k + 1 ≤ n ∧ P (k + 1) ys σ H
theorem Beh.of {n k : Nat} {P : Nat → List V → St → Hp → Prop} {ys : List V} {σ : St} {H : Hp} (hk : k < n) (h : P (k + 1) ys σ H) : Beh n k P ys σ H := ⟨n - (k + 1), by omega, rfl, hk, h⟩
theorem lc_rng {lo : Int} {n : Nat} {g : TG} {tt : TT} {te : TE} {σ : St} {H : Hp} {D : Addr} {Q : Hp → Prop} (P : Nat → List V → St → Hp → Prop) (h0 : P 0 [] σ (upd H D (.lst [])))
    (hs : ∀ k ys σ' H', k < n → P k ys σ' H' → g (.int (lo + k)) σ' H' (fun σ2 H2 => tt σ2 H2 fun b H3 =>
      if b = true then te σ2 H3 fun y H4 => H4 D = some (.lst ys) ∧ ys.length < sizeLine ∧ Beh n k P (ys ++ [y]) σ2 (upd H4 D (.lst (ys ++ [y]))) else Beh n k P ys σ2 H3))
    (hd : ∀ ys σ' H', P n ys σ' H' → Q H') :
    ∃ W : Nat → Nat → List V → St → Hp → Prop, (∃ m, W 0 m [] σ (upd H D (.lst []))) ∧ lcTurn (Itr lo n) D g tt te Q W := by
  refine lc_gen (n := n) P h0 (fun k ys σ' H' hk hP => ⟨hk, fun x H1 y => ?_⟩) (fun ys σ' H' hP => ⟨Nat.le_refl _, hd ys σ' H' hP⟩)
  obtain ⟨rfl, rfl⟩ := y
  exact hs k ys σ' _ hk hP
end L2

set_option Elab.async false
set_option linter.all false
set_option maxRecDepth 100000
set_option maxHeartbeats 4000000
/-! A list times a bool; the items of a cut. Own work. -/
namespace L2
open PySem PySem.Spec PyProof.Rows
section
variable {X : Cx}
end
/-! ### cuts of a list -/
end L2

set_option linter.all false
/-! Signs of texts as lists of numbers: parts at one sign, words between blanks, padding. Own work. -/
namespace TX
end TX

set_option Elab.async false
set_option linter.all false
set_option maxRecDepth 100000
set_option maxHeartbeats 4000000
/-! Texts over the hand layer: their mathematics as lists of numbers; split, replace, startswith, walks over the signs, cuts, repeats. Own work. -/
namespace L2
open PySem PySem.Spec PyProof.Rows Builtin Builtin.Str
/-! ### texts as lists of numbers -/
def cpl (x : Str) : List Nat := x.cps.toList
def ofL (l : List Nat) : Str := ⟨l.toArray⟩
theorem cpl_ofL (l : List Nat) : cpl (ofL l) = l := by simp [cpl, ofL]
theorem ofL_cpl (x : Str) : ofL (cpl x) = x := by cases x; simp [cpl, ofL]
theorem cpl_len (x : Str) : (cpl x).length = x.length := by simp [cpl, Str.length]
theorem cpl_cat (x y : Str) : cpl (x ++ y) = cpl x ++ cpl y := by
  show (x ++ y).cps.toList = _
  rw [Str.cps_append, Array.toList_append]; rfl
/-! ### rules -/
section
variable {X : Cx}
/-- x[lo:hi] of a text -/
def rSlS : V → Option Int → Option Int → Hp → VK → Prop := fun x lo hi H Q => ∃ z, x = .str z ∧ z.length ≤ sizeLine ∧ Q (.str (Txt.slice z lo hi)) H
theorem sl_str : SlR X rSlS := by
  intro pins s σ H x v vl vu lo hi sl Q I rx hs pl pu h
  obtain ⟨z, rfl, hz, q⟩ := h
  obtain ⟨t, rfl⟩ := rx
  refine ⟨"str", _, F.slot_str_getitem.lookup, typeIs_str _ _ _, ?_⟩
  have fin : (Txt.slice z lo hi).length ≤ sizeLine ∧ ∀ t' k, EP X pins σ Q (.str (Txt.slice z lo hi) t') { s with toks := k } :=
    ⟨Nat.le_trans (Txt.slice_le z _ _) hz, fun t' k => ⟨.str _, H, I.tok _, ⟨t', rfl⟩, q⟩⟩
  cases pl with
  | none => cases pu with
    | none => exact wpAny_getItem_str_slice (l := none) (u := none) (st := none) hs rfl (post_val_or_str fin)
    | int j tj => exact wpAny_getItem_str_slice (l := none) (u := some (j, tj)) (st := none) hs rfl (post_val_or_str fin)
  | int i ti => cases pu with
    | none => exact wpAny_getItem_str_slice (l := some (i, ti)) (u := none) (st := none) hs rfl (post_val_or_str fin)
    | int j tj => exact wpAny_getItem_str_slice (l := some (i, ti)) (u := some (j, tj)) (st := none) hs rfl (post_val_or_str fin)
end
end L2

set_option Elab.async false
set_option linter.all false
set_option maxRecDepth 100000
set_option maxHeartbeats 4000000
/-! Texts over the hand layer: walks over the signs, repeats, replace behind a def's entry. Own work. -/
namespace L2
open PySem PySem.Spec PyProof.Rows Builtin Builtin.Str
section
variable {X : Cx} {tg : Expr}
/-- a text repeated -/
def rRepS : R2 := fun x y H Q => ∃ a k, x = .str a ∧ y = .int k ∧ 0 ≤ k ∧ k ≤ 1000000 ∧ a.length * k.toNat ≤ sizeLine ∧ a.length ≤ 1000000 ∧ Q (.str (ofL (List.replicate k.toNat (cpl a)).flatten)) H
theorem foldl_app (n : Nat) (a : Array Nat) : ∀ b : Array Nat, (List.foldl (· ++ ·) b (List.replicate n a)).toList = b.toList ++ (List.replicate n a.toList).flatten := by
  induction n with
  | zero => intro b; simp
  | succ n ih => intro b; rw [List.replicate_succ, List.foldl_cons, ih, Array.toList_append, List.replicate_succ, List.flatten_cons, List.append_assoc]
theorem op_repS : OpR X (binaryOp .Mult) rRepS := by
  intro pins s σ H x y v u Q I rx ry h
  obtain ⟨a, k, rfl, rfl, h0, h1, hz, hl, q⟩ := h
  obtain ⟨t, rfl⟩ := rx
  obtain ⟨t', rfl⟩ := ry
  have hfin : ∀ z : Str, cpl z = (List.replicate k.toNat (cpl a)).flatten → Q (.str z) H := fun z e => by
    rw [show z = ofL (List.replicate k.toNat (cpl a)).flatten from by rw [← e, ofL_cpl]]; exact q
  refine PySem.P.mul_str ?_ ?_ ?_ ?_
  · rw [decide_eq_false (by omega), decide_eq_false (by omega)]; rfl
  · intro g1 g2
    have hk : 1 ≤ k := by omega
    have : (1000000 : Int) ≤ (2 ^ 63 - 1) / k := (Int.le_ediv_iff_mul_le (by omega)).mpr (by omega)
    omega
  · intro g1 g2
    unfold tooLong
    exact decide_eq_false (by omega)
  · by_cases g1 : k < 1
    · rw [if_pos g1]
      have e : k = 0 := by omega
      subst e
      exact ⟨by decide, ⟨.str _, H, I.tok _, ⟨_, rfl⟩, hfin _ (by simp [cpl, Str.empty])⟩⟩
    · rw [if_neg g1]
      by_cases g2 : (k == 1 || a.length == 0) = true
      · rw [if_pos g2]
        refine ⟨.str a, H, I, ⟨t, rfl⟩, hfin a ?_⟩
        rcases Bool.or_eq_true .. ▸ g2 with g2 | g2
        · have e : k = 1 := by simpa using g2
          subst e
          simp
        · have e : cpl a = [] := List.length_eq_zero_iff.mp (by rw [cpl_len]; simpa using g2)
          rw [e]; simp
      · rw [if_neg g2]
        refine ⟨?_, ⟨.str _, H, I.tok _, ⟨_, rfl⟩, hfin _ ?_⟩⟩
        · show ((List.replicate k.toNat a.cps).foldl (· ++ ·) #[]).size ≤ sizeLine
          rw [← Array.length_toList, foldl_app]
          simp
          rw [Nat.mul_comm]; exact hz
        · show ((List.replicate k.toNat a.cps).foldl (· ++ ·) #[]).toList = _
          rw [foldl_app]; simp [cpl]
end
end L2

set_option Elab.async false
set_option linter.all false
set_option maxRecDepth 100000
set_option maxHeartbeats 4000000
/-! Behind a def's entry at least one token has been counted: str.replace with written texts. Own work. -/
namespace L2
open PySem PySem.Spec PyProof.Rows Builtin Builtin.Str
section
variable {X : Cx}
end
/-! ### the entry -/
section
variable {M : Model} {A : Around} {E : Value → Shared → Prop} {s₀ : Shared} {env : Env}
end
end L2

set_option Elab.async false
set_option linter.all false
set_option maxRecDepth 100000
set_option maxHeartbeats 4000000
/-! Texts over the hand layer: join. Own work. -/
namespace L2
open PySem PySem.Spec PyProof.Rows Builtin Builtin.Str
theorem strs_of_vals : ∀ {xs : List Str} {its : List Value}, Vals (xs.map V.str) its → ∃ l : List (Str × Tok), its = strValues l ∧ l.map (·.1) = xs
  | [], _, .nil => ⟨[], rfl, rfl⟩
  | x :: r, _, .cons ⟨t, e⟩ rr => by
    obtain ⟨l, e1, e2⟩ := strs_of_vals rr
    exact ⟨(x, t) :: l, by rw [e, e1]; rfl, by rw [List.map_cons, e2]⟩
section
variable {X : Cx}
def rJoin (K : PySem.W.Frag) : V → List V → Hp → VK → Prop := fun x vs H Q => ∃ a D xs, x = .str a ∧ vs = [.ref D] ∧ SqL K H D (xs.map V.str) ∧ JoinOk a xs = true ∧ Q (.str (Str.join a xs)) H
theorem mt_join : MtR X "str.join" (rJoin X.K) := by
  intro pins s σ H x xs v us Q I rx rs h
  obtain ⟨a, D, ts, rfl, rfl, hq, hok, q⟩ := h
  obtain ⟨t, rfl⟩ := rx
  obtain ⟨u, rfl, ru⟩ := vals1 rs
  cases ru
  obtain ⟨its, rv, pl, hz⟩ := I.list hq
  obtain ⟨l, rfl, hl⟩ := strs_of_vals rv
  refine SC.join pl.isList hl hok fun t' k => ⟨.str _, H, I.tok _, ⟨t', rfl⟩, ?_⟩
  show Q (.str (glued a ts)) H
  rw [StrLaws.glued_eq_join]
  exact q
end
theorem joinOk_of {a : Str} {xs : List Str} {B : Nat} (hB : ∀ y ∈ xs, y.length ≤ B) (h : xs.length * B + xs.length * a.length ≤ 16777216) : JoinOk a xs = true := by
  unfold JoinOk
  rw [StrLaws.joinFits hB h]; rfl
end L2
namespace TX
end TX
namespace L2
open PySem
end L2

set_option Elab.async false
set_option linter.all false
set_option maxRecDepth 100000
namespace L2
open PySem PySem.Spec PyProof.Rows

/-! ### lists of pairs as tables -/
section
variable {κ : Type} [DecidableEq κ]
def valV (kvs : List (κ × V)) (k : κ) : Option V := (kvs.find? fun kv => decide (kv.1 = k)).map (·.2)
/-- in its place, or at the end -/
def putK (kvs : List (κ × V)) (k : κ) (v : V) : List (κ × V) :=
  if (kvs.any fun kv => decide (kv.1 = k)) = true then kvs.map (fun kv => if kv.1 = k then (kv.1, v) else kv) else kvs ++ [(k, v)]

theorem valV_pos {p : κ × V} {r : List (κ × V)} {k : κ} (e : p.1 = k) : valV (p :: r) k = some p.2 := by simp [valV, List.find?_cons, e]
theorem valV_neg {p : κ × V} {r : List (κ × V)} {k : κ} (e : ¬ p.1 = k) : valV (p :: r) k = valV r k := by simp [valV, List.find?_cons, e]
theorem valV_any (k : κ) : ∀ kvs : List (κ × V), (kvs.any fun kv => decide (kv.1 = k)) = (valV kvs k).isSome
  | [] => rfl
  | p :: r => by
    rw [List.any_cons]
    by_cases e : p.1 = k
    · simp only [valV_pos e, decide_eq_true e, Bool.true_or, Option.isSome_some]
    · rw [valV_neg e, decide_eq_false e, Bool.false_or]; exact valV_any k r
theorem valV_map (k j : κ) (y : V) : ∀ kvs : List (κ × V), valV (kvs.map fun kv => if kv.1 = k then (kv.1, y) else kv) j = (valV kvs j).map fun x => if j = k then y else x
  | [] => rfl
  | p :: r => by
    have ih := valV_map k j y r
    rw [List.map_cons]
    by_cases h : p.1 = k
    · rw [if_pos h]
      by_cases e : p.1 = j
      · rw [valV_pos (p := (p.1, y)) e, valV_pos e, Option.map_some, if_pos (e.symm.trans h)]
      · rw [valV_neg (p := (p.1, y)) e, valV_neg e, ih]
    · rw [if_neg h]
      by_cases e : p.1 = j
      · rw [valV_pos (p := p) e, valV_pos e, Option.map_some, if_neg (fun z => h (e.trans z))]
      · rw [valV_neg (p := p) e, valV_neg e, ih]
theorem valV_snoc (k j : κ) (y : V) : ∀ kvs : List (κ × V), valV kvs k = none → valV (kvs ++ [(k, y)]) j = if j = k then some y else valV kvs j
  | [], _ => by
    by_cases e : k = j
    · rw [if_pos e.symm]; exact valV_pos (p := (k, y)) e
    · rw [if_neg (fun z => e z.symm)]; exact valV_neg (p := (k, y)) e
  | p :: r, hn => by
    rw [List.cons_append]
    have hk : ¬ p.1 = k := fun z => by rw [valV_pos z] at hn; cases hn
    rw [valV_neg hk] at hn
    have ih := valV_snoc k j y r hn
    by_cases e : p.1 = j
    · rw [valV_pos e, valV_pos e, if_neg (fun z => hk (e.trans z))]
    · rw [valV_neg e, valV_neg e, ih]
theorem valV_put (kvs : List (κ × V)) (k j : κ) (y : V) : valV (putK kvs k y) j = if j = k then some y else valV kvs j := by
  unfold putK
  by_cases a : (kvs.any fun kv => decide (kv.1 = k)) = true
  · rw [if_pos a, valV_map]
    rw [valV_any] at a
    by_cases e : j = k
    · obtain ⟨x, hx⟩ := Option.isSome_iff_exists.mp a
      rw [if_pos e, e, hx, Option.map_some, if_pos rfl]
    · rw [if_neg e]
      cases valV kvs j with
      | none => rfl
      | some x => rw [Option.map_some, if_neg e]
  · rw [if_neg a]
    refine valV_snoc k j y kvs ?_
    rw [valV_any] at a
    cases q : valV kvs k with
    | none => rfl
    | some x => rw [q] at a; exact (a rfl).elim
theorem length_putK (kvs : List (κ × V)) (k : κ) (v : V) : (putK kvs k v).length ≤ kvs.length + 1 := by
  unfold putK
  split
  · rw [List.length_map]; omega
  · rw [List.length_append, List.length_cons, List.length_nil]; omega

theorem RelO.isSome_eq {o : Option V} {u : Option Value} (r : RelO o u) : o.isSome = u.isSome := by
  cases o with
  | none => cases u with
    | none => rfl
    | some _ => exact (show False from r).elim
  | some _ => cases u with
    | none => exact (show False from r).elim
    | some _ => rfl
theorem RelO.getD {o : Option V} {u : Option Value} {d : V} {d' : Value} (r : RelO o u) (rd : RelV d d') : RelV (o.getD d) (u.getD d') := by
  cases o with
  | none => cases u with
    | none => exact rd
    | some _ => exact (show False from r).elim
  | some _ => cases u with
    | none => exact (show False from r).elim
    | some _ => exact r

/-- raw tables of the same keys -/
theorem KV.val {kvs : List (κ × V)} {vs : List (κ × Value)} (r : KV kvs vs) (k : κ) : RelO (valV kvs k) (valueAt vs k) := by
  unfold KV at r
  induction r with
  | nil => exact True.intro
  | @cons p q ps qs h t ih =>
    obtain ⟨h1, h2⟩ := h
    by_cases e : p.1 = k
    · have e' : q.1 = k := h1.symm.trans e
      have b : valueAt (q :: qs) k = some q.2 := by simp [valueAt, List.find?_cons, e']
      rw [valV_pos e, b]; exact h2
    · have e' : ¬ q.1 = k := fun z => e (h1.trans z)
      have b : valueAt (q :: qs) k = valueAt qs k := by simp [valueAt, List.find?_cons, e']
      rw [valV_neg e, b]; exact ih
theorem KV.any {kvs : List (κ × V)} {vs : List (κ × Value)} (r : KV kvs vs) (k : κ) : (kvs.any fun kv => decide (kv.1 = k)) = vs.any fun kv => decide (kv.1 = k) := by
  unfold KV at r
  induction r with
  | nil => rfl
  | cons h t ih => rw [List.any_cons, List.any_cons, ih, h.1]
theorem KV.repl {kvs : List (κ × V)} {vs : List (κ × Value)} (r : KV kvs vs) (k : κ) {y : V} {u : Value} (ry : RelV y u) :
    KV (kvs.map fun kv => if kv.1 = k then (kv.1, y) else kv) (vs.map fun kv => if kv.1 = k then (kv.1, u) else kv) := by
  unfold KV at r ⊢
  induction r with
  | nil => exact .nil
  | @cons p q ps qs h t ih =>
    rw [List.map_cons, List.map_cons]
    refine .cons ?_ ih
    obtain ⟨h1, h2⟩ := h
    by_cases e : p.1 = k
    · rw [if_pos e, if_pos (h1.symm.trans e)]; exact ⟨h1, ry⟩
    · rw [if_neg e, if_neg (fun z => e (h1.trans z))]; exact ⟨h1, h2⟩
theorem KV.put {kvs : List (κ × V)} {vs : List (κ × Value)} (r : KV kvs vs) (k : κ) {y : V} {u : Value} (ry : RelV y u) : KV (putK kvs k y) (stored vs k u) := by
  unfold putK stored
  rw [r.any k]
  by_cases e : (vs.any fun kv => decide (kv.1 = k)) = true
  · rw [if_pos e, if_pos e]; exact r.repl k ry
  · rw [if_neg e, if_neg e]; exact Paired.snoc r ⟨rfl, ry⟩
theorem KV.length {kvs : List (κ × V)} {vs : List (κ × Value)} (r : KV kvs vs) : kvs.length = vs.length := Paired.length r
end


/-! ### a tracked dict, its keys ints and texts or tuples of these -/
theorem kV_is {P : Program} {w : World} {k : Key} {u : Value} (r : RelV (kV k) u) : (mixKind P w).is k u = true := by
  rcases k with (_ | i) | x
  · cases (show u = Value.none from r); exact mixKind_none P w
  · obtain ⟨t, e⟩ := (show ∃ t, u = Value.int i t from r); subst e; exact mixKind_int P w i t
  · obtain ⟨t, e⟩ := (show ∃ t, u = Value.str x t from r); subst e; exact mixKind_str P w x t
theorem items_are {P : Program} {w : World} : ∀ {ks : List Key} {us : List Value}, Vals (ks.map kV) us → ItemsAre (mixKind P w) ks us
  | [], _, r => by rw [List.map_nil] at r; cases r; exact .nil
  | k :: ks, _, r => by
    rw [List.map_cons] at r
    cases r with
    | cons h t => exact .cons (kV_is h) (items_are t)

/-- raw entries of a dict with tuple keys -/
abbrev KT (H : Hp) : List (List Key × V) → List (List Key × Addr × Value) → Prop := Paired fun p q => p.1 = q.1 ∧ H q.2.1 = some (.tup (p.1.map kV)) ∧ RelV p.2 q.2.2
theorem KT.val {H : Hp} {kvs : List (List Key × V)} {xs : List (List Key × Addr × Value)} (r : KT H kvs xs) (k : List Key) : RelO (valV kvs k) ((atKey xs k).map (·.2)) := by
  induction r with
  | nil => exact True.intro
  | @cons p q ps qs h t ih =>
    obtain ⟨h1, _, h2⟩ := h
    by_cases e : p.1 = k
    · have e' : q.1 = k := h1.symm.trans e
      have b : atKey (q :: qs) k = some q.2 := by simp [atKey, List.find?_cons, e']
      rw [valV_pos e, b]; exact h2
    · have e' : ¬ q.1 = k := fun z => e (h1.trans z)
      have b : atKey (q :: qs) k = atKey qs k := by simp [atKey, List.find?_cons, e']
      rw [valV_neg e, b]; exact ih

section
variable {P : Program} {w : World} {H : Hp} {h : Heap} {a : Addr}
theorem rd_of {u : HO} (ok : HOk P w H h) (e : Rd H a u) : ObjOk P w H h a u := e.ok ok
theorem dk_rd {kvs : List (Key × V)} (ok : HOk P w H h) (e : Rd H a (.dK kvs)) : kvs.length ≤ sizeLine ∧ (a == sysModules) = false ∧ ∃ vs, KV kvs vs ∧ h.DictOf (mixKind P w) a vs :=
  show ObjOk P w H h a (.dK kvs) from rd_of ok e
theorem dk_of {kvs : List (Key × V)} (ok : HOk P w H h) (e : H a = some (.dK kvs)) : kvs.length ≤ sizeLine ∧ (a == sysModules) = false ∧ ∃ vs, KV kvs vs ∧ h.DictOf (mixKind P w) a vs := dk_rd ok (.inl e)
/-- a tracked tuple of ints and texts is a key -/
theorem key_of {ks : List Key} (ok : HOk P w H h) (e : H a = some (.tup (ks.map kV))) : (tupleKind (mixKind P w)).is h ks a := by
  obtain ⟨_, its, r, o, h1, h2, n, h3⟩ := (show ObjOk P w H h a (.tup (ks.map kV)) from ok a _ e)
  exact ⟨o, its.toArray, n, h1, h2, h3, by simpa using items_are r⟩
theorem dt_rd {kvs : List (List Key × V)} (ok : HOk P w H h) (e : Rd H a (.dT kvs)) : kvs.length ≤ sizeLine ∧ (a == sysModules) = false ∧
    ∃ xs, KT H kvs xs ∧ h.DictOfH (tupleKind (mixKind P w)) a xs := by
  obtain ⟨z, y, xs, r, o, es, ep, h1, h2, h3, h4, h5⟩ := (show ObjOk P w H h a (.dT kvs) from rd_of ok e)
  refine ⟨z, y, xs, r, o, es, ep, h1, h2, h3, h4, fun x hx => ?_, h5⟩
  have all : ∀ {l : List (List Key × V)} {m : List (List Key × Addr × Value)}, KT H l m → ∀ x ∈ m, (tupleKind (mixKind P w)).is h x.1 x.2.1 := by
    intro l m q
    induction q with
    | nil => intro x hx; exact nomatch hx
    | @cons p q ps qs hq t ih =>
      intro x hx
      rcases List.mem_cons.mp hx with e | hx
      · subst e
        exact key_of ok (by rw [← hq.1]; exact hq.2.1)
      · exact ih x hx
  exact all r x hx
end

/-- what the dict at a holds at the key y -/
def DGet (H : Hp) (a : Addr) (y : V) (r : Option V) : Prop :=
  (∃ kvs k, Rd H a (.dK kvs) ∧ y = kV k ∧ r = valV kvs k) ∨ ∃ kvs k b, Rd H a (.dT kvs) ∧ y = .ref b ∧ H b = some (.tup (k.map kV)) ∧ r = valV kvs k
theorem DGet.k {H : Hp} {a : Addr} {kvs : List (Key × V)} {k : Key} (e : H a = some (.dK kvs)) : DGet H a (kV k) (valV kvs k) := .inl ⟨kvs, k, .inl e, rfl, rfl⟩


section
variable {X : Cx} {pins : List (Addr × Obj)} {σ : St} {H : Hp} {s : Shared} {a : Addr} {y v : V} {u r : Value} {o : Option V} {A : Around} {E : Value → Shared → Prop}

theorem Inv.big (I : Inv X pins σ H s) : sysModules < s.heap.objs.size := by
  have h : mainGlobals < s.heap.objs.size := (I.mod.glob.keeps I.bk).lt
  exact Nat.lt_trans (by decide) h

/-- d[y], there -/
theorem d_getItem {Q : Value → Shared → Prop} (hu : A.units + 1 < cLine) (I : Inv X pins σ H s) (g : DGet H a y (some v)) (ry : RelV y u) (h : ∀ w' s', Inv X pins σ H s' → RelV v w' → Q w' s') :
    wpAny (model X.prog X.w) A (getItem (.ref a) u) Q E s := by
  rcases g with ⟨kvs, k, e, ey, l⟩ | ⟨kvs, k, b, e, ey, eb, l⟩
  · subst ey
    obtain ⟨z, hd, vs, rel, dd⟩ := dk_rd I.hok e
    obtain ⟨w', hw, rw'⟩ := RelO.some_of (v := v) (o := valueAt vs k) (by rw [l]; exact rel.val k)
    exact wpAny_getItem_of (kV_is ry) dd.mapOf hw (h w' _ (I.tok _) rw')
  · subst ey
    cases (show u = Value.ref b from ry)
    obtain ⟨z, hd, xs, rel, dd⟩ := dt_rd I.hok e
    obtain ⟨w', hw, rw'⟩ := RelO.some_of (v := v) (o := (atKey xs k).map (·.2)) (by rw [l]; exact rel.val k)
    obtain ⟨p, hp, hp2⟩ := Option.map_eq_some_iff.mp hw
    refine wpAny_getItem_heap (tupleKind_room_in1 hu) (key_of I.hok eb) dd hp ?_
    rw [hp2]
    exact h w' _ (I.tok _) rw'
theorem d_notIn {Q : Value → Shared → Prop} (hu : A.units + 1 < cLine) (I : Inv X pins σ H s) (g : DGet H a y o) (ry : RelV y u) (h : ∀ s', Inv X pins σ H s' → Q (.bool (!o.isSome)) s') :
    wpAny (model X.prog X.w) A (compareOp .NotIn u (.ref a)) Q E s := by
  rcases g with ⟨kvs, k, e, ey, l⟩ | ⟨kvs, k, b, e, ey, eb, l⟩
  · subst ey
    obtain ⟨z, hd, vs, rel, dd⟩ := dk_rd I.hok e
    refine wpAny_notIn_of (kV_is ry) hd dd.mapOf ?_
    rw [← (rel.val k).isSome_eq, ← l]
    exact h _ (I.tok _)
  · subst ey
    cases (show u = Value.ref b from ry)
    obtain ⟨z, hd, xs, rel, dd⟩ := dt_rd I.hok e
    refine wpAny_notIn_heap (tupleKind_room_in1 hu) (key_of I.hok eb) hd dd ?_
    have q := (rel.val k).isSome_eq
    rw [Option.isSome_map] at q
    rw [← q, ← l]
    exact h _ (I.tok _)
/-- a dict's object is replaced -/
theorem d_write {h' : Heap} {t' : Nat} {ob : HO} (I : Inv X pins σ H s) (mu : Mut (H a)) (hs : Heap.SameBut a s.heap h') (he : ∃ q, h'.get? a = some q) (new : ObjOk X.prog X.w (upd H a ob) h' a ob) :
    Inv X pins σ (upd H a ob) { s with heap := h', toks := t' } :=
  I.write (x := a) (e := a) mu (.inl rfl) (fun b q hb z => (hs.2 b hb).trans z) he new
theorem dk_new {P : Program} {w : World} {H' : Hp} {h' : Heap} {kvs : List (Key × V)} {vs : List (Key × Value)} (z : kvs.length ≤ sizeLine) (hd : (a == sysModules) = false) (rel : KV kvs vs) (dd : h'.DictOf (mixKind P w) a vs) :
    ObjOk P w H' h' a (.dK kvs) := ⟨z, hd, vs, rel, dd⟩
end

section
variable {X : Cx} {pins : List (Addr × Obj)} {σ : St} {H : Hp} {s : Shared} {a : Addr} {kvs : List (Key × V)} {k : Key} {u : Value} {A : Around} {E : Value → Shared → Prop}
end


/-! ### readings and rules -/
/-- the element of a subscription, not a slice -/
def NoSl (i : Expr) : Prop := ∀ ov iv, subscripted i false ov iv = operate [ov, iv] (getItem ov iv)
theorem subD_of {prog : Program} {w : World} {A : Around} {E : Value → Shared → Prop} {s : Shared} {env : Env} {value slice : Expr} {pos : Pos} {T id : String} {Q : Value → Shared → Prop}
    (hl : typeLookup (.type T) "__getitem__" = pure (some (.builtin id))) (hs : NoSl slice)
    (h : wpAny (model prog w) A (eval value env) (fun o s₁ => wpAny (model prog w) A (eval slice env) (fun i s₂ => s₂.TypeIs o T ∧ wpAny (model prog w) A (getItem o i) Q E s₂) E s₁) E s) :
    wpAny (model prog w) A (eval (.Subscript value slice pos) env) Q E s := by
  refine Subscript_ (wpAny_mono h (fun o s₁ h₁ => wpAny_mono h₁ (fun i s₂ h₂ => ?_) fun _ _ x => x) fun _ _ x => x)
  obtain ⟨hT, h₂⟩ := h₂
  unfold subscriptTail
  refine wpAny_bind ?_
  rw [getitemInPython_of_ne hT.not_modules]
  refine wpAny_bind (wpAny_specialOf hT hl ?_)
  have fin : wpAny (model prog w) A (subscripted slice false o i) (fun r s₃ => wpAny (model prog w) A (letTemporaryGo value o r >>= fun _ => pure r) Q E s₃) E s₂ := by
    rw [hs o i]
    exact wpAny_operating (wpAny_mono h₂ (fun r s₃ h₃ => wpAny_bind (wpAny_letTemporaryGo (wpAny_pure h₃))) fun _ _ x => x)
  first
    | exact wpAny_pure (wpAny_bind fin)
    | exact wpAny_bind (wpAny_pure (wpAny_bind fin))
    | exact wpAny_bind fin

theorem dict_typeIs {X : Cx} {pins : List (Addr × Obj)} {σ : St} {H : Hp} {s : Shared} {a : Addr} {y : V} {o : Option V} (I : Inv X pins σ H s) (g : DGet H a y o) : s.TypeIs (.ref a) "dict" := by
  rcases g with ⟨kvs, k, e, _, _⟩ | ⟨kvs, k, b, e, _, _, _⟩
  · obtain ⟨_, _, vs, _, dd⟩ := dk_rd I.hok e
    exact dd.typeIs
  · obtain ⟨_, _, xs, _, dd⟩ := dt_rd I.hok e
    exact dd.typeIs

/-- d[y] -/
def tDGet (td ty : TE) : TE := fun σ H Q => td σ H fun x H1 => ty σ H1 fun y H2 => ∃ a v, x = .ref a ∧ DGet H2 a y (some v) ∧ Q v H2
def tDNotIn (ty td : TE) : TE := fun σ H Q => ty σ H fun y H1 => td σ H1 fun x H2 => ∃ a o, x = .ref a ∧ DGet H2 a y o ∧ Q (.bl (!o.isSome)) H2

section
variable {X : Cx} {o i e value : Expr} {pos pos' tpos : Pos} {td ty tv : TE}
theorem pe_dget (hu : X.A.units + 1 < cLine) (ho : PE X o td) (hi : PE X i ty) (hs : NoSl i) : PE X (.Subscript o i pos) (tDGet td ty) := by
  intro pins s σ H Q I h
  refine subD_of PySem.F.slot_dict_getitem.lookup hs (thn (ho pins s σ H _ I h) fun u s1 ⟨x, H1, I1, rx, q1⟩ => thn (hi pins s1 σ H1 _ I1 q1) fun iv s2 ⟨y, H2, I2, ry, a, v, ex, g, q2⟩ => ?_)
  subst ex
  obtain rfl : u = Value.ref a := rx
  exact ⟨dict_typeIs I2 g, d_getItem hu I2 g ry fun w' s3 I3 rw' => ⟨v, H2, I3, rw', q2⟩⟩
theorem pc_dnotin (hu : X.A.units + 1 < cLine) (hi : PE X i ty) (ho : PE X o td) : PC X .NotIn i o (tDNotIn ty td) := by
  intro pins s σ H Q I h
  refine thn (hi pins s σ H _ I h) fun iv s1 ⟨y, H1, I1, ry, q1⟩ => thn (ho pins s1 σ H1 _ I1 q1) fun u s2 ⟨x, H2, I2, rx, a, ov, ex, g, q2⟩ => ?_
  subst ex
  obtain rfl : u = Value.ref a := rx
  exact d_notIn hu I2 g ry fun s3 I3 => ⟨.bl (!ov.isSome), H2, I3, rfl, q2⟩
end


/-! ### displays -/
theorem dk_empty {P : Program} {w : World} {H : Hp} (h : Heap) (hb : sysModules < h.objs.size) : ObjOk P w H (h.push { cls := .type "dict", data := .dict #[] }) h.objs.size (.dK []) :=
  ⟨Nat.zero_le _, beq_eq_false_iff_ne.mpr (Ne.symm (Nat.ne_of_lt hb)), [], .nil, Heap.DictOf.new h⟩
/-- {}, to be a dict of the kind that is wanted -/
def tDNewK : TE := fun _ H Q => ∀ p, H p = none → Q (.ref p) (upd H p (.dK []))
section
variable {X : Cx} {pos : Pos}
theorem pe_dnewK : PE X (.Dict [] [] pos) tDNewK := fun pins s σ H Q I h =>
  wpAny_Dict_empty ⟨.ref s.heap.objs.size, _, I.laid (a := s.heap.objs.size) (o := .dK []) (t' := s.toks) (fun _ _ q => Heap.get?_push_of_some _ q) (Nat.le_refl _) (dk_empty s.heap I.big), rfl, h _ (I.hok.fresh (Nat.le_refl _))⟩
end




/-! ### methods -/
structure M2 (X : Cx) (o : Expr) (m : Str) (apos : Pos) (e f : Expr) (cpos : Pos) : Prop where
  base : attributeBase o m X.env (eval o X.env) = eval o X.env
  few : ((backTo cpos (starEach [e, f] X.env)).all (fun x => !x.1) && (backToKw cpos (keywordEach [] X.env)).all (fun x => x.1.isSome)
    && decide (([e, f] : List Expr).length + ([] : List Keyword).length + (if ([] : List Keyword).isEmpty then 0 else 1) < 30)) = true
  line : (apos.endLine == cpos.line) = true
  trees : backTo cpos (starEach [e, f] X.env) = [(false, eval e X.env), (false, eval f X.env)]

/-- a is a dict, whatever its keys -/
def IsD (H : Hp) (a : Addr) : Prop := (∃ kvs, Rd H a (.dK kvs)) ∨ ∃ kvs, Rd H a (.dT kvs)
theorem isD_at {X : Cx} {pins : List (Addr × Obj)} {σ : St} {H : Hp} {s : Shared} {a : Addr} (I : Inv X pins σ H s) (d : IsD H a) :
    s.TypeIs (.ref a) "dict" ∧ (∀ b, Value.ref a = .ref b → ∃ ob, s.heap.get? b = some ob ∧ ob.dict = none) ∧ (a == sysModules) = false := by
  rcases d with ⟨kvs, e⟩ | ⟨kvs, e⟩
  · obtain ⟨_, hd, vs, _, dd⟩ := dk_rd I.hok e
    refine ⟨dd.typeIs, fun b q => ?_, hd⟩
    cases q
    obtain ⟨ob, _, _, h1, h2, _⟩ := dd
    exact ⟨ob, h1, h2.2.1⟩
  · obtain ⟨_, hd, xs, _, dd⟩ := dt_rd I.hok e
    refine ⟨dd.typeIs, fun b q => ?_, hd⟩
    cases q
    obtain ⟨ob, _, _, h1, h2, _⟩ := dd
    exact ⟨ob, h1, h2.2.1⟩

section
variable {X : Cx} {pins : List (Addr × Obj)} {σ : St} {H : Hp} {s : Shared} {a : Addr} {y d : V} {u r : Value} {o : Option V} {A : Around} {E : Value → Shared → Prop}
/-- d.get(y, x) -/
theorem d_get2 {Q : Value → Shared → Prop} (hu : A.units + 1 < cLine) (I : Inv X pins σ H s) (g : DGet H a y o) (ry : RelV y u) (rd : RelV d r) (h : ∀ w' s', Inv X pins σ H s' → RelV (o.getD d) w' → Q w' s') :
    wpAny (model X.prog X.w) A (call (.builtin "dict.get") [.ref a, u, r]) Q E s := by
  rcases g with ⟨kvs, k, e, ey, l⟩ | ⟨kvs, k, b, e, ey, eb, l⟩
  · subst ey
    obtain ⟨z, hd, vs, rel, dd⟩ := dk_rd I.hok e
    refine call_meetsIn PySem.F.slot_dict_get dd.typeIs PySem.F.entry_dict_get (PySem.F.args_dict_get_3 _ _ _) (meets_dict_get_default (mixKind X.prog X.w) a (kV_is ry) hd r) ⟨_, dd.mapOf, h _ _ (I.tok _) ?_⟩
    rw [l]
    exact (rel.val k).getD rd
  · subst ey
    cases (show u = Value.ref b from ry)
    obtain ⟨z, hd, xs, rel, dd⟩ := dt_rd I.hok e
    refine call_meetsIn PySem.F.slot_dict_get dd.typeIs PySem.F.entry_dict_get (PySem.F.args_dict_get_3 _ _ _) (meetsH_dict_get_default (tupleKind (mixKind X.prog X.w)) a b hd r) ⟨tupleKind_room_in1 hu, k, xs, key_of I.hok eb, dd, h _ _ (I.tok _) ?_⟩
    rw [l]
    exact (rel.val k).getD rd
end

def tDGet2 (td ty tx : TE) : TE := fun σ H Q => td σ H fun x H1 => ∃ a, x = .ref a ∧ IsD H1 a ∧ ty σ H1 fun y H2 => tx σ H2 fun z H3 => ∃ o, DGet H3 a y o ∧ Q (o.getD z) H3
section
variable {X : Cx} {o e f : Expr} {apos cpos : Pos} {td ty tx : TE}
theorem pe_dget2 (hu : X.A.units + 1 < cLine) (ho : PE X o td) (he : PE X e ty) (hf : PE X f tx) (m : M2 X o "get" apos e f cpos) : PE X (.Call (.Attribute o "get" apos) [e, f] [] cpos) (tDGet2 td ty tx) := by
  intro pins s σ H Q I h
  refine wpAny_Call_method m.base m.few m.line PySem.F.plainAttrs_dict PySem.F.slot_dict_get PySem.F.type_dict_get (thn (ho pins s σ H _ I h) fun u s1 ⟨x, H1, I1, rx, a, ex, d, q1⟩ => ?_)
  subst ex
  obtain rfl : u = Value.ref a := rx
  obtain ⟨t1, t2, _⟩ := isD_at I1 d
  refine ⟨t1, t2, ?_⟩
  rw [m.trees]
  refine Calls.callWith_builtin rfl (Calls.evalArgs_plain (Calls.spliced_cons (thn (he pins s1 σ H1 _ I1 q1) fun iv s2 ⟨y, H2, I2, ry, q2⟩ =>
    Calls.spliced_cons (thn (hf pins s2 σ H2 _ I2 q2) fun fv s3 ⟨z, H3, I3, rz, ov, g, q3⟩ => Calls.spliced_nil ?_))))
  exact d_get2 hu I3 g ry rz fun w' s4 I4 rw' => ⟨_, H3, I4, rw', q3⟩
end

/-! ### dict(d): a copy -/
section
variable {X : Cx} {pins : List (Addr × Obj)} {σ : St} {H : Hp} {s : Shared} {a : Addr} {kvs : List (Key × V)} {A : Around} {E : Value → Shared → Prop}
end


section
variable {X : Cx} {pins : List (Addr × Obj)} {σ : St} {H : Hp} {s : Shared} {a : Addr} {y : V} {u : Value} {A : Around} {E : Value → Shared → Prop}
end
end L2

namespace L2
open PySem PySem.Spec PyProof.Rows
section
variable {X : Cx}
end
/-! ### a dict's pairs: keys that differ -/
section
variable {κ : Type} [DecidableEq κ]
end
end L2

set_option Elab.async false
set_option linter.all false
set_option maxRecDepth 100000
set_option maxHeartbeats 4000000
/-! d.setdefault(y, x); sorted(a list of ints). Own work. -/
namespace SDf
open PySem PyProof.Rows
section
variable {prog : Program} {w : World} {κ : Type} [DecidableEq κ] {knd : PySem.KeyKind prog w κ} {A : Around} {E : Value → Shared → Prop} {s : Shared}
theorem setDef {d : Addr} {kvs : List (κ × Value)} {k : κ} {key dv : Value} {Q : Value → Shared → Prop} (hkey : knd.is k key = true) (hm : s.heap.DictOf knd d kvs) (hsz : kvs.length ≤ sizeLine)
    (hin : ∀ v, valueAt kvs k = some v → Q v { s with toks := s.toks + 1 })
    (hno : valueAt kvs k = none → ∀ h', h'.DictOf knd d (stored kvs k dv) → Heap.SameBut d s.heap h' → Q dv { s with heap := h', toks := s.toks + 1 }) :
    wpAny (model prog w) A (dictSetDefault d key dv) Q E s := by
  have hmap := hm.mapOf
  obtain ⟨o, es, ep, ho, hc, hd, hk, hp, hn⟩ := hm
  have hes : es.size ≤ sizeLine := by
    have e1 := hp.length
    have e2 : es.toList.length = es.size := by simp
    omega
  have hf : findBy knd.is es k = valueAt kvs k := by
    obtain ⟨o', es', ep', ho', hc', hd', hk', hf'⟩ := hmap
    rw [ho] at ho'; cases ho'
    rw [hd] at hd'; cases hd'
    exact hf' k
  unfold dictSetDefault
  try with_reducible refine wpAny_holding ?_
  refine wpAny_bind (knd.pyHash hkey ?_)
  refine wpAny_bind (wpAny_dictFind_of (s := { s with toks := s.toks + 1 }) hkey ho hd hk ?_)
  have hidx : (es.findIdx? fun e => knd.is k e.key) = kvs.findIdx? fun kv => decide (kv.1 = k) := by
    rw [← hp.findIdx k]; obtain ⟨l⟩ := es; simp
  cases hi : es.findIdx? fun e => knd.is k e.key with
  | some i =>
    have hfk : valueAt kvs k = (es[i]?).map (·.val) := by rw [← hf, findBy_of_findIdx?, hi]
    refine wpAny_bind (wpAny_dictEntries (s := { s with toks := s.toks + 1 }) ho hd ?_)
    cases he : es[i]? with
    | none =>
      exfalso
      have hlt : i < es.size := (Array.findIdx?_eq_some_iff_findIdx_eq.mp hi).1
      rw [Array.getElem?_eq_getElem hlt] at he
      exact nomatch he
    | some e =>
      rw [he] at hfk
      exact wpAny_bind (wpAny_rule (wpAny_pure (hin e.val hfk)))
  | none =>
    have hfk : valueAt kvs k = none := by rw [← hf, findBy_of_findIdx?, hi]
    have hnot : k ∉ kvs.map (·.1) := not_mem_of_findIdx_none (hidx ▸ hi)
    have hany : ¬ (kvs.any fun kv => decide (kv.1 = k)) = true := by
      rw [List.any_eq_true]
      rintro ⟨kv, hkv, he⟩
      exact hnot (List.mem_map.mpr ⟨kv, hkv, of_decide_eq_true he⟩)
    refine wpAny_bind (wpAny_rule (wpAny_bind (wpAny_updateDictKeys (hz := hes) (s := { s with toks := s.toks + 1 }) ho hd (wpAny_pure (hno hfk _ ⟨_, _, ep + 1, Heap.get?_update_self _ ho (Obj.isFreed_of_dict (Obj.data_mapDictKeys hd _)), hc.mapDictKeys _, Obj.data_mapDictKeys hd _, hk.push hkey _, ?_, ?_⟩ (Heap.SameBut.update ..))))))
    · rw [stored, if_neg hany]
      have := hp.append hkey (knd.hash k) dv
      obtain ⟨l⟩ := es
      simpa using this
    · rw [stored, if_neg hany, List.map_append, List.nodup_append]
      refine ⟨hn, by simp, ?_⟩
      intro a ha b hb
      simp only [List.map_cons, List.map_nil, List.mem_singleton] at hb
      subst hb
      exact fun e => hnot (e ▸ ha)
theorem meets_setdef {k : κ} {key : Value} (d : Addr) (hkey : knd.is k key = true) (hd : (d == sysModules) = false) (dv : Value) :
    MeetsIn prog w (Builtin.«dict.setdefault» ⟨[.ref d, key, dv], []⟩) (fun _ R s => ∃ kvs, s.heap.DictOf knd d kvs ∧ kvs.length ≤ sizeLine ∧ (∀ v, valueAt kvs k = some v → R (.ok (.ret v)) { s with toks := s.toks + 1 }) ∧
      (valueAt kvs k = none → ∀ h', h'.DictOf knd d (stored kvs k dv) → Heap.SameBut d s.heap h' → R (.ok (.ret dv)) { s with heap := h', toks := s.toks + 1 })) :=
  .of_wp fun A R s ⟨kvs, hm, hz, h1, h2⟩ => by
    unfold Builtin.«dict.setdefault» Builtin.Dict.keyAndDefault
    refine wpAny_bind (wpAny_bind (wpAny_notOrdered_dict hm.typeIs ?_))
    show wpAny _ _ (pure (d, key, some dv)) _ _ s
    refine wpAny_pure ?_
    show wpAny _ _ (if (d == sysModules) = true then _ else (dictSetDefault d key dv >>= _)) _ _ s
    rw [if_neg (fun e => by rw [hd] at e; cases e)]
    exact wpAny_bind (setDef hkey hm hz (fun v e => wpAny_pure ⟨v, rfl, h1 v e⟩) fun e h' dd hs => wpAny_pure ⟨dv, rfl, h2 e h' dd hs⟩)
end
end SDf
namespace L2
open PySem PySem.Spec PyProof.Rows
/-- d.setdefault(y, x) -/
def tDDef (td ty tx : TE) : TE := fun σ H Q => td σ H fun x H1 => ∃ a, x = .ref a ∧ IsD H1 a ∧ ty σ H1 fun y H2 => tx σ H2 fun z H3 => ∃ kvs k, H3 a = some (.dK kvs) ∧ y = kV k ∧ kvs.length < sizeLine ∧
  (∀ v, valV kvs k = some v → Q v H3) ∧ (valV kvs k = none → Q z (upd H3 a (.dK (putK kvs k z))))
section
variable {X : Cx} {o e f : Expr} {apos cpos : Pos} {td ty tx : TE}
theorem pe_ddef (ho : PE X o td) (he : PE X e ty) (hf : PE X f tx) (m : M2 X o "setdefault" apos e f cpos) : PE X (.Call (.Attribute o "setdefault" apos) [e, f] [] cpos) (tDDef td ty tx) := by
  intro pins s σ H Q I h
  refine wpAny_Call_method m.base m.few m.line PySem.F.plainAttrs_dict PySem.F.slot_dict_setdefault PySem.F.type_dict_setdefault (thn (ho pins s σ H _ I h) fun u s1 ⟨x, H1, I1, rx, a, ex, d, q1⟩ => ?_)
  subst ex
  obtain rfl : u = Value.ref a := rx
  obtain ⟨t1, t2, hd⟩ := isD_at I1 d
  refine ⟨t1, t2, ?_⟩
  rw [m.trees]
  refine Calls.callWith_builtin rfl (Calls.evalArgs_plain (Calls.spliced_cons (thn (he pins s1 σ H1 _ I1 q1) fun iv s2 ⟨y, H2, I2, ry, q2⟩ =>
    Calls.spliced_cons (thn (hf pins s2 σ H2 _ I2 q2) fun fv s3 ⟨z, H3, I3, rz, kvs, k, ea, ey, hl, q3, q4⟩ => Calls.spliced_nil ?_))))
  subst ey
  obtain ⟨hz, hd', vs, rel, dd⟩ := dk_of I3.hok ea
  refine call_meetsIn PySem.F.slot_dict_setdefault dd.typeIs PySem.F.entry_dict_setdefault (PySem.F.args_dict_setdefault_3 _ _ _) (SDf.meets_setdef (knd := mixKind X.prog X.w) a (kV_is ry) hd' fv) ⟨vs, dd, by rw [← rel.length]; exact hz, fun v' ev => ?_, fun ev h' dd' hs => ?_⟩
  · have hv := rel.val k
    rw [ev] at hv
    cases hk : valV kvs k with
    | none => rw [hk] at hv; exact hv.elim
    | some v =>
      rw [hk] at hv
      exact ⟨v, H3, I3.tok _, hv, q3 v hk⟩
  · have hv := rel.val k
    rw [ev] at hv
    cases hk : valV kvs k with
    | some v => rw [hk] at hv; exact hv.elim
    | none =>
      have hle : (putK kvs k z).length ≤ sizeLine := by have := length_putK kvs k z; omega
      have hx : ∃ q, h'.get? a = some q := let ⟨q, _, _, hq, _⟩ := dd'; ⟨q, hq⟩
      exact ⟨z, _, d_write I3 (by rw [ea]; exact True.intro) hs hx (dk_new hle hd' (rel.put k rz) dd'), rz, q4 hk⟩
end
end L2

set_option Elab.async false
set_option linter.all false
set_option maxRecDepth 100000
set_option maxHeartbeats 4000000
/-! sorted(a list of ints); lists and tuples that are alike, within one another. Own work. -/
namespace L2
open PySem PySem.Spec PyProof.Rows SI
section
variable {X : Cx}
/-- sorted(a list of ints) -/
theorem call_sortedL : CallR X (.builtin "sorted") (fun xs H Q => ∃ (p : Addr) (ks : List Int), xs = [.ref p] ∧ SqL X.K H p (ks.map V.int) ∧ ks.length < 64 ∧ ∀ (l : Addr) (ns : List Int), H l = none → ns.Pairwise (· ≤ ·) → ns.Perm ks → Q (.ref l) (upd H l (.lst (ns.map V.int)))) := by
  intro pins s σ H xs us Q I r h
  obtain ⟨p, ks, rfl, hq, h64, q⟩ := h
  obtain ⟨u, rfl, rx⟩ := vals1 r
  cases rx
  obtain ⟨its, rv, pl, hz⟩ := I.list hq
  have hI := intsAre_of rv
  have hlen : ks.length = its.length := by have := rv.length; rw [List.length_map] at this; exact this
  refine sorted_ints pl.isList hI (by omega) fun out ns' hI' hpm hle => ?_
  have hsz : ((s.heap.push (seqObj "list" #[] 0)).update s.heap.objs.size (Obj.mapSeq (· ++ its.toArray))).objs.size = s.heap.objs.size + 1 := by
    rw [Heap.size_update, size_push']
  have keep0 : ∀ b o, s.heap.get? b = some o → (((s.heap.push (seqObj "list" #[] 0)).update s.heap.objs.size (Obj.mapSeq (· ++ its.toArray))).push (seqObj "list" its.toArray 0)).get? b = some o := fun b o e => by
    refine Heap.get?_push_of_some _ ?_
    rw [Heap.get?_update_other _ _ (Ne.symm (Nat.ne_of_lt (Heap.lt_size e)))]
    exact Heap.get?_push_of_some _ e
  have hoL : (((s.heap.push (seqObj "list" #[] 0)).update s.heap.objs.size (Obj.mapSeq (· ++ its.toArray))).push (seqObj "list" its.toArray 0)).get? (s.heap.objs.size + 1) = some (seqObj "list" its.toArray 0) := by
    rw [← hsz]; exact Heap.get?_push_size _ rfl
  obtain ⟨e1, g1⟩ : ∃ e1, ((((s.heap.push (seqObj "list" #[] 0)).update s.heap.objs.size (Obj.mapSeq (· ++ its.toArray))).push (seqObj "list" its.toArray 0)).update (s.heap.objs.size + 1) (Obj.mapSeq fun _ => #[])).get? (s.heap.objs.size + 1) = some (seqObj "list" #[] e1) := ⟨_, get?_update_seq hoL _⟩
  have g2 : ((((((s.heap.push (seqObj "list" #[] 0)).update s.heap.objs.size (Obj.mapSeq (· ++ its.toArray))).push (seqObj "list" its.toArray 0)).update (s.heap.objs.size + 1) (Obj.mapSeq fun _ => #[])).push (seqObj "tuple" its.toArray 0)).push (seqObj "list" #[] 0)).get? (s.heap.objs.size + 1) = some (seqObj "list" #[] e1) :=
    Heap.get?_push_of_some _ (Heap.get?_push_of_some _ g1)
  have hle2 : s.heap.objs.size ≤ s.heap.objs.size + 1 := Nat.le_succ _
  refine ⟨.ref (s.heap.objs.size + 1), upd H (s.heap.objs.size + 1) (.lst (ns'.map V.int)), ?_, rfl, q _ ns' (I.hok.fresh hle2) hle hpm⟩
  refine I.laid (a := s.heap.objs.size + 1) (o := .lst (ns'.map V.int)) (t' := s.toks) (fun b o e => ?_) hle2 (show ObjOk X.prog X.w _ (sortedAll s.heap its out) _ (.lst (ns'.map V.int)) from ⟨by rw [List.length_map, hpm.length_eq, sizeLine_eq]; omega, out.toList, _, vals_ints hI', by unfold sortedAll sortedHeap; simpa using get?_update_seq g2 (fun _ => out)⟩)
  have hb : b ≠ s.heap.objs.size + 1 := Nat.ne_of_lt (Nat.lt_succ_of_lt (Heap.lt_size e))
  unfold sortedAll sortedHeap
  rw [Heap.get?_update_other _ _ (Ne.symm hb)]
  exact Heap.get?_push_of_some _ (Heap.get?_push_of_some _ ((Heap.get?_update_other _ _ (Ne.symm hb)).trans (keep0 b o e)))
end
/-! ### alike, within one another -/
def Alk (K : PySem.W.Frag) (H : Hp) : Nat → V → V → Prop
  | 0, x, y => x = y ∧ (flatV x = true ∨ ∃ a, x = .ref a)
  | d + 1, x, y => (x = y ∧ (flatV x = true ∨ ∃ a, x = .ref a)) ∨ ∃ a c xs ys, x = .ref a ∧ y = .ref c ∧ ((SqT K H a xs ∧ SqT K H c ys) ∨ (SqL K H a xs ∧ SqL K H c ys)) ∧ Paired (Alk K H d) xs ys
theorem eqV_self {x : V} (h : flatV x = true) : eqV x x = true := by
  cases x with
  | non => rfl
  | bl b => cases b <;> rfl
  | int i => show (i == i) = true; simp
  | str z => show (z == z) = true; simp
  | byt b => exact absurd (show false = true from h) Bool.false_ne_true
  | flt b => exact absurd (show false = true from h) Bool.false_ne_true
  | ref a => exact absurd (show false = true from h) Bool.false_ne_true
  | ty n => exact absurd (show false = true from h) Bool.false_ne_true
theorem all_true (n : Nat) : (List.range n).all (fun _ => true) = true := by simp
theorem paired_get {α β : Type} {R : α → β → Prop} : ∀ {xs : List α} {ys : List β}, Paired R xs ys → ∀ {j : Nat} {x : α} {y : β}, xs[j]? = some x → ys[j]? = some y → R x y
  | _, _, .nil, j, x, y, e, _ => by simp at e
  | _, _, .cons h t, 0, x, y, e1, e2 => by simp at e1 e2; subst e1 e2; exact h
  | _, _, .cons h t, j + 1, x, y, e1, e2 => paired_get t (j := j) (by simpa using e1) (by simpa using e2)
section
variable {X : Cx} {pins : List (Addr × Obj)} {σ : St} {H : Hp} {s : Shared}
theorem same_eqAt {A : Around} {x y : V} {u v : Value} (h : x = y ∧ (flatV x = true ∨ ∃ a, x = .ref a)) (ru : RelV x u) (rv : RelV y v) : SeqAt.EqAt A s u v true := by
  obtain ⟨rfl, h | ⟨a, rfl⟩⟩ := h
  · have := eqAt_V (A := A) (s := s) ru rv h h
    rw [eqV_self h] at this
    exact this
  · cases ru
    cases rv
    exact SeqAt.EqAt.same _
theorem alk_eqAt (I : Inv X pins σ H s) : ∀ (d : Nat) {A : Around} {x y : V} {u v : Value}, Alk X.K H d x y → RelV x u → RelV y v → A.units + d < cLine → SeqAt.EqAt A s u v true
  | 0, A, x, y, u, v, h, ru, rv, _ => same_eqAt h ru rv
  | d + 1, A, x, y, u, v, h, ru, rv, hu => by
    rcases h with h | ⟨a, c, xs, ys, rfl, rfl, hs, hp⟩
    · exact same_eqAt h ru rv
    · cases ru
      cases rv
      by_cases hac : a = c
      · subst hac; exact SeqAt.EqAt.same _
      · refine SeqAt.EqAt.of_refs hac ?_
        have hl := Paired.length hp
        rcases hs with ⟨h1, h2⟩ | ⟨h1, h2⟩
        · obtain ⟨i1, r1, p1, z1⟩ := I.tuple h1
          obtain ⟨i2, r2, p2, z2⟩ := I.tuple h2
          have l1 := r1.length
          have l2 := r2.length
          have := SeqAt.RcAt.tuples (A := A) (e := fun _ => true) (show s.heap.IsTuple a i1.toArray from p1) (show s.heap.IsTuple c i2.toArray from p2) (by omega) (fun j j1 j2 => by
            simp only [List.size_toArray] at j1 j2
            have k1 : j < xs.length := by omega
            have k2 : j < ys.length := by omega
            obtain ⟨u1, e1, s1⟩ := r1.get (List.getElem?_eq_getElem k1)
            obtain ⟨u2, e2, s2⟩ := r2.get (List.getElem?_eq_getElem k2)
            rw [List.getElem?_eq_getElem j1] at e1
            rw [List.getElem?_eq_getElem j2] at e2
            cases e1
            cases e2
            exact alk_eqAt I d (paired_get hp (List.getElem?_eq_getElem k1) (List.getElem?_eq_getElem k2)) s1 s2 (by show A.units + 1 + d < _; omega))
          rw [all_true, List.size_toArray, List.size_toArray, ← l1, ← l2, hl] at this
          simpa using this
        · obtain ⟨i1, r1, p1, z1⟩ := I.list h1
          obtain ⟨i2, r2, p2, z2⟩ := I.list h2
          have l1 := r1.length
          have l2 := r2.length
          have := SeqAt.RcAt.lists (A := A) (e := fun _ => true) p1.isList p2.isList (by simp; omega) (by omega) (fun j j1 j2 => by
            simp only [List.size_toArray] at j1 j2
            have k1 : j < xs.length := by omega
            have k2 : j < ys.length := by omega
            obtain ⟨u1, e1, s1⟩ := r1.get (List.getElem?_eq_getElem k1)
            obtain ⟨u2, e2, s2⟩ := r2.get (List.getElem?_eq_getElem k2)
            rw [List.getElem?_eq_getElem j1] at e1
            rw [List.getElem?_eq_getElem j2] at e2
            cases e1
            cases e2
            exact alk_eqAt I d (paired_get hp (List.getElem?_eq_getElem k1) (List.getElem?_eq_getElem k2)) s1 s2 (by show A.units + 1 + d < _; omega))
          rw [all_true] at this
          exact this
end
section
variable {X : Cx}
/-- two lists or two tuples that are alike, compared -/
def rAlk (K : PySem.W.Frag) (d : Nat) (b : Bool) : R2 := fun x y H Q => ∃ a c xs ys, x = .ref a ∧ y = .ref c ∧ ((SqT K H a xs ∧ SqT K H c ys) ∨ (SqL K H a xs ∧ SqL K H c ys)) ∧ Paired (Alk K H d) xs ys ∧ Q (.bl b) H
theorem alk_items {pins : List (Addr × Obj)} {σ : St} {H : Hp} {s : Shared} (I : Inv X pins σ H s) {d : Nat} {xs ys : List V} {i1 i2 : List Value} (hu : X.A.units + 1 + d < cLine) (hp : Paired (Alk X.K H d) xs ys) (r1 : Vals xs i1) (r2 : Vals ys i2) :
    ∀ j (j1 : j < i1.toArray.size) (j2 : j < i2.toArray.size), SeqAt.EqAt X.A.in1 s i1.toArray[j] i2.toArray[j] true := fun j j1 j2 => by
  have l1 := r1.length
  have l2 := r2.length
  simp only [List.size_toArray] at j1 j2
  have k1 : j < xs.length := by omega
  have k2 : j < ys.length := by omega
  obtain ⟨u1, e1, s1⟩ := r1.get (List.getElem?_eq_getElem k1)
  obtain ⟨u2, e2, s2⟩ := r2.get (List.getElem?_eq_getElem k2)
  rw [List.getElem?_eq_getElem j1] at e1
  rw [List.getElem?_eq_getElem j2] at e2
  cases e1
  cases e2
  exact alk_eqAt I d (paired_get hp (List.getElem?_eq_getElem k1) (List.getElem?_eq_getElem k2)) s1 s2 (by show X.A.units + 1 + d < _; omega)
theorem op_eqA {d : Nat} (hu : X.A.units + 1 + d < cLine) : OpR X (compareOp .Eq) (rAlk X.K d true) := by
  intro pins s σ H x y v u Q I rx ry h
  obtain ⟨a, c, xs, ys, rfl, rfl, hs, hp, q⟩ := h
  cases rx
  cases ry
  have hl := Paired.length hp
  rcases hs with ⟨h1, h2⟩ | ⟨h1, h2⟩
  · obtain ⟨i1, r1, p1, z1⟩ := I.tuple h1
    obtain ⟨i2, r2, p2, z2⟩ := I.tuple h2
    have l1 := r1.length
    have l2 := r2.length
    refine SeqAt.RcAt.tuples (e := fun _ => true) (show s.heap.IsTuple a i1.toArray from p1) (show s.heap.IsTuple c i2.toArray from p2) (by omega) (alk_items I hu hp r1 r2) X.prog X.w X.xe _ ⟨.bl true, H, I, ?_, q⟩
    show Value.bool _ = Value.bool _
    rw [all_true, List.size_toArray, List.size_toArray, ← l1, ← l2, hl]; simp
  · obtain ⟨i1, r1, p1, z1⟩ := I.list h1
    obtain ⟨i2, r2, p2, z2⟩ := I.list h2
    have l1 := r1.length
    have l2 := r2.length
    refine SeqAt.RcAt.lists (e := fun _ => true) p1.isList p2.isList (by simp; omega) (by omega) (alk_items I hu hp r1 r2) X.prog X.w X.xe _ ⟨.bl true, H, I, ?_, q⟩
    show Value.bool _ = Value.bool _
    rw [all_true]
theorem op_neA {d : Nat} (hu : X.A.units + 1 + d < cLine) : OpR X (compareOp .NotEq) (rAlk X.K d false) := by
  intro pins s σ H x y v u Q I rx ry h
  obtain ⟨a, c, xs, ys, rfl, rfl, hs, hp, q⟩ := h
  cases rx
  cases ry
  have hl := Paired.length hp
  rcases hs with ⟨h1, h2⟩ | ⟨h1, h2⟩
  · obtain ⟨i1, r1, p1, z1⟩ := I.tuple h1
    obtain ⟨i2, r2, p2, z2⟩ := I.tuple h2
    have l1 := r1.length
    have l2 := r2.length
    refine SeqAt.RcNeAt.tuples (e := fun _ => true) (show s.heap.IsTuple a i1.toArray from p1) (show s.heap.IsTuple c i2.toArray from p2) (by omega) (alk_items I hu hp r1 r2) X.prog X.w X.xe _ ⟨.bl false, H, I, ?_, q⟩
    show Value.bool _ = Value.bool _
    rw [all_true, List.size_toArray, List.size_toArray, ← l1, ← l2, hl]; simp
  · obtain ⟨i1, r1, p1, z1⟩ := I.list h1
    obtain ⟨i2, r2, p2, z2⟩ := I.list h2
    have l1 := r1.length
    have l2 := r2.length
    refine SeqAt.RcNeAt.lists (e := fun _ => true) p1.isList p2.isList (by simp; omega) (by omega) (alk_items I hu hp r1 r2) X.prog X.w X.xe _ ⟨.bl false, H, I, ?_, q⟩
    show Value.bool _ = Value.bool _
    rw [all_true]; rfl
end
end L2

set_option Elab.async false
set_option linter.all false
set_option maxRecDepth 100000
set_option maxHeartbeats 4000000
/-! any(a list of bools); try, where nothing is raised. Own work. -/
namespace L2
open PySem PySem.Spec PyProof.Rows SI
theorem bt_any' : bootBuiltins "any" = some (.builtin "any") := by decide +kernel
theorem call_anyB {X : Cx} (hc : X.calm = true) : CallR X (.builtin "any") (fun xs H Q => ∃ (p : Addr) (bs : List Bool), xs = [.ref p] ∧ SqL X.K H p (bs.map V.bl) ∧ Q (.bl (bs.any id)) H) := by
  intro pins s σ H xs us Q I r h
  obtain ⟨p, bs, rfl, hq, q⟩ := h
  obtain ⟨u, rfl, rx⟩ := vals1 r
  cases rx
  obtain ⟨its, rv, pl, hz⟩ := I.list hq
  have hlen : bs.length = its.length := by have := rv.length; rw [List.length_map] at this; exact this
  have hp : p < s.heap.objs.size := by obtain ⟨o, ho, _⟩ := pl.isList; exact Heap.lt_size ho
  refine call_any_walk (wpAny_pyIter_list pl.isList ?_)
  refine ⟨s.heap.objs.size, _, _, _, _, _, fun i => bs.getD i true, rfl, Walks.list (by simpa using I.ok.hd hc) s.heap.objs.size p (Nat.ne_of_lt hp) its.toArray, ⟨⟨_, Heap.get?_push_size _ rfl, rfl, rfl⟩, pl.isList.push _⟩, ?_, fun h' tk hk => ?_⟩
  · intro i v s' Q' E' hv hq'
    have hv' : its[i]? = some v := by simpa using hv
    have hb : bs[i]? = some (bs.getD i true) := by
      have hi : i < its.length := (List.getElem?_eq_some_iff.mp hv').1
      have hi' : i < bs.length := by omega
      simp [List.getD, hi']
    obtain ⟨u, hu, ru⟩ := rv.get (i := i) (x := .bl (bs.getD i true)) (by rw [List.getElem?_map, hb]; rfl)
    rw [hv'] at hu
    cases hu
    cases (show v = Value.bool (bs.getD i true) from ru)
    exact wpAny_truthy_bool hq'
  · have hf := I.fpOk (H' := H) (Nat.le_refl s.heap.objs.size) (I.hok.fresh (Nat.le_refl _))
    have I1 : Inv X pins σ H { s with heap := h', toks := tk } := I.turned (it := s.heap.objs.size) (fun b o hb e => hk b o (by simpa using hb) (Heap.get?_push_of_some _ e)) hf.1 hf.2.1 (.inr I.sz) hf.2.2.2.2.1 hf.2.2.2.2.2
    refine ⟨.bl (bs.any id), H, I1, ?_, q⟩
    show Value.bool _ = Value.bool _
    congr 1
    have e : (List.range its.toArray.size).map (fun i => bs.getD i true) = bs := by
      apply List.ext_getElem?
      intro i
      rw [List.getElem?_map, List.size_toArray]
      by_cases hi : i < bs.length
      · have hi2 : i < its.length := by omega
        simp [hi, hi2]
      · have hi2 : ¬ i < its.length := by omega
        simp [hi, hi2]
    conv => rhs; rw [← e]
    rw [List.any_map]
    rfl
end L2

/-! Sets of numbers as natural numbers: plain mathematics, own work. -/
namespace Bits

theorem tb_step (acc n : Nat) (h : acc < 2 ^ n) (m : Nat) : (acc + 2 ^ n).testBit m = (acc.testBit m || decide (m = n)) := by
  rw [Nat.add_comm]
  rcases Nat.lt_trichotomy m n with hm | hm | hm
  · rw [Nat.testBit_two_pow_add_gt hm]
    have : ¬ m = n := by omega
    simp [this]
  · subst hm
    rw [Nat.testBit_two_pow_add_eq, Nat.testBit_lt_two_pow h]
    simp
  · have h1 : 2 ^ n + acc < 2 ^ m := by
      have : 2 ^ (n + 1) ≤ 2 ^ m := Nat.pow_le_pow_right (by decide) hm
      rw [Nat.pow_succ] at this
      omega
    have h2 : acc < 2 ^ m := Nat.lt_trans h (Nat.pow_lt_pow_right (by decide) hm)
    rw [Nat.testBit_lt_two_pow h1, Nat.testBit_lt_two_pow h2]
    have : ¬ m = n := by omega
    simp [this]



theorem lt_of_bits {a n : Nat} (h : ∀ m, n ≤ m → a.testBit m = false) : a < 2 ^ n := Nat.lt_pow_two_of_testBit a (fun i hi => h i hi)


theorem low_split : ∀ x : Nat, 0 < x → ∃ t q, x = 2 ^ t * (2 * q + 1) := by
  intro x
  induction x using Nat.strongRecOn with
  | _ x ih =>
    intro h
    rcases Nat.mod_two_eq_zero_or_one x with e | e
    · obtain ⟨t, q, hq⟩ := ih (x / 2) (by omega) (by omega)
      refine ⟨t + 1, q, ?_⟩
      have : x = 2 * (x / 2) := by omega
      rw [this, hq, Nat.pow_succ]
      rw [Nat.mul_comm (2 ^ t) 2, Nat.mul_assoc]
    · exact ⟨0, x / 2, by rw [Nat.pow_zero]; omega⟩
theorem tb_odd (t q m : Nat) : (2 ^ t * (2 * q + 1)).testBit m = (decide (m = t) || (2 ^ (t + 1) * q).testBit m) := by
  have h1 := Nat.testBit_two_pow_mul_add (2 * q + 1) (b := 0) (i := t) (Nat.two_pow_pos t) m
  have h2 := Nat.testBit_two_pow_mul_add q (b := 0) (i := t + 1) (Nat.two_pow_pos _) m
  rw [Nat.add_zero] at h1 h2
  rw [h1, h2]
  rcases Nat.lt_trichotomy m t with h | h | h
  · have a1 : ¬ m = t := by omega
    have a2 : m < t + 1 := by omega
    simp [h, a1, a2]
  · subst h
    simp
  · have a1 : ¬ m = t := by omega
    have a2 : ¬ m < t + 1 := by omega
    have a3 : ¬ m < t := by omega
    simp only [a1, a2, a3, if_false, decide_false, Bool.false_or]
    obtain ⟨k, hk⟩ : ∃ k, m - t = k + 1 := ⟨m - t - 1, by omega⟩
    have hk2 : m - (t + 1) = k := by omega
    rw [hk, hk2, Nat.testBit_succ]
    congr 1
    omega
theorem and_pred (t q : Nat) : (2 ^ t * (2 * q + 1)) &&& (2 ^ t * (2 * q + 1) - 1) = 2 ^ (t + 1) * q := by
  have e : 2 ^ t * (2 * q + 1) - 1 = 2 ^ t * (2 * q) + (2 ^ t - 1) := by
    have := Nat.two_pow_pos t
    rw [Nat.mul_add, Nat.mul_one]; omega
  apply Nat.eq_of_testBit_eq
  intro m
  rw [Nat.testBit_and, tb_odd, e, Nat.testBit_two_pow_mul_add _ (by have := Nat.two_pow_pos t; omega)]
  have h2 := Nat.testBit_two_pow_mul_add q (b := 0) (i := t + 1) (Nat.two_pow_pos _) m
  rw [Nat.add_zero] at h2
  rw [h2]
  rcases Nat.lt_trichotomy m t with h | h | h
  · have a1 : ¬ m = t := by omega
    have a2 : m < t + 1 := by omega
    simp [h, a1, a2]
  · subst h
    simp
  · have a1 : ¬ m = t := by omega
    have a2 : ¬ m < t + 1 := by omega
    have a3 : ¬ m < t := by omega
    simp only [a1, a2, a3, if_false, decide_false, Bool.false_or]
    obtain ⟨k, hk⟩ : ∃ k, m - t = k + 1 := ⟨m - t - 1, by omega⟩
    have hk2 : m - (t + 1) = k := by omega
    rw [hk, hk2, Nat.testBit_succ]
    have : 2 * q / 2 = q := by omega
    rw [this, Bool.and_self]
theorem or_low (t q : Nat) : (2 ^ t * (2 * q + 1)) ||| 2 ^ t = 2 ^ t * (2 * q + 1) := by
  apply Nat.eq_of_testBit_eq
  intro m
  rw [Nat.testBit_or, tb_odd, Nat.testBit_two_pow]
  by_cases h : m = t
  · simp [h]
  · have h' : ¬ t = m := fun e => h e.symm
    simp [h, h']
theorem and_low (t q : Nat) : (2 ^ t * (2 * q + 1)) &&& 2 ^ t = 2 ^ t := by
  apply Nat.eq_of_testBit_eq
  intro m
  rw [Nat.testBit_and, tb_odd, Nat.testBit_two_pow]
  by_cases h : m = t
  · simp [h]
  · have h' : ¬ t = m := fun e => h e.symm
    simp [h']
theorem tb_high {t q m : Nat} (h : (2 ^ (t + 1) * q).testBit m = true) : t < m := by
  have h2 := Nat.testBit_two_pow_mul_add q (b := 0) (i := t + 1) (Nat.two_pow_pos _) m
  rw [Nat.add_zero] at h2
  rw [h2] at h
  rcases Nat.lt_or_ge t m with g | g
  · exact g
  · rw [if_pos (by omega)] at h
    simp at h

end Bits

set_option linter.all false
/-! Claims by plain mathematics: which lie open, which is the greatest. Own work. -/
namespace CM
def In (a b : Nat) : Prop := a &&& b = a
instance (a b : Nat) : Decidable (In a b) := inferInstanceAs (Decidable (_ = _))
theorem in_bits {a b : Nat} : In a b ↔ ∀ m, a.testBit m = true → b.testBit m = true := by
  constructor
  · intro h m ha
    have e : (a &&& b).testBit m = a.testBit m := by rw [show a &&& b = a from h]
    rw [Nat.testBit_and, ha, Bool.true_and] at e
    exact e
  · intro h
    apply Nat.eq_of_testBit_eq
    intro m
    rw [Nat.testBit_and]
    cases e : a.testBit m with
    | false => rfl
    | true => rw [h m e]; rfl
theorem in_refl (a : Nat) : In a a := Nat.and_self a
theorem in_trans {a b c : Nat} (h1 : In a b) (h2 : In b c) : In a c := in_bits.mpr fun m h => in_bits.mp h2 m (in_bits.mp h1 m h)
theorem in_le {a b : Nat} (h : In a b) : a ≤ b := by rw [← show a &&& b = a from h]; exact Nat.and_le_right
theorem in_lt {a b : Nat} (h : In a b) (hn : a ≠ b) : a < b := Nat.lt_of_le_of_ne (in_le h) hn
/-- what is greatest by a number -/
theorem exists_max (f : Nat → Nat) (p : Nat → Prop) [DecidablePred p] : ∀ (S : List Nat), (∃ j ∈ S, p j) → ∃ t ∈ S, p t ∧ ∀ i ∈ S, p i → f i ≤ f t
  | [], h => by obtain ⟨j, hj, _⟩ := h; exact nomatch hj
  | a :: r, h => by
    by_cases hr : ∃ j ∈ r, p j
    · obtain ⟨t, ht, pt, mt⟩ := exists_max f p r hr
      by_cases pa : p a ∧ f t < f a
      · refine ⟨a, List.mem_cons_self, pa.1, fun i hi pi => ?_⟩
        rcases List.mem_cons.mp hi with e | hi
        · rw [e]; exact Nat.le_refl _
        · exact Nat.le_of_lt (Nat.lt_of_le_of_lt (mt i hi pi) pa.2)
      · refine ⟨t, List.mem_cons_of_mem _ ht, pt, fun i hi pi => ?_⟩
        rcases List.mem_cons.mp hi with e | hi
        · subst e
          exact Nat.le_of_not_lt fun z => pa ⟨pi, z⟩
        · exact mt i hi pi
    · obtain ⟨j, hj, pj⟩ := h
      rcases List.mem_cons.mp hj with e | hj
      · subst e
        refine ⟨j, List.mem_cons_self, pj, fun i hi pi => ?_⟩
        rcases List.mem_cons.mp hi with e | hi
        · rw [e]; exact Nat.le_refl _
        · exact absurd ⟨i, hi, pi⟩ hr
      · exact absurd ⟨j, hj, pj⟩ hr
/-- properly within another -/
def below (f : Nat → Nat) (S : List Nat) (k : Nat) : Bool := S.any fun j => decide (f j ≠ f k) && decide (In (f k) (f j))
def tops (f : Nat → Nat) (S : List Nat) : List Nat := S.filter fun k => !below f S k
theorem below_iff {f : Nat → Nat} {S : List Nat} {k : Nat} : below f S k = true ↔ ∃ j ∈ S, f j ≠ f k ∧ In (f k) (f j) := by
  unfold below
  rw [List.any_eq_true]
  constructor
  · rintro ⟨j, hj, e⟩
    rw [Bool.and_eq_true, decide_eq_true_eq, decide_eq_true_eq] at e
    exact ⟨j, hj, e⟩
  · rintro ⟨j, hj, e⟩
    exact ⟨j, hj, by rw [Bool.and_eq_true, decide_eq_true_eq, decide_eq_true_eq]; exact e⟩
theorem mem_tops {f : Nat → Nat} {S : List Nat} {k : Nat} : k ∈ tops f S ↔ k ∈ S ∧ ¬ ∃ j ∈ S, f j ≠ f k ∧ In (f k) (f j) := by
  unfold tops
  rw [List.mem_filter, Bool.not_eq_true', ← Bool.not_eq_true, below_iff]
theorem above {f : Nat → Nat} {S : List Nat} {j : Nat} (hj : j ∈ S) : ∃ t ∈ tops f S, In (f j) (f t) := by
  obtain ⟨t, ht, pt, mt⟩ := exists_max f (fun i => In (f j) (f i)) S ⟨j, hj, in_refl _⟩
  refine ⟨t, mem_tops.mpr ⟨ht, ?_⟩, pt⟩
  rintro ⟨i, hi, hne, hin⟩
  have h1 := mt i hi (in_trans pt hin)
  have h2 := in_lt hin (fun e => hne e.symm)
  omega
theorem tops_nil {f : Nat → Nat} {S : List Nat} : tops f S = [] ↔ S = [] := by
  constructor
  · intro h
    cases S with
    | nil => rfl
    | cons a r =>
      obtain ⟨t, ht, _⟩ := above (f := f) (S := a :: r) List.mem_cons_self
      rw [h] at ht; exact nomatch ht
  · intro h; rw [h]; rfl
def union (f : Nat → Nat) (S : List Nat) : Nat := S.foldl (fun a k => a ||| f k) 0
theorem union_tb (f : Nat → Nat) (m : Nat) : ∀ (S : List Nat) (a : Nat), (S.foldl (fun a k => a ||| f k) a).testBit m = (a.testBit m || S.any fun k => (f k).testBit m)
  | [], a => by simp
  | k :: r, a => by rw [List.foldl_cons, union_tb f m r, Nat.testBit_or, List.any_cons, Bool.or_assoc]
theorem union_bits (f : Nat → Nat) (S : List Nat) (m : Nat) : (union f S).testBit m = S.any fun k => (f k).testBit m := by
  unfold union; rw [union_tb]; simp
theorem one_top {f : Nat → Nat} {S : List Nat} {k : Nat} (h : tops f S = [k]) : k ∈ S ∧ union f S = f k ∧ S.filter (fun i => decide (f i = union f S)) = [k] := by
  have hk : k ∈ tops f S := by rw [h]; exact List.mem_singleton.mpr rfl
  have hkS := (mem_tops.mp hk).1
  have all : ∀ j ∈ S, In (f j) (f k) := fun j hj => by
    obtain ⟨t, ht, hin⟩ := above (f := f) hj
    rw [h] at ht
    rw [← List.mem_singleton.mp ht]; exact hin
  have hu : union f S = f k := by
    apply Nat.eq_of_testBit_eq
    intro m
    rw [union_bits]
    cases e : (f k).testBit m with
    | true => exact List.any_eq_true.mpr ⟨k, hkS, e⟩
    | false =>
      rw [List.any_eq_false]
      intro j hj z
      rw [in_bits.mp (all j hj) m z] at e
      cases e
  refine ⟨hkS, hu, ?_⟩
  rw [← h, hu]
  unfold tops
  apply List.filter_congr
  intro i hi
  by_cases e : f i = f k
  · have : i ∈ tops f S := mem_tops.mpr ⟨hi, by
      rintro ⟨j, hj, hne, hin⟩
      rw [e] at hne hin
      exact (mem_tops.mp hk).2 ⟨j, hj, hne, hin⟩⟩
    have hb := (List.mem_filter.mp this).2
    rw [hb, decide_eq_true e]
  · have hb : below f S i = true := below_iff.mpr ⟨k, hkS, fun z => e z.symm, all i hi⟩
    rw [hb, decide_eq_false e]; rfl
/-- with two tops or more, none is as great as all -/
theorem more_tops {f : Nat → Nat} {S : List Nat} (hS : S ≠ []) (h : ∀ k, tops f S ≠ [k]) (hnd : S.Nodup) : (S.filter fun i => decide (f i = union f S)).length ≠ 1 := by
  intro h1
  obtain ⟨k, hk⟩ := List.length_eq_one_iff.mp h1
  have hkm : k ∈ S.filter fun i => decide (f i = union f S) := by rw [hk]; exact List.mem_singleton.mpr rfl
  obtain ⟨hkS, hku⟩ := List.mem_filter.mp hkm
  have hku : f k = union f S := of_decide_eq_true hku
  have all : ∀ j ∈ S, In (f j) (f k) := fun j hj => in_bits.mpr fun m hm => by
    rw [hku, union_bits]
    exact List.any_eq_true.mpr ⟨j, hj, hm⟩
  refine h k ?_
  have e : tops f S = S.filter fun i => decide (f i = union f S) := by
    unfold tops
    apply List.filter_congr
    intro i hi
    by_cases e : f i = f k
    · have hb : below f S i = false := by
        rw [← Bool.not_eq_true, below_iff]
        rintro ⟨j, hj, hne, hin⟩
        rw [e] at hne hin
        have h2 := in_le (all j hj)
        have h3 := in_le hin
        exact hne (Nat.le_antisymm h2 h3)
      rw [hb, decide_eq_true (e.trans hku)]; rfl
    · have hb : below f S i = true := below_iff.mpr ⟨k, hkS, fun z => e z.symm, all i hi⟩
      rw [hb, decide_eq_false (fun z => e (z.trans hku.symm))]; rfl
  rw [e, hk]
/-! ### the claims by their last numbers -/
section
variable {N : Type} [DecidableEq N]
def lastOf (x : Nat) : Option Nat := if x = 0 then none else some (Nat.log2 x)
def bitsAt (rows : List (N × Nat)) (k : Nat) : Nat := (rows[k]?.map (·.2)).getD 0
def nameIs (rows : List (N × Nat)) (nm : N) (k : Nat) : Bool := rows[k]?.any fun r => decide (r.1 = nm)
/-- the numbers of the claims of a name with such a last number -/
def bucket (rows : List (N × Nat)) (nm : N) (l : Option Nat) : List Nat := (List.range rows.length).filter fun k => nameIs rows nm k && decide (lastOf (bitsAt rows k) = l)
/-- the numbers of those that lie open -/
def opens (rows : List (N × Nat)) (nm : N) (b : Nat) : List Nat := (List.range rows.length).filter fun k => nameIs rows nm k && decide (In (bitsAt rows k) b)
theorem bitsAt_old {rows : List (N × Nat)} {r : N × Nat} {k : Nat} (h : k < rows.length) : bitsAt (rows ++ [r]) k = bitsAt rows k := by
  unfold bitsAt; rw [List.getElem?_append_left h]
theorem nameIs_old {rows : List (N × Nat)} {r : N × Nat} {nm : N} {k : Nat} (h : k < rows.length) : nameIs (rows ++ [r]) nm k = nameIs rows nm k := by
  unfold nameIs; rw [List.getElem?_append_left h]
theorem bucket_snoc (rows : List (N × Nat)) (r : N × Nat) (nm : N) (l : Option Nat) : bucket (rows ++ [r]) nm l = bucket rows nm l ++ (if r.1 = nm ∧ lastOf r.2 = l then [rows.length] else []) := by
  unfold bucket
  rw [List.length_append, List.length_singleton, List.range_succ, List.filter_append]
  congr 1
  · apply List.filter_congr
    intro k hk
    have := List.mem_range.mp hk
    rw [bitsAt_old this, nameIs_old this]
  · have e1 : bitsAt (rows ++ [r]) rows.length = r.2 := by unfold bitsAt; simp
    have e2 : nameIs (rows ++ [r]) nm rows.length = decide (r.1 = nm) := by unfold nameIs; simp
    rw [List.filter_cons, e1, e2, List.filter_nil]
    by_cases h1 : r.1 = nm <;> by_cases h2 : lastOf r.2 = l <;> simp [h1, h2]
theorem mem_bucket {rows : List (N × Nat)} {nm : N} {l : Option Nat} {k : Nat} : k ∈ bucket rows nm l ↔ k < rows.length ∧ nameIs rows nm k = true ∧ lastOf (bitsAt rows k) = l := by
  unfold bucket
  rw [List.mem_filter, List.mem_range, Bool.and_eq_true, decide_eq_true_eq]
theorem mem_opens {rows : List (N × Nat)} {nm : N} {b k : Nat} : k ∈ opens rows nm b ↔ k < rows.length ∧ nameIs rows nm k = true ∧ In (bitsAt rows k) b := by
  unfold opens
  rw [List.mem_filter, List.mem_range, Bool.and_eq_true, decide_eq_true_eq]
theorem opens_sorted (rows : List (N × Nat)) (nm : N) (b : Nat) : (opens rows nm b).Pairwise (· < ·) := List.Pairwise.filter _ List.pairwise_lt_range
theorem bucket_nodup (rows : List (N × Nat)) (nm : N) (l : Option Nat) : (bucket rows nm l).Nodup := List.Pairwise.filter _ List.nodup_range
/-- what open_to gathers -/
def gath (rows : List (N × Nat)) (nm : N) (b : Nat) (ls : List Nat) : List Nat := bucket rows nm none ++ ls.flatMap fun l => (bucket rows nm (some l)).filter fun k => decide (In (bitsAt rows k) b)
theorem log2_bit {x : Nat} (h : x ≠ 0) : x.testBit (Nat.log2 x) = true := Nat.testBit_log2 h
theorem mem_gath {rows : List (N × Nat)} {nm : N} {b : Nat} {ls : List Nat} (hls : ∀ m, m ∈ ls ↔ b.testBit m = true) {k : Nat} : k ∈ gath rows nm b ls ↔ k ∈ opens rows nm b := by
  unfold gath
  rw [List.mem_append, List.mem_flatMap, mem_bucket, mem_opens]
  constructor
  · rintro (⟨h1, h2, h3⟩ | ⟨l, hl, hk⟩)
    · refine ⟨h1, h2, ?_⟩
      unfold lastOf at h3
      by_cases e : bitsAt rows k = 0
      · rw [e]; unfold In; exact Nat.zero_and b
      · rw [if_neg e] at h3; cases h3
    · obtain ⟨hb, hin⟩ := List.mem_filter.mp hk
      obtain ⟨h1, h2, _⟩ := mem_bucket.mp hb
      exact ⟨h1, h2, of_decide_eq_true hin⟩
  · rintro ⟨h1, h2, h3⟩
    by_cases e : bitsAt rows k = 0
    · exact .inl ⟨h1, h2, by unfold lastOf; rw [if_pos e]⟩
    · right
      refine ⟨Nat.log2 (bitsAt rows k), (hls _).mpr (in_bits.mp h3 _ (log2_bit e)), List.mem_filter.mpr ⟨mem_bucket.mpr ⟨h1, h2, by unfold lastOf; rw [if_neg e]⟩, decide_eq_true h3⟩⟩
theorem gath_nodup {rows : List (N × Nat)} {nm : N} {b : Nat} {ls : List Nat} (hnd : ls.Nodup) : (gath rows nm b ls).Nodup := by
  unfold gath
  rw [List.nodup_append]
  refine ⟨bucket_nodup _ _ _, ?_, ?_⟩
  · induction ls with
    | nil => exact List.nodup_nil
    | cons l r ih =>
      obtain ⟨h1, h2⟩ := List.nodup_cons.mp hnd
      rw [List.flatMap_cons, List.nodup_append]
      refine ⟨List.Pairwise.filter _ (bucket_nodup _ _ _), ih h2, ?_⟩
      intro x hx y hy e
      subst e
      obtain ⟨l', hl', hy⟩ := List.mem_flatMap.mp hy
      have e1 := (mem_bucket.mp (List.mem_filter.mp hx).1).2.2
      have e2 := (mem_bucket.mp (List.mem_filter.mp hy).1).2.2
      rw [e1] at e2
      rw [Option.some.inj e2] at h1
      exact h1 hl'
  · intro x hx y hy e
    subst e
    obtain ⟨l', hl', hy⟩ := List.mem_flatMap.mp hy
    have e1 := (mem_bucket.mp hx).2.2
    have e2 := (mem_bucket.mp (List.mem_filter.mp hy).1).2.2
    rw [e1] at e2
    cases e2
end
end CM

set_option maxRecDepth 100000
set_option maxHeartbeats 4000000
namespace XC
open PySem PySem.W PySem.Calls PyProof.Rows
theorem slot_ga : Slot "ValueError" "__getattribute__" "BaseException.__getattribute__" :=
  Slot.of (owner := "BaseException") (n := "__getattribute__") (by rw [typeLookup_type, builtinLookup_eq_fast]; kernel_rfl) (by decide +kernel) (by decide +kernel) (by decide +kernel) (.inl (by decide +kernel)) (by rw [isSubtype_type]; kernel_rfl)
theorem ga_kind : builtinKind "BaseException.__getattribute__" = some .slot := by decide +kernel
theorem ga_split : splitId "BaseException.__getattribute__" = some ("BaseException", "__getattribute__") := by decide +kernel
section
variable {prog : Program} {w : World} {A : Around} {E : Value → Shared → Prop} {s : Shared} {K : Frag} {x C : Addr} {ox : Obj} {od : Option Obj} {name : Str} {expr : Bool} {Q : Value → Shared → Prop}
theorem isin_base {M : Model} {h : Heap} {B : Value} (X : K.In h) (I : InstAt h x ox C od) (hm : mroIn K C B = some true) : Looks M h (isInstance (.ref x) B) true := I.type.andThen (looks_mroIn X hm)
theorem exc_get {v : Value} (X : K.In s.heap) (I : InstAt s.heap x ox C od) (hga : findIn K (.ref C) "__getattribute__" = some (some (.builtin "BaseException.__getattribute__")))
    (hgn : findIn K (.ref C) "__getattr__" = some none) (hm : mroIn K C (.type "BaseException") = some true)
    (hf : findObj K C od name = some (.value v)) (hh : handedIn v = true) (h : Q v { s with toks := s.toks + 1 }) : wpAny (model prog w) A (getAttr (.ref x) name expr) Q E s := by
  obtain ⟨hp, g, d, t, os⟩ := s
  have L0 := I.type (M := model prog w)
  have L1 := looks_findIn (M := model prog w) X hga
  have L2 := looks_findIn (M := model prog w) X hgn
  have L3 := looks_find (M := model prog w) X I hf
  have hb := slot_ga.bind (.ref x)
  unfold getAttr getAttrBy
  refine wpAny_bind (wpAny_mkText (wpAny_holding (wpAny_bind (L0.at (wpAny_bind (L1.at ?_))))))
  have hx2 : (onTheHeap (Value.ref C) && Value.builtin "BaseException.__getattribute__" == Value.builtin "object.__getattribute__") = false := by
    rw [show (Value.builtin "BaseException.__getattribute__" == Value.builtin "object.__getattribute__") = false by decide +kernel]; rfl
  show wpAny _ _ (if (onTheHeap (Value.ref C) && Value.builtin "BaseException.__getattribute__" == Value.builtin "object.__getattribute__") = true then _ else _) _ _ _
  rw [hx2, if_neg Bool.false_ne_true]
  unfold getAttrByItsOwn
  refine wpAny_bind (L2.at ?_)
  refine wpAny_bind (wpAny_attempt ?_)
  refine wpAny_holding ?_
  unfold callGetattribute
  rw [show (expr && onTheHeap (Value.builtin "BaseException.__getattribute__")) = false by cases expr <;> rfl, if_neg Bool.false_ne_true]
  unfold boundAndCalled
  rw [hb]
  refine wpAny_bind (wpAny_pure (wpAny_call ?_))
  show codeAny _ _ (.call (.builtin "BaseException.__getattribute__") ⟨[.ref x, .str name t], []⟩) _ ⟨hp, g, d, t + 1, os⟩
  refine codeAny_call_builtin slot_ga.plain F.entry_bexc_ga (@check_slot (model prog w) _ _ ⟨hp, g, d, t + 1, os⟩ "BaseException.__getattribute__" "BaseException" "__getattribute__" (.ref x) [.str name t] [] _ ga_kind ga_split (isin_base X I hm) (F.args_bexc_ga (.ref x) (.str name t)) ?_)
  refine wpAny_bind (wpAny_pure (wpAny_bind (wpAny_pure (wpAny_bind (L0.at (wpAny_bind (L3.at ?_)))))))
  refine wpAny_pure ?_
  show wpAny _ _ (handedOut v) _ _ _
  rw [handedOut_of hh]; exact wpAny_pure h
end
end XC

set_option maxRecDepth 100000
set_option maxHeartbeats 4000000
namespace XC
open PySem PySem.W PySem.Calls PyProof.Rows
theorem vi_plain : plainId "ValueError.__init__" = true := by decide +kernel
theorem vi_kind : builtinKind "ValueError.__init__" = some .slot := by decide +kernel
theorem vi_split : splitId "ValueError.__init__" = some ("ValueError", "__init__") := by decide +kernel
theorem vi_row : Manifest.signature? "ValueError.__init__" = some ⟨.positional, "*", "ValueError", .self, [⟨"args", .varPos, false⟩]⟩ := by kernel_rfl
theorem vi_entry : entryFor table "ValueError.__init__" = some Builtin.«BaseException.__init__» :=
  entryFor_alias (id' := "BaseException.__init__") (by kernel_rfl) (by first | rfl | (unfold String.splitOn; simp +decide [String.splitOnAux])) (by decide +kernel) (by kernel_rfl)
/-- an exception object as it is made, t its arguments -/
abbrev newO (C t : Addr) (od : Option Addr) : Obj := { cls := .ref C, dict := od, data := .fields #[.ref t, .none, .none, .none, .bool false, .none] }
section
variable {prog : Program} {w : World} {A : Around} {E : Value → Shared → Prop} {s : Shared} {K : Frag} {x C t0 : Addr} {ox : Obj} {od : Option Obj} {name : Str} {expr : Bool} {Q : Value → Shared → Prop}
theorem vi_check {M : Model} {cd : ClassData} {rest : List Value} {R : Unit → Shared → Prop} (X : K.In s.heap) (I : s.heap.get? x = some ox) (hc : ox.cls = .ref C) (hm : mroIn K C (.type "ValueError") = some true) (hcd : clsIn K C = some cd)
    (h : R () s) : wpAny M A (checkBuiltinCall "ValueError.__init__" ⟨.ref x :: rest, []⟩) R E s := by
  obtain ⟨hp, g, d, t, os⟩ := s
  have L1 := looks_mroIn (M := M) X hm
  have L2 := looks_clsIn (M := M) X hcd
  have hshort : ("ValueError" == "*") = false := by decide
  simp only [checkBuiltinCall, vi_kind, vi_split, vi_row]
  repeat (first | (with_reducible refine wpAny_loadPart_at I ?_; rw [hc]) | with_reducible refine L1.at ?_ | with_reducible refine L2.at ?_ | wp_step)
  refine wpAny_onRaise ?_
  exact wpAny_of_eq (a := ()) (check_star_args _ _ _ _ _ _) h
theorem exc_init {u : Value} (X : K.In s.heap) (I : s.heap.get? x = some (newO C t0 none)) (hm : mroIn K C (.type "ValueError") = some true) {cd : ClassData} (hcd : clsIn K C = some cd)
    (h : ∀ h' t, (∀ b o, b ≠ x → s.heap.get? b = some o → h'.get? b = some o) → h'.get? x = some (newO C t none) → Q .none { s with heap := h' }) :
    wpAny (model prog w) A (call (.builtin "ValueError.__init__") [.ref x, u]) Q E s := by
  obtain ⟨hp, g, d, t, os⟩ := s
  have I' : InstAt hp x (newO C t0 none) C none := ⟨I, rfl, rfl, trivial⟩
  refine wpAny_call ?_
  refine codeAny_call_builtin vi_plain vi_entry (vi_check (s := ⟨hp, g, d, t, os⟩) X I rfl hm hcd ?_)
  have I2 : hp.get? x = some (newO C t0 none) := I
  have I3 := Heap.get?_push_of_some { cls := .type "tuple", data := .seq #[u] } I2
  unfold Builtin.«BaseException.__init__»
  wp_walk
  refine h _ hp.objs.size (fun b o nb e => ?_) ?_
  · rw [Heap.get?_update_other _ _ (Ne.symm nb)]
    exact Heap.get?_push_of_some _ e
  · rw [Heap.get?_update_self _ I3 rfl]
    rfl
end
end XC

set_option maxRecDepth 100000
set_option maxHeartbeats 4000000
namespace XC
open PySem PySem.W PySem.Calls PyProof.Rows Builtin.ObjectAttr
/-- own classes, then ValueError and what is above it -/
def excMro : List Value → Bool
  | .ref _ :: r => excMro r
  | [.type a, .type b, .type c, .type d] => a == "ValueError" && b == "Exception" && c == "BaseException" && d == "object"
  | _ => false
theorem refuse_vals (self : Value) : refuseLoop self "__setattr__" [.type "ValueError", .type "Exception", .type "BaseException", .type "object"] = pure () := by kernel_rfl
theorem refuse_exc (self : Value) : ∀ {l : List Value}, excMro l = true → refuseLoop self "__setattr__" l = pure ()
  | .ref c :: r, e => by rw [refuseLoop_ref]; exact refuse_exc self (by unfold excMro at e; exact e)
  | [.type a, .type b, .type c, .type d], e => by
    simp only [excMro, Bool.and_eq_true, beq_iff_eq] at e
    obtain ⟨⟨⟨rfl, rfl⟩, rfl⟩, rfl⟩ := e
    exact refuse_vals self
theorem exc_has : ∀ {l : List Value}, excMro l = true → l.contains (.type "object") = true ∧ l.isEmpty = false
  | .ref c :: r, e => ⟨by rw [List.contains_cons, (exc_has (l := r) (by unfold excMro at e; exact e)).1, Bool.or_true], rfl⟩
  | [.type a, .type b, .type c, .type d], e => by
    simp only [excMro, Bool.and_eq_true, beq_iff_eq] at e
    obtain ⟨⟨⟨rfl, rfl⟩, rfl⟩, rfl⟩ := e
    exact ⟨by decide, rfl⟩
section
variable {prog : Program} {w : World} {A : Around} {E : Value → Shared → Prop} {s : Shared} {K : Frag} {x C : Addr} {ox : Obj} {od : Option Obj} {name : Str} {R : Result → Shared → Prop}
theorem osa_exc {cd : ClassData} {tk : Tok} {v : Value} (X : K.In s.heap) (I : InstAt s.heap x ox C od) (hc : clsIn K C = some cd) (ho : excMro cd.mro = true) (ht : takerIn K C name = some none)
    (h : ∀ b, wpAny (model prog w) A.in1 (storeInOwnDict (.ref x) (.ref C) (.str name tk) name v b)
      (fun fin s' => match fin with | .done f => R (.ok f) s' | .again c' => c'.quiet = true ∧ codeAny (model prog w) A c' R s') (fun e s' => R (.error e) s') s) :
    codeAny (model prog w) A (.call (.builtin "object.__setattr__") ⟨[.ref x, .str name tk, v], []⟩) R s := by
  have SF := PySem.F.store_object
  obtain ⟨hb, ne⟩ := exc_has ho
  have sub : Looks (model prog w) s.heap (isInstance (.ref x) (.type "object")) true := isin_base X I (by unfold mroIn; rw [hc, Option.bind_some, if_neg (by rw [ne]; decide), hb])
  refine codeAny_call_builtin SF.slot.plain SF.entry (@check_slot (model prog w) _ _ s "object.__setattr__" "object" "__setattr__" (.ref x) [.str name tk, v] [] _ SF.kind SF.split sub (SF.args (.ref x) (.str name tk) v) ?_)
  obtain ⟨attr, ha, hr⟩ := Option.bind_eq_some_iff.mp ht
  have hm : Looks (model prog w) s.heap (mroOf (.ref C)) cd.mro := (looks_clsIn X hc).andThen .now
  have L3 : Looks (model prog w) s.heap (storeTaker? attr) none := by
    cases attr with
    | none => exact .now
    | some a =>
      obtain ⟨b, hb, hz⟩ := Option.map_eq_some_iff.mp hr
      refine (looks_takesIn X hb).andThen ?_
      cases b
      · exact .now
      · cases hz
  rw [osa_eq, refuse_eq]
  refine wpAny_bind (wpAny_bind (I.type.here (wpAny_bind (hm.here ?_))))
  rw [refuse_exc _ ho]
  refine wpAny_pure (wpAny_bind (I.type.here (wpAny_bind ((looks_findIn X ha).here (wpAny_bind (L3.here ?_))))))
  exact h _
/-- what a class of exceptions must tell -/
structure ECls (K : Frag) (C : Addr) : Prop where
  cls : ∃ cd, clsIn K C = some cd ∧ excMro cd.mro = true ∧ cd.hasDict = true
  sa : findIn K (.ref C) "__setattr__" = some (some (.builtin "object.__setattr__"))
  ga : findIn K (.ref C) "__getattribute__" = some (some (.builtin "BaseException.__getattribute__"))
  gn : findIn K (.ref C) "__getattr__" = some none
abbrev excO (C : Addr) (od : Option Addr) (vs : Array Value) : Obj := { cls := .ref C, dict := od, data := .fields vs }
theorem exc_set1 {vs : Array Value} {v : Value} {Q : Unit → Shared → Prop} (X : K.In s.heap) (c : ECls K C) (I : s.heap.get? x = some (excO C none vs)) (ht : takerIn K C name = some none)
    (h : ∀ h' dx, s.heap.objs.size = dx → (∀ b o, b ≠ x → s.heap.get? b = some o → h'.get? b = some o) → h'.get? x = some (excO C (some dx) vs) → h'.Ns1 dx (fun y => if y = name then some v else none) → Q () { s with heap := h', toks := s.toks + 2 }) :
    wpAny (model prog w) A (setAttr (.ref x) name v) Q E s := by
  obtain ⟨cd, hc, ho, hd⟩ := c.cls
  have J : InstAt s.heap x (excO C none vs) C none := ⟨I, rfl, rfl, trivial⟩
  refine set_plain X J c.sa (osa_exc (s := { s with toks := s.toks + 1 }) X J hc ho ht fun b => ?_)
  refine wpAny_bind (wpAny_pure (wpAny_bind (wpAny_bind (wpAny_loadPart I (wpAny_bind (Looks.here (s := { s with toks := s.toks + 1 }) (looks_clsIn X hc) ?_))))))
  rw [hd]
  have e1 : (s.heap.push { cls := .type "dict", data := .dict #[] }).get? s.heap.objs.size = some { cls := .type "dict", data := .dict #[] } := Heap.get?_push_size _ rfl
  have e2 := Heap.get?_push_of_some { cls := .type "dict", data := .dict #[] } I
  have hne : s.heap.objs.size ≠ x := fun z => absurd (Heap.lt_size I) (by rw [z]; exact Nat.lt_irrefl _)
  show wpAny _ _ (do let d ← alloc { cls := .type "dict", data := .dict #[] }; update x fun o => { cls := o.cls, dict := some d, data := o.data, slots := o.slots }; dictMade (.ref C) x d) _ _ _
  refine wpAny_bind (wpAny_alloc (wpAny_bind (wpAny_update e2 (wpAny_pure ?_))))
  refine wpAny_bind (wpAny_pure (wpAny_bind ?_))
  have n3 : ((s.heap.push { cls := .type "dict", data := .dict #[] }).update x fun o => { cls := o.cls, dict := some s.heap.objs.size, data := o.data, slots := o.slots }).Ns1 s.heap.objs.size (fun _ => none) := by
    refine Heap.Ns1.of_empty ⟨{ cls := .type "dict", data := .dict #[] }, #[], _, ?_, rfl, (fun e he => absurd he (by simp)), fun _ => rfl⟩
    rw [Heap.get?_update_other _ _ (Ne.symm hne)]; exact e1
  refine wpAny_nsSet1 (s := ⟨_, s.gens, s.drawn, s.toks + 1, s.os⟩) n3 fun h' hn2 hs2 => ?_
  obtain ⟨oD, esD, epD, hoD, hdD, hcD⟩ := hn2.count (PySem.Within.cons name v (ns := []) (m := fun _ => none) (fun y hy => absurd rfl hy))
  refine wpAny_bind (wpAny_lookBehind hoD (by rw [hdD]; exact pastItsLine_dict (Nat.le_trans hcD (by rw [sizeLine_eq]; show 1 ≤ _; decide))) ?_)
  refine wpAny_pure (h _ _ rfl (fun b o nb e => ?_) ?_ hn2)
  · have hb : b ≠ s.heap.objs.size := Nat.ne_of_lt (Heap.lt_size e)
    rw [hs2.2 _ hb, Heap.get?_update_other _ _ (Ne.symm nb)]
    exact Heap.get?_push_of_some _ e
  · rw [hs2.2 _ (Ne.symm hne), Heap.get?_update_self _ e2 rfl]
theorem exc_set2 {vs : Array Value} {v : Value} {dx : Addr} {mA : Str → Option Value} {ns : List Str} {Q : Unit → Shared → Prop} (X : K.In s.heap) (c : ECls K C) (I : s.heap.get? x = some (excO C (some dx) vs)) (N : s.heap.Ns1 dx mA) (hne : dx ≠ x) (ht : takerIn K C name = some none)
    (hw : PySem.Within mA ns) (hsz : ns.length ≤ sizeLine)
    (h : ∀ h', (∀ b o, b ≠ dx → s.heap.get? b = some o → h'.get? b = some o) → h'.Ns1 dx (fun y => if y = name then some v else mA y) → Q () { s with heap := h', toks := s.toks + 2 }) :
    wpAny (model prog w) A (setAttr (.ref x) name v) Q E s := by
  obtain ⟨cd, hc, ho, hd⟩ := c.cls
  obtain ⟨oD, es, ep, hoD, hr⟩ := id N
  have J : InstAt s.heap x (excO C (some dx) vs) C (some oD) := ⟨I, rfl, rfl, hoD⟩
  refine set_plain X J c.sa (osa_exc (s := { s with toks := s.toks + 1 }) X J hc ho ht fun b => ?_)
  refine wpAny_bind (wpAny_pure (wpAny_bind (wpAny_bind (wpAny_loadPart I (wpAny_bind (Looks.here (s := { s with toks := s.toks + 1 }) (looks_clsIn X hc) ?_))))))
  rw [hd]
  refine wpAny_pure (a := some dx) (wpAny_bind (wpAny_pure (wpAny_bind ?_)))
  refine wpAny_nsSet1 (s := { s with toks := s.toks + 1 }) N fun h' hn2 hs2 => ?_
  obtain ⟨oD, esD, epD, hoD, hdD, hcD⟩ := hn2.count (PySem.Within.cons name v hw)
  refine wpAny_bind (wpAny_lookBehind hoD (by rw [hdD]; exact pastItsLine_dict (Nat.le_trans hcD (by rw [List.length_cons]; omega))) ?_)
  exact wpAny_pure (h _ (fun b o nb e => (hs2.2 _ nb).trans e) hn2)
end
end XC

set_option maxRecDepth 100000
set_option maxHeartbeats 4000000
namespace XC
open PySem PySem.W PySem.Calls PyProof.Rows
theorem FV : ExcBaseFacts "ValueError" "ValueError.__new__" "ValueError.__init__" [.type "ValueError", .type "Exception", .type "BaseException", .type "object"] := PySem.F.excBase_ValueError
/-- own classes over ValueError: what is above is above -/
theorem mro_types : ∀ {l : List Value}, excMro l = true → l.contains (.type "ValueError") = true ∧ l.contains (.type "BaseException") = true ∧ l.contains (.type "AttributeError") = false ∧ l.contains (.type "NameError") = false ∧ l.contains (.type "tuple") = false
  | .ref c :: r, e => by
    obtain ⟨a1, a2, a3, a4, a5⟩ := mro_types (l := r) (by unfold excMro at e; exact e)
    refine ⟨?_, ?_, ?_, ?_, ?_⟩
    · rw [List.contains_cons, a1, Bool.or_true]
    · rw [List.contains_cons, a2, Bool.or_true]
    · rw [List.contains_cons, a3]; rfl
    · rw [List.contains_cons, a4]; rfl
    · rw [List.contains_cons, a5]; rfl
  | [.type a, .type b, .type c, .type d], e => by
    simp only [excMro, Bool.and_eq_true, beq_iff_eq] at e
    obtain ⟨⟨⟨rfl, rfl⟩, rfl⟩, rfl⟩ := e
    decide
section
variable {prog : Program} {w : World} {M : Model} {A : Around} {E : Value → Shared → Prop} {h : Heap} {g : Array GenState} {d : Drawn} {t : Nat} {os : OsState}
variable {nm q : Str} {C N : Addr} {bs bm : List Value} {hdct : Bool} {sn : List Str} {sub : List Value} {ab : Bool} {col : Option Bool} {dd : Option Addr} {k0 k1 k2 k3 k5 : Option Value}
theorem new_check {us : List Value} {Q : Unit → Shared → Prop} (hC : h.get? C = some (excClassObj nm q C N bs bm hdct sn sub ab col dd k0 k1 k2 k3 k5 "ValueError.__new__")) (hmr : excMro (.ref C :: bm) = true)
    (hq : Q () ⟨h, g, d, t, os⟩) : wpAny M A (checkBuiltinCall "ValueError.__new__" ⟨.ref C :: us, []⟩) Q E ⟨h, g, d, t, os⟩ := by
  have hv := (mro_types hmr).1
  have hstar := FV.noStar
  simp only [checkBuiltinCall, FV.newKind, FV.newSplit, FV.newRow]
  repeat (first
    | refine wpAny_loadPart_at hC ?_
    | (refine wpAny_isSubtype_exc hC ?_; rw [hv])
    | refine wpAny_staticBase_exc hC ?_
    | refine wpAny_madeBy_exc hC ?_
    | simp only [bne_self_eq_false, Bool.false_eq_true, if_false]
    | wp_step)
  exact hq
theorem new_run {us : List Value} {R : Result → Shared → Prop} (hC : h.get? C = some (excClassObj nm q C N bs bm hdct sn sub ab col dd k0 k1 k2 k3 k5 "ValueError.__new__")) (hmr : excMro (.ref C :: bm) = true) (hlen : us.length ≤ sizeLine)
    (hq : R (.ok (.ret (.ref (h.objs.size + 1)))) ⟨(h.push { cls := .type "tuple", data := .seq us.toArray }).push (newO C h.objs.size none), g, d, t, os⟩) :
    codeAny (model prog w) A (.builtin "ValueError.__new__" ⟨.ref C :: us, []⟩) R ⟨h, g, d, t, os⟩ := by
  obtain ⟨hv, _, ha, hn, _⟩ := mro_types hmr
  have hends := FV.ends
  refine codeAny_builtinAt FV.entry ?_
  unfold Builtin.«BaseException.__new__»
  refine PySem.wpAt_bind ?_
  show PySem.wpAt _ _ _ (stack >>= _) _ _ _
  refine PySem.wpAt_bind (PySem.wpAt_stack fun p below => PySem.wpAt_of_wpAny ?_)
  wp_walk
  refine PySem.wpAt_of_wpAny ?_
  rw [FV.owner]
  repeat (first
    | with_reducible refine wpAny_madeHere_exc FV.canon hC ?_
    | with_reducible refine wpAny_loadPart_at hC ?_
    | (with_reducible refine wpAny_isSubtype_exc hC ?_; first | rw [hv] | rw [ha] | rw [hn])
    | wp_step)
  show R _ _
  rw [Heap.size_push]
  exact hq
theorem type_call {K : Frag} {fI : Addr} {us : List Value} {Q : Fin → Shared → Prop} (X : K.In h) (hC : h.get? C = some (excClassObj nm q C N bs bm hdct sn sub ab col dd k0 k1 k2 k3 k5 "ValueError.__new__")) (hmr : excMro (.ref C :: bm) = true) (hlen : us.length ≤ sizeLine)
    (hi : findIn K (.ref C) "__init__" = some (some (.ref fI))) (hf : typeIn K (.ref fI) = some (.type "function"))
    (hq : wpAny (model prog w) A (call (.ref fI) (.ref (h.objs.size + 1) :: us)) (fun r s' => r = .none ∧ Q (.done (.ret (.ref (h.objs.size + 1)))) s') E
      ⟨(h.push { cls := .type "tuple", data := .seq us.toArray }).push (newO C h.objs.size none), g, d, t, os⟩) :
    wpAny (model prog w) A (Builtin.«type.__call__» ⟨.ref C :: us, []⟩) Q E ⟨h, g, d, t, os⟩ := by
  repeat (first
    | with_reducible refine wpAny_loadPart_at hC ?_
    | with_reducible refine wpAny_madeBy_exc hC ?_
    | wp_step)
  refine codeAny_call_builtin_code (Code.quiet_builtin _ FV.quiet) (new_check hC hmr ?_)
  refine new_run hC hmr hlen ?_
  show wpAny _ _ _ _ _ _
  have kp : ∀ b o, h.get? b = some o → ((h.push { cls := .type "tuple", data := .seq us.toArray }).push (newO C h.objs.size none)).get? b = some o := fun b o e => Heap.get?_push_of_some _ (Heap.get?_push_of_some _ e)
  have hC1 := kp _ _ hC
  have X1 := X.keeps kp
  have hget : ((h.push { cls := .type "tuple", data := .seq us.toArray }).push (newO C h.objs.size none)).get? (h.objs.size + 1) = some (newO C h.objs.size none) := by heap_get
  have hcC : (Value.ref C :: bm).contains (.ref C) = true := by simp
  unfold isInstance
  repeat (first
    | with_reducible refine wpAny_loadPart_at hget ?_
    | (with_reducible refine wpAny_isSubtype_exc hC1 ?_; rw [hcC])
    | wp_step)
  show wpAny _ _ (typeLookup (.ref C) _) _ _ _
  refine (looks_findIn (M := model prog w) X1 hi).at ?_
  refine wpAny_holding (wpAny_bind ((bind_fn (M := model prog w) X1 _ hf).at ?_))
  refine wpAny_bind (wpAny_mono hq (fun r s' hr => ?_) fun _ _ z => z)
  obtain ⟨rfl, hQ⟩ := hr
  wp_walk
  exact hQ
theorem exc_call {K : Frag} {fI : Addr} {us : List Value} {Q : Value → Shared → Prop} (X : K.In h) (hC : h.get? C = some (excClassObj nm q C N bs bm hdct sn sub ab col dd k0 k1 k2 k3 k5 "ValueError.__new__")) (hmr : excMro (.ref C :: bm) = true) (hlen : us.length ≤ sizeLine)
    (hi : findIn K (.ref C) "__init__" = some (some (.ref fI))) (hf : typeIn K (.ref fI) = some (.type "function"))
    (hq : wpAny (model prog w) (A.under (.builtin "type.__call__" ⟨.ref C :: us, []⟩)) (call (.ref fI) (.ref (h.objs.size + 1) :: us)) (fun r s' => r = .none ∧ Q (.ref (h.objs.size + 1)) s') E
      ⟨(h.push { cls := .type "tuple", data := .seq us.toArray }).push (newO C h.objs.size none), g, d, t, os⟩) :
    wpAny (model prog w) A (call (.ref C) us) Q E ⟨h, g, d, t, os⟩ := by
  have f1 := tc_lookup
  have f2 := tc_bind (.ref C)
  have hT : (⟨h, g, d, t, os⟩ : Shared).TypeIs (.ref C) "type" := ⟨_, hC, rfl⟩
  refine wpAny_call (codeAny_of_tree ?_)
  show wpAny _ _ (callAny (.ref C) _) _ _ _
  repeat (any_goals (first
    | assumption
    | with_reducible refine wpAny_loadPart_at hC ?_
    | wp_step))
  refine ⟨rfl, ?_⟩
  refine codeAny_call_builtin_at (Code.quiet_builtin _ (by decide +kernel)) entry_typeCall (wpAny_check_type_call_sub hC (type_call X hC hmr hlen hi hf ?_))
  exact hq
end
end XC

set_option maxRecDepth 100000
set_option maxHeartbeats 4000000
namespace XC
open PySem PySem.W PySem.Calls PyProof.Rows
section
variable {M : Model} {A : Around} {E : Value → Shared → Prop} {env : Env} {s : Shared}
/-- an own class of exceptions, as it lies -/
def ClsAt (h : Heap) (C : Addr) : Prop := ∃ nm q N bs bm hdct sn sub ab col dd k0 k1 k2 k3 k5, h.get? C = some (excClassObj nm q C N bs bm hdct sn sub ab col dd k0 k1 k2 k3 k5 "ValueError.__new__") ∧ excMro (.ref C :: bm) = true
theorem raise_stmt {x : Sem Value} {Q : Flow → Shared → Prop} (hh : A.handled = none)
    (h : wpAny M A x (fun v s₁ => ∃ e C od vs, v = .ref e ∧ ClsAt s₁.heap C ∧ s₁.heap.get? e = some (excO C od vs) ∧ vs[1]? = some .none ∧ E (.ref e) s₁) E s) : wpAny M A (raiseStmt env (some x) none) Q E s := by
  unfold raiseStmt
  refine wpAny_bind (wpAny_mono h (fun v s₁ h₁ => ?_) fun _ _ z => z)
  obtain ⟨e, C, od, vs, rfl, ⟨nm, q, N, bs, bm, hdct, sn, sub, ab, col, dd, k0, k1, k2, k3, k5, hC, hmr⟩, he, h1, hE⟩ := h₁
  obtain ⟨_, hb, _⟩ := mro_types hmr
  obtain ⟨hp, g, d, tk, os⟩ := s₁
  repeat (first
    | with_reducible refine wpAny_loadPart_at he ?_
    | with_reducible refine wpAny_loadPart_at hC ?_
    | (with_reducible refine wpAny_isSubtype_exc hC ?_; rw [hb])
    | wp_step)
  rw [h1]
  refine wpAny_pure ?_
  rw [if_neg (by decide)]
  exact wpAny_pure (wpAny_raiseNew_none hh hE)
theorem raise_exec {x : Expr} {pos : Pos} {Q : Flow → Shared → Prop} (hh : A.handled = none)
    (h : wpAny M A (eval x env) (fun v s₁ => ∃ e C od vs, v = .ref e ∧ ClsAt s₁.heap C ∧ s₁.heap.get? e = some (excO C od vs) ∧ vs[1]? = some .none ∧ E (.ref e) s₁) E s) : wpAny M A (exec (.Raise (some x) none pos) env) Q E s := by
  rw [arm_exec_Raise]
  first
    | exact wpAny_bind (wpAny_standAt (raise_stmt hh (wpAny_bind (wpAny_mono h (fun v s₁ h₁ => wpAny_bind (wpAny_standAt (wpAny_pure h₁))) fun _ _ z => z))))
    | (simp only [evalOpt, Option.map]
       exact wpAny_bind (wpAny_standAt (raise_stmt hh (wpAny_bind (wpAny_mono h (fun v s₁ h₁ => wpAny_bind (wpAny_standAt (wpAny_pure h₁))) fun _ _ z => z)))))
end
end XC

set_option maxRecDepth 100000
set_option maxHeartbeats 4000000
namespace XC
open PySem PySem.W PySem.Calls PyProof.Rows
abbrev frsE (l : List Env) : List Addr := l.filterMap (·.frame)
/-- an exception on its way: its object, its last entry -/
structure Fly (h : Heap) (x C : Addr) (od : Option Addr) (T : Addr) : Prop where
  ob : ∃ vs, h.get? x = some (excO C od vs) ∧ vs.size = 6 ∧ vs[1]? = some (.ref T)
  ne : T ≠ x
  tb : ∃ oT ts, h.get? T = some oT ∧ oT.data = .fields ts ∧ ts[3]? = some .none
section
variable {M : Model} {A : Around} {E : Value → Shared → Prop} {s : Shared}
theorem entry_ok {base : Heap} {env : Env} {outer : List Env} {L x C : Addr} {od : Option Addr} {vs : Array Value} {head : Value} {hadNext : Bool} {Q : Unit → Shared → Prop}
    (hfr : A.frames = some (env :: outer)) (hl : s.heap.FunFrames base (env :: outer)) (hf : env.frame = some L) (he : s.heap.get? x = some (excO C od vs)) (hsz : vs.size = 6)
    (h : ∀ h' T, s.heap.objs.size ≤ T → Fly h' x C od T → (∀ b o, s.heap.get? b = some o → b ≠ x → b ∉ frsE (env :: outer) → h'.get? b = some o) → (∀ b o, s.heap.get? b = some o → b ≠ x → ∃ sl, h'.get? b = some { o with slots := sl }) → Q () { s with heap := h' }) :
    wpAny M A (do let a ← frameOf env; let pl ← entryPlaceOf L hadNext; let b ← EntryCells.newEntry head a .none (rawInt L) .none pl; setField (.ref x) 1 b)
      (fun _ s' => wpAny M A (setFlight (.ref x) none) Q E s') E s := by
  have hxn : x ∉ frsE (env :: outer) := fun hm => by
    obtain ⟨_, o, ho, hnf⟩ := hl.mem hm
    rw [he] at ho
    cases ho
    exact hnf vs rfl
  refine wpAny_bind (wpAny_frameOf_fun hfr hl hf fun h1 hs1 => ?_)
  refine wpAny_bind (wpAny_entryPlaceOf fun pl hpl => ?_)
  unfold EntryCells.newEntry newFields
  refine wpAny_bind (wpAny_newObj_type ?_ (hpl.sizeOk5 _ _ _ _ _))
  have he1 : h1.get? x = some (excO C od vs) := (hs1.2.1 x hxn).trans he
  generalize hot : ({ cls := .type "traceback", dict := none, data := .fields ([head, .ref L, .none, rawInt L, .none] ++ (if pl.isEmpty then List.replicate 6 Value.none else pl)).toArray } : Obj) = ot
  have he2 : (h1.push ot).get? x = some (excO C od vs) := Heap.get?_push_of_some ot he1
  have h1sz : 1 < vs.size := by omega
  refine wpAny_setField he2 rfl h1sz ?_
  have hTx : h1.objs.size ≠ x := Nat.ne_of_gt (Heap.lt_size he1)
  have hd3 := Obj.data_mapFields (o := excO C od vs) rfl (·.setIfInBounds 1 (Value.ref h1.objs.size))
  have he3 := Heap.get?_update_self (Obj.mapFields (·.setIfInBounds 1 (Value.ref h1.objs.size))) he2 (Obj.isFreed_of_fields hd3)
  have hT3 : ((h1.push ot).update x (Obj.mapFields (·.setIfInBounds 1 (Value.ref h1.objs.size)))).get? h1.objs.size = some ot := by
    rw [Heap.get?_update_other _ _ (Ne.symm hTx)]
    exact Heap.get?_push_size h1 (by rw [← hot]; rfl)
  unfold setFlight
  refine wpAny_bind (wpAny_field he3 hd3 (x := .ref h1.objs.size) (by simp [h1sz]) ?_)
  rw [if_pos (show (Value.ref h1.objs.size != Value.none) = true from by simp)]
  have hdT : ot.data = .fields ([head, .ref L, .none, rawInt L, .none] ++ (if pl.isEmpty then List.replicate 6 Value.none else pl)).toArray := by rw [← hot]
  refine wpAny_setField hT3 hdT (by simp only [List.size_toArray, List.length_append, List.length_cons, List.length_nil] <;> omega) ?_
  have keep : ∀ b o, b ≠ x → h1.get? b = some o →
      (((h1.push ot).update x (Obj.mapFields (·.setIfInBounds 1 (Value.ref h1.objs.size)))).update h1.objs.size (Obj.mapFields (·.setIfInBounds 3 ((none : Option Addr).elim Value.none fun f => rawInt f)))).get? b = some o := fun b o nb e => by
    rw [Heap.get?_update_other _ _ (Nat.ne_of_gt (Heap.lt_size e)), Heap.get?_update_other _ _ (Ne.symm nb)]
    exact Heap.get?_push_of_some _ e
  refine h _ h1.objs.size (Nat.le_of_eq hs1.1.symm) ⟨⟨vs.setIfInBounds 1 (.ref h1.objs.size), ?_, by rw [Array.size_setIfInBounds]; exact hsz, by simp [h1sz]⟩, hTx, ⟨_, _, Heap.get?_update_self _ hT3 (Obj.isFreed_of_fields (Obj.data_mapFields hdT _)), Obj.data_mapFields hdT _, ?_⟩⟩ (fun b o e nb nf => ?_) (fun b o e nb => ?_)
  · rw [Heap.get?_update_other _ _ hTx]; exact he3
  · first | (simp; done) | (rcases hpl with rfl | ⟨_, _, _, _, _, _, _, rfl⟩ <;> simp)
  · exact keep b o nb ((hs1.2.1 b nf).trans e)
  · obtain ⟨sl, e'⟩ := hs1.2.2 b o e
    exact ⟨sl, keep b _ nb e'⟩
/-- what leaving a frame does -/
def Lft (env : Env) (outer : List Env) (x C : Addr) (od : Option Addr) (T : Addr) (h h' : Heap) : Prop :=
  h.objs.size ≤ T ∧ Fly h' x C od T ∧ (∀ b o, h.get? b = some o → b ≠ x → b ∉ frsE (env :: outer) → h'.get? b = some o) ∧ ∀ b o, h.get? b = some o → b ≠ x → ∃ sl, h'.get? b = some { o with slots := sl }
theorem note_first {base : Heap} {env : Env} {outer : List Env} {L x C : Addr} {od : Option Addr} {vs : Array Value} {Q : Unit → Shared → Prop}
    (hfr : A.frames = some (env :: outer)) (hl : s.heap.FunFrames base (env :: outer)) (hf : env.frame = some L) (he : s.heap.get? x = some (excO C od vs)) (hsz : vs.size = 6) (h1 : vs[1]? = some .none)
    (h : ∀ h' T, Lft env outer x C od T s.heap h' → Q () { s with heap := h' }) : wpAny M A (noteFrame (.ref x) env) (fun _ s' => wpAny M A (setFlight (.ref x) none) Q E s') E s := by
  unfold noteFrame
  simp only [hf]
  refine wpAny_bind (wpAny_field he rfl h1 ?_)
  rw [if_neg (by decide)]
  exact entry_ok hfr hl hf he hsz fun h' T a b c d => h h' T ⟨a, b, c, d⟩
theorem set_same {ts : Array Value} {i : Nat} {v : Value} (h : ts[i]? = some v) : ts.setIfInBounds i v = ts := by
  apply Array.ext
  · simp
  · intro j h1 h2
    rw [Array.getElem_setIfInBounds]
    split
    · rename_i e
      subst e
      rw [Array.getElem?_eq_getElem h2] at h
      exact (Option.some.inj h).symm
    · rfl
theorem map_same {o : Obj} {ts : Array Value} {i : Nat} {v : Value} (hd : o.data = .fields ts) (h : ts[i]? = some v) : Obj.mapFields (·.setIfInBounds i v) o = o := by
  obtain ⟨c, d, dt, sl⟩ := o
  cases hd
  show ({ cls := c, dict := d, data := .fields (ts.setIfInBounds i v), slots := sl } : Obj) = _
  rw [set_same h]
theorem note_next {base : Heap} {env : Env} {outer : List Env} {L x C T0 : Addr} {od : Option Addr} {Q : Unit → Shared → Prop}
    (hfr : A.frames = some (env :: outer)) (hl : s.heap.FunFrames base (env :: outer)) (hf : env.frame = some L) (hfly : Fly s.heap x C od T0)
    (h : ∀ h' T, Lft env outer x C od T s.heap h' → Q () { s with heap := h' }) : wpAny M A (noteFrame (.ref x) env) (fun _ s' => wpAny M A (setFlight (.ref x) none) Q E s') E s := by
  obtain ⟨⟨vs, he, hsz, h1⟩, hTx, oT, ts, hT, hdT, h3⟩ := hfly
  unfold noteFrame
  simp only [hf]
  refine wpAny_bind (wpAny_field he rfl h1 ?_)
  rw [if_pos (show (Value.ref T0 != Value.none) = true from by simp)]
  refine wpAny_bind (wpAny_field hT hdT h3 ?_)
  rw [if_neg (show ¬ ((Value.none == rawInt L) = true) from by simp [rawInt])]
  refine wpAny_bind (wpAny_setField hT hdT (Array.getElem?_eq_some_iff.mp h3).1 ?_)
  have same : ∀ b o, s.heap.get? b = some o → (s.heap.update T0 (Obj.mapFields (·.setIfInBounds 3 Value.none))).get? b = some o := fun b o e => by
    by_cases z : b = T0
    · subst z
      rw [hT] at e; cases e
      rw [Heap.get?_update_self _ hT (Obj.isFreed_of_fields (Obj.data_mapFields hdT _)), map_same hdT h3]
    · rw [Heap.get?_update_other _ _ (Ne.symm z)]; exact e
  refine entry_ok (s := { s with heap := s.heap.update T0 (Obj.mapFields (·.setIfInBounds 3 Value.none)) }) hfr (hl.of_keeps fun b o e nf => ⟨o, same b o e, rfl⟩) hf (same x _ he) hsz fun h' T a b c d =>
    h h' T ⟨Nat.le_trans (Nat.le_of_eq (Heap.size_after_update ..).symm) a, b, fun b o e nb n2 => c b o (same b o e) nb n2, fun b o e nb => d b o (same b o e) nb⟩
end
end XC

set_option maxRecDepth 100000
set_option maxHeartbeats 4000000
namespace XC
open PySem PySem.W PySem.Calls PyProof.Rows
abbrev E0x : Value → Shared → Prop := fun _ _ => False
section
variable {M : Model} {A : Around} {E : Value → Shared → Prop} {env : Env} {s : Shared}
theorem matches_own {x C CH : Addr} {od : Option Addr} {vs : Array Value} {Q : Bool → Shared → Prop} (hC : ClsAt s.heap C) (hH : ClsAt s.heap CH) (hx : s.heap.get? x = some (excO C od vs))
    (hs : Looks M s.heap (isSubtype (.ref C) (.ref CH)) true) (hq : Q true s) : wpAny M A (excMatches (.ref x) (.ref CH)) Q E s := by
  obtain ⟨nm, q, N, bs, bm, hdct, sn, sub, ab, col, dd, k0, k1, k2, k3, k5, hC, hmr⟩ := hC
  obtain ⟨nm', q', N', bs', bm', hdct', sn', sub', ab', col', dd', l0, l1, l2, l3, l5, hH, hmr'⟩ := hH
  obtain ⟨_, hb', _⟩ := mro_types hmr'
  obtain ⟨hp, g, d, t, os⟩ := s
  have f := tc_notTuple
  unfold excMatches
  repeat (first
    | (with_reducible refine wpAny_loadPart_at hx ?_)
    | with_reducible refine wpAny_loadPart_at hH ?_
    | (with_reducible refine wpAny_isSubtype_exc hH ?_; rw [hb'])
    | with_reducible refine hs.at ?_
    | wp_step)
  exact hq
end
section
variable {prog : Program} {w : World} {A : Around} {E : Value → Shared → Prop} {s : Shared} {env : Env}
theorem handle_as {x : Addr} {CH C : Addr} {t : Expr} {n : Str} {b0 : Stmt} {suite : List Stmt} {pos : Pos} {rest : List ExceptHandler} {Q : Flow → Shared → Prop}
    (h : wpAny (model prog w) (A.mark (some (.ref x))) (eval t env) (fun c s₁ => c = .ref CH ∧ ClsAt s₁.heap C ∧ ClsAt s₁.heap CH ∧ (∃ od vs, s₁.heap.get? x = some (excO C od vs)) ∧ Looks (model prog w) s₁.heap (isSubtype (.ref C) (.ref CH)) true ∧
      wpAny (model prog w) (A.mark (some (.ref x))) (setFlight (.ref x) none) (fun _ s₂ =>
        wpAny (model prog w) (A.mark (some (.ref x))) (storeName env n (.ref x)) (fun _ s₃ =>
          wpAny (model prog w) (A.mark (some (.ref x))) (execs (b0 :: suite) env)
            (fun f s₄ => wpAny (model prog w) A (do bindName env n .none; unbindBehindTheSuite env n pos) (fun _ s₅ => Q f s₅) E s₄) E0x s₃) E0x s₂) E0x s₁) E0x s) :
    wpAny (model prog w) A (handleBy (.ref x) env (.ExceptHandler (some t) (some n) (b0 :: suite) pos :: rest)) Q E s := by
  refine wpAny_handleBy_cons (codeAny_handlers_test (wpAny_mono h (fun c s₁ h₁ => ?_) fun _ _ z => z.elim)) (by intro z; cases z)
  obtain ⟨rfl, hC, hH, ⟨od, vs, hx⟩, hs, hk⟩ := h₁
  refine matches_own hC hH hx hs ?_
  exact codeAny_handlers_suite_as (wpAny_mono hk (fun _ s₂ h₂ => wpAny_mono h₂ (fun _ s₃ h₃ => wpAny_mono h₃ (fun f s₄ h₄ => h₄) fun _ _ z => z.elim) fun _ _ z => z.elim) fun _ _ z => z.elim)
end
end XC

set_option Elab.async false
set_option linter.all false
set_option maxRecDepth 100000
set_option maxHeartbeats 4000000
/-! Exceptions in the hand layer: their objects in the abstract heap, made, given attributes, raised, passed on, caught. Own work. -/
namespace L2
open PySem PySem.Spec PyProof.Rows XC
/-- the dict of an exception -/
def dxO (dx : Addr) (fs : List (Str × V)) : HO := .ext fun h => ∃ mA, h.Ns1 dx mA ∧ (∀ f, RelO (fs.lookup f) (mA f)) ∧ PySem.Within mA (fs.map (·.1))
/-- an exception that is made, not raised -/
def exN (x C : Addr) (od : Option Addr) : HO := .ext fun h => ∃ t, h.get? x = some (newO C t od)
/-- an exception -/
def exO (x C : Addr) (od : Option Addr) : HO := .ext fun h => ∃ vs, h.get? x = some (excO C od vs) ∧ vs.size = 6
section
variable {P : Program} {w : World} {H : Hp} {h : Heap} {x C dx : Addr} {od : Option Addr} {fs : List (Str × V)}
theorem exN_ok {t : Addr} (e : h.get? x = some (newO C t od)) : ObjOk P w H h x (exN x C od) := ⟨⟨t, e⟩, ⟨_, e⟩, fun h1 h2 ⟨t, q⟩ k => ⟨t, k _ q⟩⟩
theorem exO_ok {vs : Array Value} (e : h.get? x = some (excO C od vs)) (hs : vs.size = 6) : ObjOk P w H h x (exO x C od) := ⟨⟨vs, e, hs⟩, ⟨_, e⟩, fun h1 h2 ⟨vs, q, z⟩ k => ⟨vs, k _ q, z⟩⟩
theorem dxO_ok {mA : Str → Option Value} (n : h.Ns1 dx mA) (r : ∀ f, RelO (fs.lookup f) (mA f)) (wi : PySem.Within mA (fs.map (·.1))) : ObjOk P w H h dx (dxO dx fs) :=
  ⟨⟨mA, n, r, wi⟩, let ⟨o, _, _, e, _⟩ := n; ⟨o, e⟩, fun h1 h2 ⟨mA, q, z⟩ k => ⟨mA, q.at k, z⟩⟩
theorem exN_get (ok : HOk P w H h) (e : H x = some (exN x C od)) : ∃ t, h.get? x = some (newO C t od) := (ok _ _ e).1
theorem exO_get (ok : HOk P w H h) (e : H x = some (exO x C od)) : ∃ vs, h.get? x = some (excO C od vs) ∧ vs.size = 6 := (ok _ _ e).1
theorem dxO_get (ok : HOk P w H h) (e : H dx = some (dxO dx fs)) : ∃ mA, h.Ns1 dx mA ∧ (∀ f, RelO (fs.lookup f) (mA f)) ∧ PySem.Within mA (fs.map (·.1)) := (ok _ _ e).1
end
section
variable {X : Cx} {pins : List (Addr × Obj)} {σ : St} {H : Hp} {s : Shared} {h' : Heap}
/-- one object written, one laid -/
theorem Inv.two {x dx : Addr} {o o2 : HO} {φ : Heap → Prop} {t' : Nat} (I : Inv X pins σ H s) (mu : H x = some (.ext φ)) (hdx : s.heap.objs.size ≤ dx) (k : ∀ b u, b ≠ x → s.heap.get? b = some u → h'.get? b = some u)
    (hx : ∃ u, h'.get? x = some u) (new1 : ObjOk X.prog X.w (upd (upd H dx o2) x o) h' x o) (new2 : ObjOk X.prog X.w (upd (upd H dx o2) x o) h' dx o2) : Inv X pins σ (upd (upd H dx o2) x o) { s with heap := h', toks := t' } := by
  have hdn : H dx = none := I.hok.fresh hdx
  have hne : dx ≠ x := fun z => by rw [z, mu] at hdn; cases hdn
  have kin : ∀ b u, H b = some u → b ≠ dx := fun b u e z => by rw [z, hdn] at e; cases e
  have same : ∀ b u, b ≠ x → H b = some u → upd (upd H dx o2) x o b = some u := fun b u nb e => by rw [upd_ne nb, upd_ne (kin b u e)]; exact e
  refine I.call' (ch := []) (s' := { s with heap := h', toks := t' }) rfl ⟨fun b ob e n _ _ => k b ob (fun z => by rw [z, mu] at n; cases n) e, fun b ob e n _ _ => ⟨ob.slots, k b ob (fun z => by rw [z, mu] at n; cases n) e⟩, fun b ob e n _ => ?_, fun b ob e _ => ?_, fun b xs e => ?_, fun b ob u e => ?_, fun b ps e => ⟨#[], ?_⟩⟩ (fun b u e => ?_) I.bare (fun b z => absurd z (by simp))
  · have n1 : b ≠ x := fun z => by rw [z, mu] at n; cases n
    have n2 : b ≠ dx := fun z => absurd (Heap.lt_size e) (by rw [z]; exact Nat.not_lt.mpr hdx)
    rw [upd_ne n1, upd_ne n2]; exact n
  · by_cases z : b = x
    · rw [z]; exact hx
    · exact ⟨ob, k b ob z e⟩
  · exact same b _ (fun z => by rw [z, mu] at e; cases e) e
  · exact same b _ (fun z => by rw [z, mu] at e; cases e) e
  · rw [Array.append_empty]; exact same b _ (fun z => by rw [z, mu] at e; cases e) e
  · by_cases z : b = x
    · subst z; rw [upd_same] at e; cases e; exact new1
    · rw [upd_ne z] at e
      by_cases z2 : b = dx
      · subst z2; rw [upd_same] at e; cases e; exact new2
      · rw [upd_ne z2] at e
        refine (I.hok b u e).stay (fun c v hc q => k c v (fun y => ?_) q) (fun c q => same c _ (fun y => by rw [y, mu] at q; cases q) q) fun c xs q => same c _ (fun y => by rw [y, mu] at q; cases q) q
        rcases hc with hc | hc
        · exact z (hc.symm.trans y)
        · rw [y, mu] at hc; cases hc
end
end L2

set_option Elab.async false
set_option linter.all false
set_option maxRecDepth 100000
set_option maxHeartbeats 4000000
/-! Exceptions in the hand layer: what an own __init__ does. Own work. -/
namespace L2
open PySem PySem.Spec PyProof.Rows XC
theorem upd_eq {H : Hp} {a : Addr} {o : HO} (h : H a = some o) : upd H a o = H := by
  funext b
  by_cases e : b = a
  · rw [e, upd_same, h]
  · rw [upd_ne e]
theorem _root_.XC.ECls.mro {K : PySem.W.Frag} {C : Addr} (c : ECls K C) : PySem.W.mroIn K C (.type "ValueError") = some true ∧ PySem.W.mroIn K C (.type "BaseException") = some true := by
  obtain ⟨cd, hc, ho, _⟩ := c.cls
  obtain ⟨a, b, _⟩ := mro_types ho
  have ne := (exc_has ho).2
  unfold PySem.W.mroIn
  rw [hc, Option.bind_some, Option.bind_some, if_neg (by rw [ne]; decide), if_neg (by rw [ne]; decide), a, b]
  exact ⟨rfl, rfl⟩
def tVI (K : PySem.W.Frag) (t : TA) : TE := fun σ H Q => t σ H fun vs H1 => ∃ x C u, vs = [.ref x, u] ∧ H1 x = some (exN x C none) ∧ ECls K C ∧ Q .non H1
theorem bt_ValueError : bootBuiltins "ValueError" = some (.type "ValueError") := by decide +kernel
section
variable {X : Cx} {p pos apos pos' tpos : Pos} {e o value : Expr} {es : List Expr} {t : TA} {ta tv : TE} {f : Str}
theorem pe_vinit {pl : Sem Bool} (hg : Gl X "ValueError") (hm : X.mg "ValueError" = none) (hfc : PySem.W.findCls X.K (.type "ValueError") (.type "type") "__init__" = some (.val (.builtin "ValueError.__init__"))) (ha : PA X (e :: es) t)
    (hst : starEach (e :: es) X.env = (false, eval e X.env) :: starEach es X.env := by rfl) (hpl : (backTo pos (starEach es X.env)).any (·.1) = false := by rfl)
    (ht : eval (.Call (.Attribute (.Name "ValueError" p) "__init__" apos) (e :: es) [] pos) X.env = (do
      let ov ← eval (.Name "ValueError" p) X.env
      standAt apos.atName
      let (f, first) ← holding [ov] (getMethod ov "__init__" pl)
      callWith pos f first (backTo pos (starEach (e :: es) X.env)) (backToKw pos (keywordEach [] X.env))) := by rfl) :
    PE X (.Call (.Attribute (.Name "ValueError" p) "__init__" apos) (e :: es) [] pos) (tVI X.K t) := by
  intro pins s σ H Q I h
  refine PySem.W.methodCall_KW (pl := pl) (ld_blt I hg hm bt_ValueError ?_) ht
  obtain ⟨m, fr⟩ := I.fr
  refine PySem.W.method_type fr I.ok.mod.kin (by kernel_rfl) (by decide +kernel) hfc (by rfl) ?_
  have I2 := I.tok (s.toks + 1)
  refine PyProof.Rows.callWith_builtin1 (thn (ha pos pins _ σ H _ I2 h) fun us s2 ⟨vs, H2, I3, r, q⟩ => ?_) hst hpl
  obtain ⟨x, C, u, rfl, hx, c, q⟩ := q
  obtain ⟨v1, v2, rfl, r1, r2⟩ := vals2 r
  cases r1
  obtain ⟨t0, hx0⟩ := exN_get I3.hok hx
  obtain ⟨cd, hc, _, _⟩ := c.cls
  refine exc_init I3.kIn hx0 c.mro.1 hc fun h' t1 k e1 => ⟨.non, H2, ?_, rfl, q⟩
  have := I3.write (x := x) (e := x) (o := exN x C none) (t' := s2.toks) (by rw [hx]; exact True.intro) (.inl rfl) (fun b u nb e => k b u nb e) ⟨_, e1⟩ (exN_ok e1)
  rw [upd_eq hx] at this
  exact this
def sFldX (K : PySem.W.Frag) (ta tv : TE) (f : Str) : TS := fun D σ H => tv σ H fun y H1 => ta σ H1 fun v H2 => ∃ x C, v = .ref x ∧ ECls K C ∧ PySem.W.takerIn K C f = some none ∧
  ((H2 x = some (exN x C none) ∧ ∀ dx, H2 dx = none → dx ≠ x → D.nx σ (upd (upd H2 dx (dxO dx [(f, y)])) x (exN x C (some dx)))) ∨
   ∃ dx fs, H2 x = some (exN x C (some dx)) ∧ H2 dx = some (dxO dx fs) ∧ dx ≠ x ∧ fs.length < 1000 ∧ D.nx σ (upd H2 dx (dxO dx (putF f y fs))))
theorem ps_fldX (ha : PE X o ta) (hv : PE X value tv) (hs : swapsWith value (some (.Attribute o f pos')) pos.line X.env = pure false) : PS X (.Assign [.Attribute o f pos'] value pos) (sFldX X.K ta tv f) := by
  intro pins s σ H D I h
  refine plainObj_wpAny_Assign_Attribute (thn (hv pins s σ H _ I h) fun u s1 ⟨y, H1, I1, ry, q⟩ => thn (ha pins s1 σ H1 _ I1 q) fun ov s2 ⟨v, H2, I2, rx, x, C, ev, c, htk, q2⟩ => ?_) hs
  subst ev
  obtain rfl : ov = Value.ref x := rx
  rcases q2 with ⟨hx, q2⟩ | ⟨dx, fs, hx, hdx, hne, hl, q2⟩
  · obtain ⟨t0, hx0⟩ := exN_get I2.hok hx
    refine exc_set1 I2.kIn c hx0 htk fun h' dx hdx k e1 n1 => ⟨σ, _, I2.two (o := exN x C (some dx)) (o2 := dxO dx [(f, y)]) hx (Nat.le_of_eq hdx) (fun b u nb e => k b u nb e) ⟨_, e1⟩ (exN_ok e1) (dxO_ok n1 (fun g => ?_) (fun g hg => ?_)), q2 dx (I2.hok.fresh (Nat.le_of_eq hdx)) ?_⟩
    · show RelO (List.lookup g [(f, y)]) (if g = f then some u else none)
      by_cases e : g = f
      · subst e; simp [List.lookup]; exact ry
      · rw [if_neg e]
        have : (g == f) = false := beq_false_of_ne e
        simp [List.lookup, this, RelO]
    · by_cases e : g = f
      · rw [e]; exact List.mem_cons_self
      · exact absurd (show (if g = f then some u else none) = none from if_neg e) hg
    · intro z
      have := Heap.lt_size hx0
      rw [← z, ← hdx] at this
      exact absurd this (Nat.lt_irrefl _)
  · obtain ⟨t0, hx0⟩ := exN_get I2.hok hx
    obtain ⟨mA, n0, r0, w0⟩ := dxO_get I2.hok hdx
    refine exc_set2 I2.kIn c hx0 n0 hne htk w0 (by rw [List.length_map, sizeLine_eq]; omega) fun h' k n1 => ⟨σ, _, I2.write (x := dx) (e := dx) (o := dxO dx (putF f y fs)) (by rw [hdx]; exact True.intro) (.inl rfl) (fun b u nb e => k b u nb e) (let ⟨o, _, _, e, _⟩ := n1; ⟨o, e⟩) (dxO_ok n1 (fun g => ?_) (fun g hg => ?_)), q2⟩
    · show RelO ((putF f y fs).lookup g) (if g = f then some u else mA g)
      rw [lookup_putF]
      by_cases e : g = f
      · rw [if_pos e, if_pos e]; exact ry
      · rw [if_neg e, if_neg e]; exact r0 g
    · by_cases e : g = f
      · rw [e]; exact (keys_putF f y fs).1
      · refine (keys_putF f y fs).2 g (w0 g fun z => hg ?_)
        show (if g = f then some u else mA g) = none
        rw [if_neg e]; exact z
end
end L2

set_option Elab.async false
set_option linter.all false
set_option maxRecDepth 100000
set_option maxHeartbeats 4000000
/-! Exceptions in the hand layer: they leave a def, and pass through its callers. Own work. -/
namespace L2
open PySem PySem.Spec PyProof.Rows XC
/-- how an exception lies behind a call: its class and its object are told to the wish -/
def CXE (P : Program) (w : World) : CXT := fun outer H s E ev s' => ∃ (x C T : Addr) (od : Option Addr) (H' : Hp), ev = .ref x ∧ s'.os = s.os ∧ AllBare s'.gens ∧ Un (frs outer) [] H H' s.heap s'.heap ∧ HOk P w H' s'.heap ∧
  H' x = some (exO x C od) ∧ Fly s'.heap x C od T ∧ H' T = none ∧ s.heap.objs.size ≤ x ∧ s.heap.objs.size ≤ T ∧ E (.ref C) (some x) H'
section
variable {P : Program} {w : World} {K : PySem.W.Frag} {mg : Str → Option Value} {base : Heap} {N : List Str} {qual : Str} {scope : Scope} {f : Addr} {cd : Value} {A : Around} {outer : List Env} {s : Shared} {H : Hp} {E : XK}
theorem lft_end {pins : List (Addr × Obj)} {σ : St} {H1 : Hp} {s1 : Shared} {h' : Heap} {x C T : Addr} {od : Option Addr} {φ : Heap → Prop} (I : Inv (cxOf (CXE P w) P w K mg base N qual scope f cd A outer s H E) pins σ H1 s1)
    (hx : H1 x = some (.ext φ)) (hxs : s.heap.objs.size ≤ x) (lf : Lft (envOfC qual scope s.heap.objs.size f cd) outer x C od T s1.heap h')
    (hE : E (.ref C) (some x) (upd H1 x (exO x C od))) : CXE P w outer H s E (.ref x) { s1 with heap := h' } := by
  obtain ⟨hT, fly, kp, sl⟩ := lf
  have hsz : s.heap.objs.size ≤ s1.heap.objs.size := I.sz
  have stk : ∀ b ∈ frsE (envOfC qual scope s.heap.objs.size f cd :: outer), H1 b = none := I.stkFree
  have hTn : H1 T = none := I.hok.fresh hT
  have nx : ∀ b u, H1 b = some u → b ≠ x → upd H1 x (exO x C od) b = some u := fun b u e nb => by rw [upd_ne nb]; exact e
  have trk : ∀ c u v, H1 c = some v → s1.heap.get? c = some u → c ≠ x → h'.get? c = some u := fun c u v e q nc =>
    kp c u q nc (fun z => by rw [stk c z] at e; cases e)
  have old : ∀ b o, s.heap.get? b = some o → b ≠ x ∧ b ≠ s.heap.objs.size := fun b o e =>
    ⟨fun z => absurd (Heap.lt_size e) (by rw [z]; exact Nat.not_lt.mpr hxs), fun z => absurd (Heap.lt_size e) (by rw [z]; exact Nat.lt_irrefl _)⟩
  have fsub : ∀ b, b ∉ frs outer → b ≠ s.heap.objs.size → b ∉ frsE (envOfC qual scope s.heap.objs.size f cd :: outer) := fun b nf nl z => by
    unfold frsE at z
    rw [List.filterMap_cons] at z
    rcases List.mem_cons.mp z with z | z
    · exact nl z
    · exact nf z
  refine ⟨x, C, T, od, upd H1 x (exO x C od), rfl, I.os, I.bare, ⟨fun b o e n nf _ => ?_, fun b o e n mf _ => ?_, fun b o e n _ => ?_, fun b o e _ => ?_, fun b xs e => ?_, fun b o u e => ?_, fun b ps e => ?_⟩, fun b u e => ?_, upd_same, fly, ?_, hxs, Nat.le_trans hsz hT, hE⟩
  · obtain ⟨n1, n3⟩ := old b o e
    exact kp b o (I.base.keep b o e n nf (by simp [cxOf])) n1 (fsub b nf n3)
  · obtain ⟨n1, n3⟩ := old b o e
    obtain ⟨s2, e2⟩ := I.base.slot b o e n mf (by simp [cxOf])
    obtain ⟨s3, e3⟩ := sl b _ e2 n1
    exact ⟨s3, e3⟩
  · rw [upd_ne (old b o e).1]
    exact I.base.free b o e n (by simp [cxOf])
  · obtain ⟨n1, n3⟩ := old b o e
    obtain ⟨o2, e2⟩ := I.base.there b o e (by simp [cxOf])
    obtain ⟨s3, e3⟩ := sl b _ e2 n1
    exact ⟨_, e3⟩
  · have := I.base.tups b xs e
    exact nx b _ this (fun z => by rw [z, hx] at this; cases this)
  · have := I.base.frzs b o u e
    exact nx b _ this (fun z => by rw [z, hx] at this; cases this)
  · obtain ⟨more, this⟩ := I.base.tbls b ps e
    exact ⟨more, nx b _ this (fun z => by rw [z, hx] at this; cases this)⟩
  · by_cases z : b = x
    · subst z
      rw [upd_same] at e
      cases e
      obtain ⟨vs, e1, e2, _⟩ := fly.ob
      exact exO_ok e1 e2
    · rw [upd_ne z] at e
      refine (I.hok b u e).stay (fun c v hc q => ?_) (fun c q => nx c _ q (fun y => by rw [y, hx] at q; cases q)) fun c xs q => nx c _ q (fun y => by rw [y, hx] at q; cases q)
      rcases hc with hc | hc
      · rw [hc] at q ⊢; exact trk b v _ e q z
      · exact trk c v _ hc q (fun y => by rw [y, hx] at hc; cases hc)
  · rw [upd_ne fly.ne]; exact hTn
/-- a new exception leaves the def -/
theorem xe_new {pins : List (Addr × Obj)} {σ : St} {H1 : Hp} {s1 : Shared} {x C : Addr} {od : Option Addr} (I : Inv (cxOf (CXE P w) P w K mg base N qual scope f cd A outer s H E) pins σ H1 s1)
    (hx : H1 x = some (exN x C od)) (hxs : s.heap.objs.size ≤ x) (hE : E (.ref C) (some x) (upd H1 x (exO x C od))) : (cxOf (CXE P w) P w K mg base N qual scope f cd A outer s H E).xe (.ref x) s1 := by
  obtain ⟨t, e⟩ := exN_get I.hok hx
  exact wpAny_bind (note_first (C := C) (od := od) I.ok.frames I.stack rfl e rfl rfl fun h' T lf => lft_end I hx hxs lf hE)
end
end L2

set_option Elab.async false
set_option linter.all false
set_option maxRecDepth 100000
set_option maxHeartbeats 4000000
/-! Exceptions in the hand layer: C(..) and raise C(..). Own work. -/
namespace L2
open PySem PySem.Spec PyProof.Rows XC
/-- what a class of exceptions must have to be made: f its __init__ -/
structure MkE (K : PySem.W.Frag) (C f : Addr) : Prop where
  c : ECls K C
  at_ : ∃ nm q N bs bm hdct sn sub ab col dd k0 k1 k2 k3 k5, K.lookup C = some (excClassObj nm q C N bs bm hdct sn sub ab col dd k0 k1 k2 k3 k5 "ValueError.__new__") ∧ excMro (.ref C :: bm) = true
  init : PySem.W.findIn K (.ref C) "__init__" = some (some (.ref f))
  fn : PySem.W.isFn K (.ref f) = true
  kp : PySem.W.keepIn K (.ref C) = true
theorem MkE.cls {K : PySem.W.Frag} {C f : Addr} {h : Heap} (m : MkE K C f) (X : K.In h) : ClsAt h C := by
  obtain ⟨nm, q, N, bs, bm, hdct, sn, sub, ab, col, dd, k0, k1, k2, k3, k5, e, e2⟩ := m.at_
  exact ⟨nm, q, N, bs, bm, hdct, sn, sub, ab, col, dd, k0, k1, k2, k3, k5, X _ _ e, e2⟩
section
variable {X : Cx} {CX : CXT} {k : Nat} {f C : Addr} {fd : FuncData} {ps : List Str} {sp : Sp} {dvs : List V} {ds : List Value} {E EE : XK} {x m : Str} {p pos cpos : Pos} {e : Expr} {es : List Expr} {t : TA}
theorem Inv.madeE {pins : List (Addr × Obj)} {σ : St} {H : Hp} {s : Shared} {us : List Value} (I : Inv X pins σ H s) :
    Inv X pins σ (upd H (s.heap.objs.size + 1) (exN (s.heap.objs.size + 1) C none)) { s with heap := (s.heap.push { cls := .type "tuple", data := .seq us.toArray }).push (newO C s.heap.objs.size none) } := by
  have e2 : ((s.heap.push { cls := .type "tuple", data := .seq us.toArray }).push (newO C s.heap.objs.size none)).get? (s.heap.objs.size + 1) = some (newO C s.heap.objs.size none) := by
    have := Heap.get?_push_size (s.heap.push { cls := .type "tuple", data := .seq us.toArray }) (o := newO C s.heap.objs.size none) rfl
    rwa [Heap.size_push] at this
  exact I.laid (a := s.heap.objs.size + 1) (o := exN (s.heap.objs.size + 1) C none) (t' := s.toks) (fun b u q => Heap.get?_push_of_some _ (Heap.get?_push_of_some _ q)) (Nat.le_succ _) (exN_ok e2)
/-- C(..) of a class of exceptions -/
theorem run_makeE {pins : List (Addr × Obj)} {σ : St} {H : Hp} {s : Shared} {Q : VK} {us : List Value} {vs : List V} (M : MkE X.K C f) (F : FnOk X.prog X.w X.K X.mg X.base CX k f fd ps sp) (hr : Room (k + 1) X.A) (hb : Binds X.K fd ps ds) (hd : Vals dvs ds) (hx : Passes CX X E)
    (hlen : us.length ≤ sizeLine) (I : Inv X pins σ H s) (r : Vals vs us)
    (h : ∀ x, H x = none → s.heap.objs.size ≤ x → sp (.ref x :: (vs ++ dvs)) (upd H x (exN x C none)) (fun v H2 => v = .non ∧ Q (.ref x) H2) E) :
    wpAny (model X.prog X.w) X.A (call (.ref C) us) (fun u s' => u = .ref (s.heap.objs.size + 1) ∧ EP X pins σ Q u s') X.xe s := by
  have hq := h (s.heap.objs.size + 1) (I.hok.fresh (Nat.le_succ _)) (Nat.le_succ _)
  have I2 := Inv.madeE (C := C) (us := us) I
  have r2 : Vals (V.ref (s.heap.objs.size + 1) :: (vs ++ dvs)) (Value.ref (s.heap.objs.size + 1) :: (us ++ ds)) := .cons rfl (r.append hd)
  have hl : (Value.ref (s.heap.objs.size + 1) :: us ++ ds).length = ps.length := by
    have e := r2.length
    rw [F.len _ _ _ _ hq] at e
    exact e.symm
  obtain ⟨nm, q, N, bs, bm, hdct, sn, sub, ab, col, dd, k0, k1, k2, k3, k5, hC, hmr⟩ := M.cls I.kIn
  have kin := I.kIn
  obtain ⟨hp, g, d, tk, os⟩ := s
  refine exc_call (fI := f) kin hC hmr hlen M.init (beq_iff_eq.mp M.fn) (wpAny_call (codeAny_mono (F.run _ X.stack _ _ ⟨Value.ref (hp.objs.size + 1) :: us, []⟩ (Value.ref (hp.objs.size + 1) :: (us ++ ds)) _ _ E (hr.make C us [])
    (I2.env0.make C us []) (hb _ (Value.ref (hp.objs.size + 1) :: us) I2.kIn hl) r2 hq) fun r s' hq' => ?_))
  cases r with
  | error e => exact hx pins σ _ _ e s' I2 hq'
  | ok fl =>
    cases fl with
    | ret u =>
      obtain ⟨v, H', I3, rv, ev, q3⟩ := I2.after hq'
      subst ev
      exact ⟨rv, rfl, ⟨V.ref (hp.objs.size + 1), H', I3, rfl, q3⟩⟩
    | next => exact False.elim hq'
    | brk => exact False.elim hq'
    | cont => exact False.elim hq'
/-- the wish of a body's exceptions, kept by a new one -/
def NewX (X : Cx) (C : Addr) (EE : XK) : Prop := ∀ (pins : List (Addr × Obj)) (σ : St) (H1 : Hp) (s1 : Shared) (x : Addr) (od : Option Addr), Inv X pins σ H1 s1 → H1 x = some (exN x C od) → X.s₀.heap.objs.size ≤ x → EE (.ref C) (some x) (upd H1 x (exO x C od)) → X.xe (.ref x) s1
def rsQ (C : Addr) (EE : XK) : VK := fun u H2 => ∃ y od, u = .ref y ∧ H2 y = some (exN y C od) ∧ EE (.ref C) (some y) (upd H2 y (exO y C od))
def sRaise (C : Addr) (sp : Sp) (dvs : List V) (EE : XK) (t : TA) : TS := fun _ σ H => t σ H fun vs H1 => ∀ x, H1 x = none → sp (.ref x :: (vs ++ dvs)) (upd H1 x (exN x C none)) (fun v H2 => v = .non ∧ rsQ C EE (.ref x) H2) E0
theorem ps_raise (hn : NewX X C EE) (hcm : X.calm = true) (M : MkE X.K C f) (F : FnOk X.prog X.w X.K X.mg X.base CX0 k f fd ps sp) (hr : Room (k + 1) X.A) (hg : Gl X x) (hm : X.mg x = some (.ref C)) (hb : Binds X.K fd ps ds) (hd : Vals dvs ds)
    (ha : PA X (e :: es) t) (hps : ps.length ≤ 1000 := by decide) (hdb : (x == ("__debug__" : Str)) = false := by decide) (he : starEach (e :: es) X.env = (false, eval e X.env) :: starEach es X.env := by rfl) (hpl : (backTo cpos (starEach es X.env)).any (·.1) = false := by rfl) :
    PS X (.Raise (some (.Call (.Name x p) (e :: es) [] cpos)) none pos) (sRaise C sp dvs EE t) := by
  intro pins s σ H D I h
  refine raise_exec (I.ok.hd hcm) (wpAny_Call_Name_kw (ld_glob I hg hm ?_ hdb))
  refine PySem.W.callWith_K (h₀ := X.base) I.ok.mod.kin M.kp (thn (ha cpos pins s σ H _ I h) fun us s1 ⟨vs, H1, I1, r, q⟩ => ⟨I1.kIn, ?_⟩) he hpl
  have hl : us.length ≤ sizeLine := by
    have h1 := F.len _ _ _ _ (q _ (I1.hok.fresh (Nat.le_refl _)))
    have h2 := r.length
    rw [List.length_cons, List.length_append] at h1
    rw [sizeLine_eq]; omega
  refine thn (run_makeE (Q := rsQ C EE) M F hr hb hd pass0 hl I1 r fun x a _ => q x a) fun u s2 ⟨hu, hq⟩ => ?_
  obtain ⟨v, H2, I2, rv, x, od, rfl, hx, hE⟩ := hq
  obtain rfl : u = Value.ref x := rv
  have hz : x = s1.heap.objs.size + 1 := by cases hu; rfl
  obtain ⟨t0, e0⟩ := exN_get I2.hok hx
  exact ⟨x, C, od, _, rfl, M.cls I2.kIn, e0, rfl, hn pins σ H2 s2 x od I2 hx (by rw [hz]; exact Nat.le_trans I1.sz (Nat.le_succ _)) hE⟩
end
end L2

set_option Elab.async false
set_option linter.all false
set_option maxRecDepth 100000
set_option maxHeartbeats 4000000
/-! Exceptions in the hand layer: a call that may raise; try: f(..), except C as n. Own work. -/
namespace L2
open PySem PySem.Spec PyProof.Rows XC
/-- an exception has come: as XK wishes it -/
def XP (X : Cx) (pins : List (Addr × Obj)) (σ : St) (EE : XK) (ev : Value) (s' : Shared) : Prop := ∃ (x C T : Addr) (od : Option Addr) (H' : Hp), ev = .ref x ∧ Inv X pins σ H' s' ∧ H' x = some (exO x C od) ∧ Fly s'.heap x C od T ∧ EE (.ref C) (some x) H'
abbrev TX := St → Hp → VK → XK → Prop
/-- an expression that may raise -/
def PX (X : Cx) (e : Expr) (t : TX) : Prop := ∀ (pins : List (Addr × Obj)) (s : Shared) (σ : St) (H : Hp) (Q : VK) (EE : XK), Inv X pins σ H s → t σ H Q EE → wpAny (model X.prog X.w) X.A (eval e X.env) (EP X pins σ Q) (XP X pins σ EE) s
section
variable {X : Cx} {k : Nat} {f : Addr} {fd : FuncData} {ps : List Str} {sp : Sp} {dvs : List V} {ds : List Value} {x : Str} {p pos : Pos} {e : Expr} {es : List Expr} {t : TA}
theorem run_fnX {pins : List (Addr × Obj)} {σ : St} {H : Hp} {s : Shared} {Q : VK} {EE : XK} {us : List Value} {vs : List V} (F : FnOk X.prog X.w X.K X.mg X.base (CXE X.prog X.w) k f fd ps sp) (hr : Room k X.A) (hb : Binds X.K fd ps ds) (hd : Vals dvs ds)
    (I : Inv X pins σ H s) (r : Vals vs us) (h : sp (vs ++ dvs) H Q EE) : wpAny (model X.prog X.w) X.A (call (.ref f) us) (EP X pins σ Q) (XP X pins σ EE) s := by
  have r2 : Vals (vs ++ dvs) (us ++ ds) := r.append hd
  have hl : (us ++ ds).length = ps.length := by rw [← r2.length]; exact F.len _ _ _ _ h
  refine wpAny_call (codeAny_mono (F.run X.A X.stack s H ⟨us, []⟩ (us ++ ds) (vs ++ dvs) Q EE hr I.env0 (hb s us I.kIn hl) r2 h) fun r s' hq => ?_)
  cases r with
  | error e =>
    obtain ⟨y, C, T, od, H', rfl, os, bare, un, hok, hx, fly, hT, z1, z2, hE⟩ := hq
    exact ⟨y, C, T, od, H', rfl, I.call' (ch := []) os un hok bare (fun b z => absurd z (by simp)), hx, fly, hE⟩
  | ok fl =>
    cases fl with
    | ret u => exact I.after hq
    | next => exact False.elim hq
    | brk => exact False.elim hq
    | cont => exact False.elim hq
end
/-! ### in the handler -/
abbrev Cx.hold (X : Cx) (x : Addr) : Cx := { X with A := X.A.mark (some (.ref x)), calm := false, xe := fun _ _ => False }
section
variable {X : Cx} {pins : List (Addr × Obj)} {σ : St} {H : Hp} {s : Shared} {x : Addr}
theorem Cx.Ok.hold (ok : X.Ok) (x : Addr) : (X.hold x).Ok :=
  ⟨ok.mod, ok.kind, ok.glob, ok.blt, ok.above, ok.inj, ok.has, ok.cab, (fun z => nomatch z), ok.frames, ok.stk, ok.exf, ok.bs, ok.bsz, ok.noex, ok.exfs, ok.funs, ok.frf⟩
theorem Inv.hold (I : Inv X pins σ H s) (x : Addr) : Inv (X.hold x) pins σ H s := ⟨I.ok.hold x, I.os, I.bare, I.base, I.loc, I.cell, I.free, I.freeC, I.pin, I.hok, I.len⟩
theorem Inv.unhold (ok : X.Ok) (I : Inv (X.hold x) pins σ H s) : Inv X pins σ H s := ⟨ok, I.os, I.bare, I.base, I.loc, I.cell, I.free, I.freeC, I.pin, I.hok, I.len⟩
/-- behind the note of a frame -/
theorem Inv.lft {h' : Heap} {C T : Addr} {od : Option Addr} {outer : List Env} (I : Inv X pins σ H s) (hst : X.stack = X.env :: outer) (hx : H x = some (exO x C od)) (lf : Lft X.env outer x C od T s.heap h') : Inv X pins σ H { s with heap := h' } := by
  obtain ⟨hT, fly, kp, sl⟩ := lf
  have stk : ∀ b ∈ frsE (X.env :: outer), H b = none := by rw [← hst]; exact I.stkFree
  have tr : ∀ c u v, H c = some v → s.heap.get? c = some u → c ≠ x → h'.get? c = some u := fun c u v e q nc => kp c u q nc (fun z => by rw [stk c z] at e; cases e)
  refine I.call' (ch := []) (s' := { s with heap := h' }) rfl ⟨fun b o e n nf _ => kp b o e (fun z => by rw [z, hx] at n; cases n) (by rw [hst] at nf; exact nf), fun b o e n _ _ => sl b o e (fun z => by rw [z, hx] at n; cases n), fun b o e n _ => n, fun b o e _ => ?_, fun b xs e => e, fun b o u e => e, fun b ps e => ⟨#[], by rw [Array.append_empty]; exact e⟩⟩ (fun b u e => ?_) I.bare (fun b z => absurd z (by simp))
  · by_cases z : b = x
    · obtain ⟨vs, e1, _⟩ := fly.ob
      rw [z]; exact ⟨_, e1⟩
    · obtain ⟨s2, e2⟩ := sl b o e z
      exact ⟨_, e2⟩
  · by_cases z : b = x
    · subst z
      rw [hx] at e
      cases e
      obtain ⟨vs, e1, e2, _⟩ := fly.ob
      exact exO_ok e1 e2
    · refine (I.hok b u e).stay (fun c v hc q => ?_) (fun c q => q) fun c xs q => q
      rcases hc with hc | hc
      · rw [hc] at q ⊢; exact tr b v _ e q z
      · exact tr c v _ hc q (fun y => by rw [y, hx] at hc; cases hc)
end
end L2

set_option Elab.async false
set_option linter.all false
set_option maxRecDepth 100000
set_option maxHeartbeats 4000000
/-! Exceptions in the hand layer: try: f(..), except C as n. Own work. -/
namespace L2
open PySem PySem.Spec PyProof.Rows XC
section
variable {X : Cx} {pins : List (Addr × Obj)} {σ : St} {H : Hp} {s : Shared}
/-- the locals are changed -/
theorem Inv.locs {σ' : St} {h' : Heap} {m' : Str → Option Value} {t' : Nat} (I : Inv X pins σ H s) (hn : h'.Ns X.env.locals m') (hs : Heap.SameBut X.env.locals s.heap h') (hl : σ'.length = σ.length)
    (lk : ∀ m, s.heap.Ns X.env.locals m → (∀ (i : Nat) (x : Str) (v : V), X.N[i]? = some x → σ[i]? = some (some v) → Vis X.env.scope x → ∃ u, RelV v u ∧ Look X.env s.heap m x u) → ∀ (i : Nat) (x : Str) (v : V), X.N[i]? = some x → σ'[i]? = some (some v) → Vis X.env.scope x → ∃ u, RelV v u ∧ Look X.env h' m' x u) :
    Inv X pins σ' H { s with heap := h', toks := t' } := by
  obtain ⟨m, hm, hlk⟩ := id I.loc
  have ab : ∀ b o, X.s₀.heap.get? b = some o → b ≠ X.env.locals := fun b o e => Nat.ne_of_lt (Nat.lt_of_lt_of_le (Heap.lt_size e) I.ok.above)
  have ne : ∀ b u, H b = some u → b ≠ X.env.locals := fun b u e z => by rw [z, I.free] at e; cases e
  refine ⟨I.ok, I.os, I.bare, ⟨fun b o e n hb hx => (hs.2 b (ab b o e)).trans (I.base.keep b o e n hb hx), fun b o e n hb hx => ?_, I.base.free, fun b o e hx => ?_, I.base.tups, I.base.frzs, I.base.tbls⟩, ⟨m', hn, lk m hm hlk⟩, fun y c e => ?_, I.free, I.freeC, fun p hp => ?_, fun b u e => ?_, hl.trans I.len⟩
  · obtain ⟨sl, e1⟩ := I.base.slot b o e n hb hx
    exact ⟨sl, (hs.2 b (ab b o e)).trans e1⟩
  · obtain ⟨o', e1⟩ := I.base.there b o e hx
    exact ⟨o', (hs.2 b (ab b o e)).trans e1⟩
  · obtain ⟨v, o, ho, hd⟩ := I.cell y c e
    exact ⟨v, o, (hs.2 c (I.cne y c e)).trans ho, hd⟩
  · obtain ⟨a1, a2, a3, a4⟩ := I.pin p hp
    exact ⟨(hs.2 p.1 a3).trans a1, a2, a3, a4⟩
  · refine (I.hok b u e).stay (fun c v hc q => (hs.2 c ?_).trans q) (fun _ q => q) fun _ _ q => q
    rcases hc with hc | hc
    · rw [hc]; exact ne b u e
    · exact ne c _ hc
/-- the name of an except clause goes -/
theorem name_goes {M : Model} {A : Around} {E : Value → Shared → Prop} {i : Nat} {n : Str} {pos : Pos} {Q : Unit → Shared → Prop} (I : Inv X pins σ H s) (hN : X.N.Nodup) (hi : X.N[i]? = some n) (hl : X.env.kindOf n = some .local)
    (h : ∀ s', Inv X pins (σ.set i none) H s' → Q () s') : wpAny M A (do bindName X.env n .none; unbindBehindTheSuite X.env n pos) Q E s := by
  obtain ⟨m, hn, _⟩ := id I.loc
  have hp : (X.env.scope.kind == .class || (X.env.scope.kind == .module && X.env.locals != X.env.globals)) = false := by rw [I.ok.kind]; rfl
  refine wpAny_bind (wpAny_bindName (wpAny_storeName_local hl hn (fun h1 hn1 hs1 => ?_) hp))
  unfold unbindBehindTheSuite
  refine wpAny_onRaise ?_
  unfold unbindName
  refine wpAny_bind (wpAny_point (wpAny_bind ?_))
  unfold deleteName
  simp only [hl, hp]
  rw [if_neg (by decide)]
  refine wpAny_bind (wpAny_nsDel_keeps hn1 fun h2 v hn2 hs2 => ?_)
  simp only [if_true, Option.isSome_some, Bool.not_true, Bool.false_eq_true, if_false]
  refine wpAny_pure (wpAny_point (h _ (I.locs hn2 (hs1.trans hs2) (by rw [List.length_set]) fun m0 hm0 lk j y w e1 e2 e3 => ?_)))
  have hj : j ≠ i := fun z => by
    rw [z] at e2
    have hi' : i < σ.length := by rw [I.len]; exact (List.getElem?_eq_some_iff.mp hi).1
    rw [List.getElem?_set_self hi'] at e2
    cases e2
  rw [List.getElem?_set_ne (Ne.symm hj)] at e2
  obtain ⟨u, r, q⟩ := lk j y w e1 e2 e3
  have hy : y ≠ n := fun z => hj ((List.getElem?_inj (by exact (List.getElem?_eq_some_iff.mp e1).1) hN).mp (by rw [e1, hi, z]))
  have em : m0 y = m y := by
    obtain ⟨o, es, ep, ho, hd, _, hf⟩ := hm0
    obtain ⟨o', es', ep', ho', hd', _, hf'⟩ := hn
    rw [ho] at ho'; cases ho'
    rw [hd] at hd'; cases hd'
    rw [← hf y, ← hf' y]
  refine ⟨u, r, ?_⟩
  rcases q with ⟨k1, k2⟩ | ⟨k1, c, k2, k3⟩
  · refine .inl ⟨k1, ?_⟩
    show (if y = n then v else (if y = n then some Value.none else m y)) = some u
    rw [if_neg hy, if_neg hy, ← em]; exact k2
  · obtain ⟨o, ho, hd⟩ := k3
    exact .inr ⟨k1, c, k2, o, ((hs1.trans hs2).2 c (I.cne y c k2)).trans ho, hd⟩
theorem flight_again {M : Model} {A : Around} {E : Value → Shared → Prop} {x C T : Addr} {od : Option Addr} {Q : Unit → Shared → Prop} (fly : Fly s.heap x C od T) (h : ∀ h', (∀ b o, s.heap.get? b = some o → h'.get? b = some o) → Q () { s with heap := h' }) :
    wpAny M A (setFlight (.ref x) none) Q E s := by
  obtain ⟨⟨vs, he, hsz, h1⟩, hTx, oT, ts, hT, hdT, h3⟩ := fly
  unfold setFlight
  refine wpAny_bind (wpAny_field he rfl h1 ?_)
  rw [if_pos (show (Value.ref T != Value.none) = true from by simp)]
  refine wpAny_setField hT hdT (Array.getElem?_eq_some_iff.mp h3).1 (h _ fun b o e => ?_)
  by_cases z : b = T
  · subst z
    rw [hT] at e; cases e
    refine (Heap.get?_update_self _ hT (Obj.isFreed_of_fields (Obj.data_mapFields hdT _))).trans ?_
    exact congrArg some (map_same hdT h3)
  · rw [Heap.get?_update_other _ _ (Ne.symm z)]; exact e
theorem Inv.keptH {h' : Heap} (I : Inv X pins σ H s) (k : ∀ b u, s.heap.get? b = some u → h'.get? b = some u) : Inv X pins σ H { s with heap := h' } :=
  I.call' (ch := []) (s' := { s with heap := h' }) rfl ⟨fun b o e _ _ _ => k b o e, fun b o e _ _ _ => ⟨o.slots, k b o e⟩, fun b o e n _ => n, fun b o e _ => ⟨o, k b o e⟩, fun b xs e => e, fun b o u e => e, fun b ps e => ⟨#[], by rw [Array.append_empty]; exact e⟩⟩ (I.hok.kept k) I.bare (fun b z => absurd z (by simp))
end
def behindAs (i : Nat) (D : Ends) : Ends := { nx := fun σ' H' => D.nx (σ'.set i none) H', rt := D.rt, bk := fun σ' H' => D.bk (σ'.set i none) H', ct := fun σ' H' => D.ct (σ'.set i none) H' }
def sTry (K : PySem.W.Frag) (CH : Addr) (i : Nat) (te : TX) (ts : TS) : TS := fun D σ H => te σ H (fun _ H1 => D.nx σ H1) (fun cv ox H1 => ∃ C x f, cv = .ref C ∧ ox = some x ∧ MkE K C f ∧ PySem.W.mroIn K C (.ref CH) = some true ∧ ts (behindAs i D) (σ.set i (some (.ref x))) H1)
section
variable {X : Cx} {outer : List Env} {L CH fH : Addr} {i : Nat} {n cn : Str} {e : Expr} {te : TX} {ts : TS} {b0 : Stmt} {suite : List Stmt} {pos epos hpos cp : Pos}
theorem ps_try (hpx : PX X e te) (hst : X.stack = X.env :: outer) (hfr : X.env.frame = some L) (hg : Gl X cn) (hm : X.mg cn = some (.ref CH)) (hM : MkE X.K CH fH) (hN : X.N.Nodup) (hi : X.N[i]? = some n) (hl : X.env.kindOf n = some .local) (hlo : Loc X.env.scope n)
    (hsu : ∀ x, PSs (X.hold x) (b0 :: suite) ts) (hfn : X.fn n = true ∨ X.env.scope.names.lookup n = some .local := by exact .inl rfl) (hdb : (cn == ("__debug__" : Str)) = false := by decide) (hs : swapsWith e none epos.line X.env = pure false := by rfl) :
    PS X (.Try [.Expr e epos] [.ExceptHandler (some (.Name cn cp)) (some n) (b0 :: suite) hpos] [] [] pos) (sTry X.K CH i te ts) := by
  intro pins s σ H D I h
  refine wpAny_Try_except (wpAny_execs_cons (wpAny_Expr_any (wpAny_mono (hpx pins s σ H _ _ I h) (fun v s1 ⟨y, H1, I1, r1, q1⟩ => ?_) fun ev s1 hx => ?_) I.quiet hs))
  · exact wpAny_execs_nil (wpAny_execs_nil ⟨σ, H1, I1, q1⟩)
  · obtain ⟨x, C, T, od, H1, rfl, I1, hx, fly, C', x', f, ec, ex, M, hmr, q⟩ := hx
    cases ec
    cases ex
    refine note_next (base := X.base) (outer := outer) (by rw [← hst]; exact I1.ok.frames) (by rw [← hst]; exact I1.stack) hfr fly fun h2 T2 lf => ?_
    have I2 := I1.lft hst hx lf
    have fly2 := lf.2.1
    refine handle_as (C := C) (CH := CH) (ld_glob (I2.hold x) hg hm ⟨rfl, M.cls I2.kIn, hM.cls I2.kIn, ?_, PySem.W.looks_mroIn I2.kIn hmr, ?_⟩ hdb)
    · obtain ⟨vs, e1, _⟩ := fly2.ob
      exact ⟨od, vs, e1⟩
    refine flight_again fly2 fun h3 k3 => ?_
    have I3 := (I2.keptH k3).hold x
    refine store_ok (X := X.hold x) (v := .ref x) I3 hN hi hlo rfl (fun s4 I4 => ?_) hfn
    refine wpAny_mono (hsu x pins s4 _ H1 _ I4 q) (fun fl s5 hq => ?_) fun _ _ z => z
    have ok := I.ok
    cases fl with
    | next => obtain ⟨σ5, H5, I5, q5⟩ := hq; exact name_goes (I5.unhold ok) hN hi hl fun s6 I6 => ⟨_, H5, I6, q5⟩
    | brk => obtain ⟨σ5, H5, I5, q5⟩ := hq; exact name_goes (I5.unhold ok) hN hi hl fun s6 I6 => ⟨_, H5, I6, q5⟩
    | cont => obtain ⟨σ5, H5, I5, q5⟩ := hq; exact name_goes (I5.unhold ok) hN hi hl fun s6 I6 => ⟨_, H5, I6, q5⟩
    | ret u => obtain ⟨v, σ5, H5, I5, r5, q5⟩ := hq; exact name_goes (I5.unhold ok) hN hi hl fun s6 I6 => ⟨v, _, H5, I6, r5, q5⟩
end
end L2

set_option Elab.async false
set_option linter.all false
set_option maxRecDepth 100000
set_option maxHeartbeats 4000000
/-! Exceptions: their class asked, their attributes read. Own work. -/
namespace XC
open PySem PySem.W PySem.Calls PyProof.Rows
section
variable {prog : Program} {w : World} {A : Around} {E : Value → Shared → Prop} {s : Shared} {K : Frag} {x C : Addr} {ox od : Obj}
theorem exc_class {Q : Option Value → Shared → Prop} (X : K.In s.heap) (I : InstAt s.heap x ox C (some od)) (c : ECls K C) (hb : mroIn K C (.type "BaseException") = some true) (hob : mroIn K C (.type "object") = some true)
    (ha : findIn K (.ref C) "__class__" = some (some (.builtin "object.__class__"))) (hn : specialIn K (.builtin "object.__class__") "__get__" = some (some (.builtin "getset_descriptor.__get__"))) (htk : takesIn K (.builtin "object.__class__") = some true)
    (h : Q (some (.ref C)) { s with toks := s.toks + 1 }) : wpAny (model prog w) A (getAttr? (.ref x) "__class__") Q E s := by
  have hf : findObj K C (some od) "__class__" = some (.bind (.builtin "getset_descriptor.__get__") (.builtin "object.__class__")) := findObj_data (by obtain ⟨cd, hc, _⟩ := c.cls; rw [hc]; rfl) ha hn htk
  obtain ⟨hp, g, d, t, os⟩ := s
  have L0 := I.type (M := model prog w)
  have L1 := looks_findIn (M := model prog w) X c.ga
  have L2 := looks_findIn (M := model prog w) X c.gn
  have L3 := looks_find (M := model prog w) X I hf
  have hbi := slot_ga.bind (.ref x)
  unfold getAttr? getAttrBy? getAttrBy
  refine wpAny_bind (wpAny_mkText (wpAny_bind (wpAny_attempt (wpAny_holding (wpAny_bind (L0.at (wpAny_bind (L1.at ?_))))))))
  have hx2 : (onTheHeap (Value.ref C) && Value.builtin "BaseException.__getattribute__" == Value.builtin "object.__getattribute__") = false := by
    rw [show (Value.builtin "BaseException.__getattribute__" == Value.builtin "object.__getattribute__") = false by decide +kernel]; rfl
  show wpAny _ _ (if (onTheHeap (Value.ref C) && Value.builtin "BaseException.__getattribute__" == Value.builtin "object.__getattribute__") = true then _ else _) _ _ _
  rw [hx2, if_neg Bool.false_ne_true]
  unfold getAttrByItsOwn
  refine wpAny_bind (L2.at ?_)
  refine wpAny_bind (wpAny_attempt ?_)
  refine wpAny_holding ?_
  unfold callGetattribute
  rw [show (false && onTheHeap (Value.builtin "BaseException.__getattribute__")) = false from rfl, if_neg Bool.false_ne_true]
  unfold boundAndCalled
  rw [hbi]
  refine wpAny_bind (wpAny_pure (wpAny_call ?_))
  show codeAny _ _ (.call (.builtin "BaseException.__getattribute__") ⟨[.ref x, .str "__class__" t], []⟩) _ ⟨hp, g, d, t + 1, os⟩
  refine codeAny_call_builtin slot_ga.plain F.entry_bexc_ga (@check_slot (model prog w) _ _ ⟨hp, g, d, t + 1, os⟩ "BaseException.__getattribute__" "BaseException" "__getattribute__" (.ref x) [.str "__class__" t] [] _ ga_kind ga_split (isin_base X I hb) (F.args_bexc_ga (.ref x) (.str "__class__" t)) ?_)
  refine wpAny_bind (wpAny_pure (wpAny_bind (wpAny_pure (wpAny_bind (L0.at (wpAny_bind (L3.at ?_)))))))
  show wpAny _ _ (holding [Value.builtin "object.__class__"] (call (.builtin "getset_descriptor.__get__") [.builtin "object.__class__", .ref x, .ref C]) >>= ret) _ _ _
  refine wpAny_bind (wpAny_holding (wpAny_call ?_))
  refine class_get (s := ⟨hp, g, d, t + 1, os⟩) (ox := ox) (od := some od) X I hob ?_
  refine wpAny_pure ?_
  show wpAny _ _ (handedOut (.ref C)) _ _ _
  exact handed_on rfl (wpAny_pure h)
/-- what is asked of a class of exceptions by isinstance -/
structure EIs (K : Frag) (C : Addr) : Prop where
  c : ECls K C
  ha : findIn K (.ref C) "__class__" = some (some (.builtin "object.__class__"))
  hn : specialIn K (.builtin "object.__class__") "__get__" = some (some (.builtin "getset_descriptor.__get__"))
  htk : takesIn K (.builtin "object.__class__") = some true
theorem ECls.obj (c : ECls K C) : mroIn K C (.type "object") = some true := by
  obtain ⟨cd, hc, ho, _⟩ := c.cls
  obtain ⟨a, ne⟩ := exc_has ho
  unfold mroIn
  rw [hc, Option.bind_some, if_neg (by rw [ne]; decide), a]
theorem kitx_exc (i : EIs K C) : KitX K (.ref x) (.ref C) (fun h => ∃ ox od, InstAt h x ox C (some od)) where
  ty := fun _ _ _ ⟨_, _, I⟩ => I.type
  it := fun _ _ X _ => by
    obtain ⟨cdD, hcD, _⟩ := i.c.cls
    unfold clsIn at hcD
    split at hcD
    · rename_i c' d' cd' sl' ho
      intro A' Q' E' s' k q
      unfold isType loadHead
      exact wpAny_bind (wpAny_loadPart (k _ _ (X _ _ ho)) (wpAny_pure q))
    · cases hcD
  ne := fun h tp dd its n sl X htp => by
    obtain ⟨cdD, hcD, _⟩ := i.c.cls
    refine Bool.eq_false_iff.mpr fun q => ?_
    obtain rfl : C = tp := Value.ref.inj (beq_iff_eq.mp q)
    unfold clsIn at hcD
    split at hcD
    · rename_i c' d' cd' sl' ho
      cases (X _ _ ho).symm.trans htp
    · cases hcD
  ca := fun X ⟨_, _, I⟩ k => exc_class X I i.c i.c.mro.2 i.c.obj i.ha i.hn i.htk k
end
end XC
namespace L2
open PySem PySem.Spec PyProof.Rows XC
/-- an exception that may be read: its dict -/
def ExAt (H : Hp) (x C : Addr) (fs : List (Str × V)) : Prop := ∃ dx, (H x = some (exO x C (some dx)) ∨ H x = some (exN x C (some dx))) ∧ H dx = some (dxO dx fs)
section
variable {X : Cx} {pins : List (Addr × Obj)} {σ : St} {H : Hp} {s : Shared} {x C : Addr} {fs : List (Str × V)}
theorem ExAt.same {H' : Hp} (e : ExAt H x C fs) (k : Same H H') : ExAt H' x C fs := by
  obtain ⟨dx, e1, e2⟩ := e
  exact ⟨dx, e1.imp (k _ _) (k _ _), k _ _ e2⟩
theorem ExAt.look (I : Inv X pins σ H s) (e : ExAt H x C fs) : ∃ (ox od : Obj) (mA : Str → Option Value), PySem.W.InstAt s.heap x ox C (some od) ∧ (∀ name, PySem.W.lookIn name od = some (mA name)) ∧ ∀ f, RelO (fs.lookup f) (mA f) := by
  obtain ⟨dx, e1, e2⟩ := e
  obtain ⟨mA, n, r, _⟩ := dxO_get I.hok e2
  obtain ⟨od, ho, hl⟩ := lookIn_ns n
  rcases e1 with e1 | e1
  · obtain ⟨vs, q, _⟩ := exO_get I.hok e1
    exact ⟨_, od, mA, ⟨q, rfl, rfl, ho⟩, hl, r⟩
  · obtain ⟨t, q⟩ := exN_get I.hok e1
    exact ⟨_, od, mA, ⟨q, rfl, rfl, ho⟩, hl, r⟩
/-- isinstance(x, c) of an exception -/
theorem call_isX : CallR X (.builtin "isinstance") (fun xs H Q => ∃ (x C : Addr) (c : V) (cv : Value) (b : Bool) (fs : List (Str × V)), xs = [.ref x, c] ∧ clsV c = some cv ∧ ExAt H x C fs ∧ EIs X.K C ∧ PySem.W.kitOne X.K (.ref C) cv = some b ∧ Q (.bl b) H) := by
  intro pins s σ H xs us Q I r h
  obtain ⟨x, C, c, cv, b, fs, rfl, hcv, ex, ei, hk, q⟩ := h
  obtain ⟨u, w', rfl, r1, r2⟩ := vals2 r
  have e := clsV_of hcv r2
  subst e
  obtain rfl : u = Value.ref x := r1
  obtain ⟨ox, od, mA, J, _⟩ := ex.look I
  exact PySem.W.kia_one (kitx_exc ei) I.kIn ⟨ox, od, J⟩ hk (fun z => nomatch z) fun tk => ⟨.bl b, H, I.tok tk, rfl, q⟩
/-- x.f of an exception -/
def tFldX (K : PySem.W.Frag) (ta : TE) (f : Str) : TE := fun σ H Q => ta σ H fun v H1 => ∃ x C fs u, v = .ref x ∧ ExAt H1 x C fs ∧ ECls K C ∧ PySem.W.findIn K (.ref C) f = some none ∧ fs.lookup f = some u ∧ Q u H1
variable {e : Expr} {f : Str} {pos : Pos} {ta : TE}
theorem handed_V {v : V} {u : Value} (r : RelV v u) : PySem.W.handedIn u = true := by
  cases v with
  | non => cases (show u = _ from r); rfl
  | bl b => cases (show u = _ from r); rfl
  | int i => obtain ⟨t, q⟩ := (show ∃ t, u = Value.int i t from r); cases q; rfl
  | str i => obtain ⟨t, q⟩ := (show ∃ t, u = Value.str i t from r); cases q; rfl
  | byt i => obtain ⟨t, q⟩ := (show ∃ t, u = Value.bytes i t from r); cases q; rfl
  | flt i => obtain ⟨t, q⟩ := (show ∃ t, u = Value.float i t from r); cases q; rfl
  | ref a => cases (show u = _ from r); rfl
  | ty n => cases (show u = _ from r); rfl
theorem pe_fldX (he : PE X e ta) (hb : attributeBase e f X.env (eval e X.env) = eval e X.env) : PE X (.Attribute e f pos) (tFldX X.K ta f) := by
  intro pins s σ H Q I h
  refine attr_of hb (thn (he pins s σ H _ I h) fun u s1 ⟨v, H1, I1, rv, x, C, fs, w, ev, ex, c, hn, hl, q⟩ => ?_)
  subst ev
  obtain rfl : u = Value.ref x := rv
  obtain ⟨ox, od, mA, J, lk, r⟩ := ex.look I1
  have rf := r f
  rw [hl] at rf
  obtain ⟨u, hu, ru⟩ : ∃ u, mA f = some u ∧ RelV w u := by
    cases hm : mA f with
    | none => rw [hm] at rf; exact rf.elim
    | some u => rw [hm] at rf; exact ⟨u, rfl, rf⟩
  obtain ⟨cd, hc, _, hd⟩ := c.cls
  refine exc_get I1.kIn J c.ga c.gn c.mro.2 (PySem.W.findObj_own (by unfold PySem.W.hasDictIn; rw [hc]; exact hd) hn rfl (by rw [lk, hu])) (handed_V ru) ⟨w, H1, I1.tok _, ru, q⟩
end
end L2

set_option Elab.async false
set_option linter.all false
set_option maxRecDepth 100000
set_option maxHeartbeats 4000000
/-! f-strings of one text's repr; isinstance of an exception and several classes; a def held in a local that raises. Own work. -/
namespace L2
open PySem PySem.Spec PyProof.Rows XC
section
variable {X : Cx}
/-- f'words{x!r}': some text -/
def tFsR (ta : TE) : TE := fun σ H Q => ta σ H fun v H1 => ∃ x : Str, v = .str x ∧ x.length ≤ 300000 ∧ (∀ c ∈ x.cps.toList, c < 16 ^ 8) ∧ ∀ y : Str, Q (.str y) H1
theorem pe_fsR {c : Str} {e : Expr} {ta : TE} {j : Nat} {p1 p2 pos : Pos} (he : PE X e ta) (hc : c.length ≤ 1000 := by decide) : PE X (.JoinedStr [.Constant (.str c) j p1, .FormattedValue e 114 none p2] pos) (tFsR ta) := by
  intro pins s σ H Q I h
  refine wpAny_JoinedStr ?_
  show wpAny _ _ (eval (.Constant (.str c) j p1) X.env) (fun v s₁ => ∃ y t, v = .str y t ∧ (Str.empty ++ y).length ≤ sizeLine ∧ wpAny _ _ (eval (.FormattedValue e 114 none p2) X.env) (fun v s₁ => ∃ z t, v = .str z t ∧ ((Str.empty ++ y) ++ z).length ≤ sizeLine ∧ _) _ s₁) _ s
  have l0 : (Str.empty ++ c).length = c.length := by rw [strLen_append]; show 0 + _ = _; omega
  refine Calls.Constant_str ⟨c, _, rfl, by rw [l0, sizeLine_eq]; omega, ?_⟩
  refine wpAny_FormattedValue_repr (wpAny_mono (he pins _ σ H _ (I.tok _) h) (fun u s1 ⟨v, H1, I1, r, x, ev, hl, hs, q⟩ => ?_) fun _ _ z => z)
  subst ev
  obtain ⟨t, rfl⟩ := r
  have hrl := StrLaws.reprText_len x hs
  have hz : (reprText x).length ≤ sizeLine := by rw [sizeLine_eq]; omega
  have hz2 : ((Str.empty ++ c) ++ reprText x).length ≤ sizeLine := by rw [strLen_append, l0, sizeLine_eq]; omega
  refine pyReprObj_str (wpAny_formatField_str ?_ ?_ hz) hz
  · exact ⟨_, _, rfl, hz2, hz2, .str _, H1, I1.tok _, ⟨_, rfl⟩, q _⟩
  · exact ⟨_, _, rfl, hz2, hz2, .str _, H1, I1.tok _, ⟨_, rfl⟩, q _⟩
theorem vals_refs : ∀ {cs : List Addr} {its : List Value}, Vals (cs.map V.ref) its → its = cs.map Value.ref
  | [], _, .nil => rfl
  | a :: r, _, .cons q t => by rw [List.map_cons, ← vals_refs t]; congr 1
/-- isinstance(x, (c, ..)) of an exception -/
theorem call_isXT : CallR X (.builtin "isinstance") (fun xs H Q => ∃ (x C tp : Addr) (cs : List Addr) (b : Bool) (fs : List (Str × V)), xs = [.ref x, .ref tp] ∧ H tp = some (.tup (cs.map V.ref)) ∧ ExAt H x C fs ∧ EIs X.K C ∧ PySem.W.kitAny X.K (.ref C) (cs.map Value.ref) = some b ∧ Q (.bl b) H) := by
  intro pins s σ H xs us Q I r h
  obtain ⟨x, C, tp, cs, b, fs, rfl, ht, ex, ei, hk, q⟩ := h
  obtain ⟨u, w', rfl, r1, r2⟩ := vals2 r
  obtain rfl : u = Value.ref x := r1
  obtain rfl : w' = Value.ref tp := r2
  obtain ⟨ox, od, mA, J, _⟩ := ex.look I
  obtain ⟨_, its, rv, o, ho, hcl, n, hd⟩ := I.hok _ _ ht
  have e := vals_refs rv
  subst e
  obtain ⟨cl, dd, dt, sl⟩ := o
  cases hcl
  cases hd
  exact PySem.W.kia_tup (kitx_exc ei) I.kIn ⟨ox, od, J⟩ ho hk (fun z => nomatch z) fun tk => ⟨.bl b, H, I.tok tk, rfl, q⟩
end
end L2

set_option Elab.async false
set_option linter.all false
set_option maxRecDepth 100000
set_option maxHeartbeats 4000000
/-! Exceptions in the hand layer: a method that may raise; try: y = f(..), except C as n. Own work. -/
namespace L2
open PySem PySem.Spec PyProof.Rows XC
def tMethX (C : Addr) (m : Str) (sp : Sp) (dvs : List V) (ta : TE) (t : TA) : TX := fun σ H Q EE => ta σ H fun v H1 => ∃ a dx fs, v = .ref a ∧ H1 a = some (.ins C dx fs) ∧ fs.lookup m = none ∧ t σ H1 fun vs H2 => sp (.ref a :: (vs ++ dvs)) H2 Q EE
section
variable {X : Cx} {k : Nat} {C f : Addr} {fd : FuncData} {ps : List Str} {sp : Sp} {dvs : List V} {ds : List Value} {m : Str} {apos pos : Pos} {o e : Expr} {es : List Expr} {ta : TE} {t : TA}
theorem px_meth {pl : Sem Bool} (he : PE X.nox o ta) (c : Cls X.K C) (hm : Meth X.K C m f) (F : FnOk X.prog X.w X.K X.mg X.base (CXE X.prog X.w) k f fd ps sp) (hr : Room k X.A) (hb : Binds X.K fd ps ds) (hd : Vals dvs ds) (ha : PA X.nox (e :: es) t)
    (hst : starEach (e :: es) X.env = (false, eval e X.env) :: starEach es X.env := by rfl) (hpl : (backTo pos (starEach es X.env)).any (·.1) = false := by rfl)
    (ht : eval (.Call (.Attribute o m apos) (e :: es) [] pos) X.env = (do
      let ov ← eval o X.env
      standAt apos.atName
      let (f, first) ← holding [ov] (getMethod ov m pl)
      callWith pos f first (backTo pos (starEach (e :: es) X.env)) (backToKw pos (keywordEach [] X.env))) := by rfl) :
    PX X (.Call (.Attribute o m apos) (e :: es) [] pos) (tMethX C m sp dvs ta t) := by
  intro pins s σ H Q EE I h
  refine PySem.W.methodCall_KW (pl := pl) (wpAny_mono (he pins s σ H _ (I.wish _) h) (fun u s1 ⟨x, H1, I1, rx, a, dx, fs, ex, ea, l, q⟩ => ?_) fun _ _ z => z.elim) ht
  subst ex
  obtain rfl : u = Value.ref a := rx
  have I1 := I1.unwish
  refine getmeth_ok I1 ea c hm l ?_
  refine PySem.W.callWith_K (first := [.ref a]) (h₀ := X.base) I.ok.mod.kin hm.kp (wpAny_mono (ha pos pins s1 σ H1 _ (I1.wish _) q) (fun us s2 ⟨vs, H2, I2, r, q2⟩ => ⟨I2.unwish.kIn, ?_⟩) fun _ _ z => z.elim) hst hpl
  exact run_fnX (us := .ref a :: us) (vs := .ref a :: vs) F hr hb hd I2.unwish (.cons rfl r) q2
end
def sTryA (K : PySem.W.Frag) (CH : Addr) (i j : Nat) (te : TX) (ts : TS) : TS := fun D σ H => te σ H (fun v H1 => D.nx (σ.set j (some v)) H1) (fun cv ox H1 => ∃ C x f, cv = .ref C ∧ ox = some x ∧ MkE K C f ∧ PySem.W.mroIn K C (.ref CH) = some true ∧ ts (behindAs i D) (σ.set i (some (.ref x))) H1)
section
variable {X : Cx} {outer : List Env} {L CH fH : Addr} {i : Nat} {n cn : Str} {e : Expr} {te : TX} {ts : TS} {b0 : Stmt} {suite : List Stmt} {pos epos hpos cp : Pos}
theorem ps_tryA {j : Nat} {y : Str} {ypos : Pos} (hj : X.N[j]? = some y) (hyl : Loc X.env.scope y) (hpx : PX X e te) (hst : X.stack = X.env :: outer) (hfr : X.env.frame = some L) (hg : Gl X cn) (hm : X.mg cn = some (.ref CH)) (hM : MkE X.K CH fH) (hN : X.N.Nodup) (hi : X.N[i]? = some n) (hl : X.env.kindOf n = some .local) (hlo : Loc X.env.scope n)
    (hsu : ∀ x, PSs (X.hold x) (b0 :: suite) ts) (hfn : X.fn n = true ∨ X.env.scope.names.lookup n = some .local := by exact .inl rfl) (hdb : (cn == ("__debug__" : Str)) = false := by decide) (hs : swapsWith e (some (.Name y ypos)) epos.line X.env = pure false := by rfl) (hfy : X.fn y = true ∨ X.env.scope.names.lookup y = some .local := by exact .inl rfl) :
    PS X (.Try [.Assign [.Name y ypos] e epos] [.ExceptHandler (some (.Name cn cp)) (some n) (b0 :: suite) hpos] [] [] pos) (sTryA X.K CH i j te ts) := by
  intro pins s σ H D I h
  refine wpAny_Try_except (wpAny_execs_cons (wpAny_Assign_Name (wpAny_mono (hpx pins s σ H _ _ I h) (fun v s1 ⟨z, H1, I1, r1, q1⟩ => ?_) fun ev s1 hx => ?_) hs))
  · exact store_ok I1 hN hj hyl r1 (fun s2 I2 => wpAny_execs_nil (wpAny_execs_nil ⟨_, H1, I2, q1⟩)) hfy
  · obtain ⟨x, C, T, od, H1, rfl, I1, hx, fly, C', x', f, ec, ex, M, hmr, q⟩ := hx
    cases ec
    cases ex
    refine note_next (base := X.base) (outer := outer) (by rw [← hst]; exact I1.ok.frames) (by rw [← hst]; exact I1.stack) hfr fly fun h2 T2 lf => ?_
    have I2 := I1.lft hst hx lf
    have fly2 := lf.2.1
    refine handle_as (C := C) (CH := CH) (ld_glob (I2.hold x) hg hm ⟨rfl, M.cls I2.kIn, hM.cls I2.kIn, ?_, PySem.W.looks_mroIn I2.kIn hmr, ?_⟩ hdb)
    · obtain ⟨vs, e1, _⟩ := fly2.ob
      exact ⟨od, vs, e1⟩
    refine flight_again fly2 fun h3 k3 => ?_
    have I3 := (I2.keptH k3).hold x
    refine store_ok (X := X.hold x) (v := .ref x) I3 hN hi hlo rfl (fun s4 I4 => ?_) hfn
    refine wpAny_mono (hsu x pins s4 _ H1 _ I4 q) (fun fl s5 hq => ?_) fun _ _ z => z
    have ok := I.ok
    cases fl with
    | next => obtain ⟨σ5, H5, I5, q5⟩ := hq; exact name_goes (I5.unhold ok) hN hi hl fun s6 I6 => ⟨_, H5, I6, q5⟩
    | brk => obtain ⟨σ5, H5, I5, q5⟩ := hq; exact name_goes (I5.unhold ok) hN hi hl fun s6 I6 => ⟨_, H5, I6, q5⟩
    | cont => obtain ⟨σ5, H5, I5, q5⟩ := hq; exact name_goes (I5.unhold ok) hN hi hl fun s6 I6 => ⟨_, H5, I6, q5⟩
    | ret u => obtain ⟨v, σ5, H5, I5, r5, q5⟩ := hq; exact name_goes (I5.unhold ok) hN hi hl fun s6 I6 => ⟨v, _, H5, I6, r5, q5⟩
end
end L2

set_option Elab.async false
set_option linter.all false
set_option maxRecDepth 100000
set_option maxHeartbeats 4000000
/-! Sets: within, told. Own work (made of a template for each statement that reaches them). -/
namespace K24
open PySem L2 Builtin.Str
def top (i : Nat) : Stmt := PySem.Challenge.pw_macrohouse_k24_two_claims.main.body.getD i (.Pass ⟨0, 0, 0, 0⟩)
abbrev sWithin : Stmt := top 12
abbrev sTold : Stmt := top 13
/-! ### the sets' mathematics -/
/-- the number n is the set of the ints ys -/
def BitsOf (n : Nat) (ys : List Int) : Prop := (∀ m : Nat, n.testBit m = decide ((m : Int) ∈ ys)) ∧ ∀ y ∈ ys, 0 ≤ y
theorem low_and {t q : Nat} : Builtin.bitAnd ((2 ^ t * (2 * q + 1) : Nat) : Int) (-((2 ^ t * (2 * q + 1) : Nat) : Int)) = ((2 ^ t : Nat) : Int) := by
  have hp := Nat.two_pow_pos t
  have hx : 0 < 2 ^ t * (2 * q + 1) := Nat.mul_pos hp (by omega)
  generalize hxe : 2 ^ t * (2 * q + 1) = x at hx
  have ha := Bits.and_pred t q
  rw [hxe] at ha
  unfold Builtin.bitAnd
  have d1 : decide (0 ≤ (x : Int)) = true := by simp
  have d2 : decide (0 ≤ -(x : Int)) = false := by simp; omega
  rw [d1, d2]
  show (x : Int) - (((x : Int).toNat &&& (Builtin.bitNot (-(x : Int))).toNat : Nat) : Int) = _
  have e1 : (Builtin.bitNot (-(x : Int))).toNat = x - 1 := by unfold Builtin.bitNot; omega
  rw [e1, Int.toNat_natCast, ha]
  have e2 : x = 2 ^ t + 2 ^ (t + 1) * q := by
    rw [← hxe, Nat.pow_succ, Nat.mul_add, Nat.mul_one]
    have : 2 ^ t * (2 * q) = 2 ^ t * 2 * q := by rw [Nat.mul_assoc]
    omega
  omega
theorem low_xor {t q : Nat} : Builtin.bitXor ((2 ^ t * (2 * q + 1) : Nat) : Int) ((2 ^ t : Nat) : Int) = ((2 ^ (t + 1) * q : Nat) : Int) := by
  unfold Builtin.bitXor Builtin.bitOr
  have e : Builtin.bitAnd (Builtin.bitNot ((2 ^ t * (2 * q + 1) : Nat) : Int)) (Builtin.bitNot ((2 ^ t : Nat) : Int)) = Builtin.bitNot (((2 ^ t * (2 * q + 1)) ||| 2 ^ t : Nat) : Int) := by
    unfold Builtin.bitAnd
    have d1 : ∀ z : Nat, decide (0 ≤ Builtin.bitNot (z : Int)) = false := fun z => by unfold Builtin.bitNot; simp; omega
    rw [d1, d1]
    have e1 : ∀ z : Nat, (Builtin.bitNot (Builtin.bitNot (z : Int))).toNat = z := fun z => by unfold Builtin.bitNot; omega
    show Builtin.bitNot (((Builtin.bitNot (Builtin.bitNot ((2 ^ t * (2 * q + 1) : Nat) : Int))).toNat ||| (Builtin.bitNot (Builtin.bitNot ((2 ^ t : Nat) : Int))).toNat : Nat) : Int) = _
    rw [e1, e1]
  rw [e, PyProof.Rows.bitAnd_pp (Int.natCast_nonneg _) (Int.natCast_nonneg _), Int.toNat_natCast, Int.toNat_natCast, Bits.or_low, Bits.and_low]
  have e2 : 2 ^ t * (2 * q + 1) = 2 ^ t + 2 ^ (t + 1) * q := by
    rw [Nat.pow_succ, Nat.mul_add, Nat.mul_one]
    have : 2 ^ t * (2 * q) = 2 ^ t * 2 * q := by rw [Nat.mul_assoc]
    omega
  unfold Builtin.bitNot
  omega
theorem or_nn (a b : Nat) : Builtin.bitOr (a : Int) (b : Int) = ((a ||| b : Nat) : Int) := by
  unfold Builtin.bitOr
  have e : Builtin.bitAnd (Builtin.bitNot (a : Int)) (Builtin.bitNot (b : Int)) = Builtin.bitNot ((a ||| b : Nat) : Int) := by
    unfold Builtin.bitAnd
    have d1 : ∀ z : Nat, decide (0 ≤ Builtin.bitNot (z : Int)) = false := fun z => by unfold Builtin.bitNot; simp; omega
    rw [d1, d1]
    have e1 : ∀ z : Nat, (Builtin.bitNot (Builtin.bitNot (z : Int))).toNat = z := fun z => by unfold Builtin.bitNot; omega
    show Builtin.bitNot (((Builtin.bitNot (Builtin.bitNot (a : Int))).toNat ||| (Builtin.bitNot (Builtin.bitNot (b : Int))).toNat : Nat) : Int) = _
    rw [e1, e1]
  rw [e]
  unfold Builtin.bitNot
  omega
theorem len_low (t : Nat) : ((Builtin.Int.intBits ((2 ^ t : Nat) : Int) : Nat) : Int) - 1 = (t : Int) := by
  have hp := Nat.two_pow_pos t
  unfold Builtin.Int.intBits
  have h0 : ¬ (((2 ^ t : Nat) : Int) == 0) = true := by
    rw [beq_iff_eq]; omega
  rw [if_neg h0, Int.natAbs_natCast, Nat.log2_two_pow]
  omega
/-! ### promises -/
def Sorted (ys : List Int) : Prop := ys.Pairwise (· < ·)
theorem and_nn (a b : Nat) : Builtin.bitAnd (a : Int) (b : Int) = ((a &&& b : Nat) : Int) := by
  unfold Builtin.bitAnd
  have d1 : ∀ z : Nat, decide (0 ≤ (z : Int)) = true := fun z => decide_eq_true (by omega)
  rw [d1, d1]
  rfl
theorem dec_V {x y : Int} : decide (V.int x = V.int y) = decide (x = y) := by
  rw [decide_eq_decide]; exact ⟨fun e => by injection e, fun e => by rw [e]⟩
/-- one set within another -/
def spWithin : Sp := fun vs H Q _ => ∃ x y : Nat, vs = [.int x, .int y] ∧ Q (.bl (decide (CM.In x y))) H
def spTold : Sp := fun vs H Q _ => ∃ (n : Nat) (ys : List Int), vs = [.int n] ∧ BitsOf n ys ∧ ys.length ≤ 1000 ∧ ∀ (l : Addr) (L : List Int), H l = none → Sorted L → (∀ z, z ∈ L ↔ z ∈ ys) → Q (.ref l) (upd H l (.lst (L.map V.int)))
section
variable {P : Program} {w : World} {K : PySem.W.Frag} {mg : Str → Option Value} {base : Heap}
theorem scWithin : FnScope ["one", "other"] ["one", "other"] (defScope sWithin) := ⟨rfl, rfl, rfl, by decide +kernel, rfl, by decide +kernel, by decide +kernel⟩
theorem ok_within {f : Addr} {fd : FuncData} (F : Fun K "within" "within" sWithin f fd) : FnOk P w K mg base CX0 1 f fd ["one", "other"] spWithin := by
  refine F.ok scWithin (fun vs H Q E h => ?_) (fun cdv A outer s H vs Q E hr h => ?_)
  · obtain ⟨x, y, rfl, _⟩ := h; rfl
  · obtain ⟨x, y, rfl, k⟩ := h
    refine ⟨_, pss_one (ps_ret (pe_cmpR op_eq (pe_op op_and (pv 0) (pv 1)) (pv 0) (nomark _))), ?_⟩
    refine ⟨_, rfl, _, rfl, _, _, rfl, rfl, _, rfl, rfl, ?_⟩
    have e : decide (V.int (Builtin.bitAnd (x : Int) (y : Int)) = V.int (x : Int)) = decide (CM.In x y) := by
      rw [dec_V, and_nn, decide_eq_decide]
      unfold CM.In
      omega
    show Q (.bl (decide (V.int (Builtin.bitAnd (x : Int) (y : Int)) = V.int (x : Int)))) H
    rw [e]
    exact k
theorem scTold : FnScope ["bits", "numbers", "left", "lowest"] ["bits"] (defScope sTold) := ⟨rfl, rfl, rfl, by decide +kernel, rfl, by decide +kernel, by decide +kernel⟩
theorem ok_told {f : Addr} {fd : FuncData} (F : Fun K "told" "told" sTold f fd) : FnOk P w K mg base CX0 1 f fd ["bits"] spTold := by
  refine F.ok scTold (fun vs H Q E h => ?_) (fun cdv A outer s H vs Q E hr h => ?_)
  · obtain ⟨n, ys, rfl, _⟩ := h; rfl
  · obtain ⟨n, ys, rfl, hb, hy, q⟩ := h
    have nd := scTold.nd
    refine ⟨_, pss_cons (ps_set (i := 1) nd rfl (Or.inl rfl) (pe_lst pa_nil))
      (pss_cons (ps_set (i := 2) nd rfl (Or.inl rfl) (pv 0))
      (pss_cons (ps_while PassesOwn.never (pt_cmpR op_gt (pv 2) pe_int (nomark _))
        (pss_cons (ps_set (i := 3) nd rfl (Or.inl rfl) (pe_op op_and (pv 2) (pe_un un_neg (pv 2))))
        (pss_cons (ps_expr (pe_bm PySem.F.plainAttrs_list PySem.F.slot_list_append PySem.F.type_list_append mt_append (pv 1) (pa_cons (pe_op op_sub (pe_bm0 PySem.F.plainAttrs_int PySem.F.slot_int_bit_length PySem.F.type_int_bit_length mt_bitlen (pv 3)) pe_int) pa_nil)))
        (pss_one (ps_set (i := 2) nd rfl (Or.inl rfl) (pe_op op_xor (pv 2) (pv 3)))))))
      (pss_one (ps_ret (pv 1))))), ?_⟩
    refine ⟨(by show 0 ≤ sizeLine; exact Nat.zero_le _), fun l hfr => ?_⟩
    refine ⟨_, rfl, ?_⟩
    refine while_by (fun σ H' => ∃ (L R : List Int) (r : Nat) (v : Option V), σ = [some (.int n), some (.ref l), some (.int r), v] ∧ H' = upd H l (.lst (L.map V.int)) ∧ Sorted L ∧ BitsOf r R ∧ (∀ x ∈ L, ∀ y ∈ R, x < y) ∧ (∀ z, z ∈ ys ↔ z ∈ L ∨ z ∈ R) ∧ L.Nodup ∧ ∀ z ∈ L, z ∈ ys)
      (fun σ _ => match σ with | [_, _, some (.int r), _] => r.toNat | _ => 0) ⟨[], ys, n, none, rfl, rfl, List.Pairwise.nil, hb, (fun _ h => by cases h), (fun z => by simp), List.nodup_nil, fun _ h => by cases h⟩ ?_ ?_
    · rintro σ H' ⟨L, R, r, v, rfl, rfl, hs, hR, hlr, hall, hnd, hsub⟩
      refine ⟨_, rfl, _, _, rfl, rfl, _, rfl, ?_⟩
      refine ite2 (fun hpos => ?_) (fun hz => ?_)
      · have hr0 : 0 < r := by rw [decide_eq_true_eq] at hpos; omega
        obtain ⟨t, q', hr'⟩ := Bits.low_split r hr0
        subst hr'
        refine ⟨_, rfl, _, rfl, _, rfl, _, _, rfl, rfl, ?_⟩
        dsimp only
        rw [low_and]
        have ht : (t : Int) ∈ R := by
          have := hR.1 t
          rw [Bits.tb_odd] at this
          simpa using this.symm
        have hlen : L.length < 1000 := by
          have hsub2 : ∀ z ∈ L ++ [(t : Int)], z ∈ ys := fun z hz => by
            rcases List.mem_append.mp hz with h | h
            · exact hsub z h
            · rw [List.mem_singleton.mp h]; exact (hall _).mpr (.inr ht)
          have hnd2 : (L ++ [(t : Int)]).Nodup := by
            rw [List.nodup_append]
            refine ⟨hnd, by simp, fun x hx y hy e => ?_⟩
            rw [List.mem_singleton.mp hy] at e
            have := hlr x hx t ht
            omega
          have := len_le_of_sub hnd2 hsub2
          rw [List.length_append, List.length_singleton] at this
          omega
        refine ⟨_, rfl, .inl ⟨rfl, _, SqL.of upd_same⟩, _, rfl, rfl, _, rfl, rfl, _, _, rfl, rfl, l, _, _, rfl, rfl, upd_same, ?_, ?_⟩
        · rw [List.length_map, sizeLine_eq]; omega
        dsimp only
        rw [len_low, upd_upd]
        refine ⟨_, rfl, _, rfl, _, _, rfl, rfl, ?_⟩
        dsimp only
        rw [low_xor]
        have hhi : ∀ m : Nat, (2 ^ (t + 1) * q').testBit m = decide ((m : Int) ∈ R.filter fun z => decide ((t : Int) < z)) := fun m => by
          have h1 := hR.1 m
          rw [Bits.tb_odd] at h1
          rw [Bool.eq_iff_iff, decide_eq_true_eq, List.mem_filter, decide_eq_true_eq]
          constructor
          · intro h
            rw [h, Bool.or_true] at h1
            exact ⟨by simpa using h1.symm, by have := Bits.tb_high h; omega⟩
          · rintro ⟨h2, h3⟩
            rw [decide_eq_true h2] at h1
            have : ¬ m = t := by omega
            simpa [this] using h1
        refine ⟨⟨L ++ [(t : Int)], R.filter fun z => decide ((t : Int) < z), 2 ^ (t + 1) * q', _, rfl, by rw [List.map_append]; rfl, ?_, ⟨hhi, fun y hy => hR.2 y (List.mem_filter.mp hy).1⟩, ?_, ?_, ?_, ?_⟩, ?_⟩
        · rw [Sorted, List.pairwise_append]
          refine ⟨hs, by simp, fun x hx y hy => ?_⟩
          rw [List.mem_singleton.mp hy]
          exact hlr x hx t ht
        · intro x hx y hy
          have hy' := List.mem_filter.mp hy
          rw [decide_eq_true_eq] at hy'
          rcases List.mem_append.mp hx with h | h
          · exact hlr x h y hy'.1
          · rw [List.mem_singleton.mp h]; exact hy'.2
        · intro z
          rw [hall z, List.mem_append, List.mem_singleton, List.mem_filter, decide_eq_true_eq]
          constructor
          · rintro (h | h)
            · exact .inl (.inl h)
            · have z0 := hR.2 z h
              obtain ⟨m, rfl⟩ : ∃ m : Nat, z = m := ⟨z.toNat, by omega⟩
              have h1 := hR.1 m
              rw [Bits.tb_odd, decide_eq_true h] at h1
              by_cases e : m = t
              · subst e; exact .inl (.inr rfl)
              · have h2 : (2 ^ (t + 1) * q').testBit m = true := by simpa [e] using h1
                exact .inr ⟨h, by have := Bits.tb_high h2; omega⟩
          · rintro ((h | h) | h)
            · exact .inl h
            · rw [h]; exact .inr ht
            · exact .inr h.1
        · rw [List.nodup_append]
          refine ⟨hnd, by simp, fun x hx y hy e => ?_⟩
          rw [List.mem_singleton.mp hy] at e
          have := hlr x hx t ht
          omega
        · intro z hz
          rcases List.mem_append.mp hz with h | h
          · exact hsub z h
          · rw [List.mem_singleton.mp h]; exact (hall _).mpr (.inr ht)
        · show (((2 ^ (t + 1) * q' : Nat) : Int)).toNat < (((2 ^ t * (2 * q' + 1) : Nat) : Int)).toNat
          rw [Int.toNat_natCast, Int.toNat_natCast, Nat.pow_succ, Nat.mul_add, Nat.mul_one]
          have := Nat.two_pow_pos t
          have : 2 ^ t * (2 * q') = 2 ^ t * 2 * q' := by rw [Nat.mul_assoc]
          omega
      · have hr0 : r = 0 := by rw [decide_eq_true_eq] at hz; omega
        subst hr0
        have hRe : ∀ z, ¬ z ∈ R := fun z hz' => by
          have z0 := hR.2 z hz'
          obtain ⟨m, rfl⟩ : ∃ m : Nat, z = m := ⟨z.toNat, by omega⟩
          have h1 := hR.1 m
          rw [decide_eq_true hz'] at h1
          simp at h1
        refine ⟨_, rfl, q l L hfr hs fun z => ?_⟩
        rw [hall z]
        exact ⟨.inl, fun h => h.elim id fun h => absurd h (hRe z)⟩
    · rintro σ H' Q1 Q2 hQ ⟨x, e, i, j, e1, e2, k, e3, h⟩
      exact ⟨x, e, i, j, e1, e2, k, e3, hQ _ _ h⟩

end
end K24

set_option Elab.async false
set_option linter.all false
set_option maxRecDepth 100000
set_option maxHeartbeats 4000000
/-! Claims: how they lie on the heap; put, open_to. Own work (made of a template for each statement that reaches them). -/
namespace K24
open PySem L2 Builtin.Str CM
abbrev sCInit : Stmt := inClass (top 15) 0
abbrev sCPut : Stmt := inClass (top 15) 1
abbrev sCOf : Stmt := inClass (top 15) 2
abbrev sCOpen : Stmt := inClass (top 15) 3
abbrev sLast : Stmt := top 16
/-- what is asked of the class and of the names -/
structure ClT (K : PySem.W.Frag) (mg : Str → Option Value) (C : Addr) : Prop where
  cl : Cls K C
  nR : NoAttr K C "rows"
  nB : NoAttr K C "by_last"
  mgC : mg "Claims" = some (.ref C)
  len : mg "len" = none
  list : mg "list" = none
  sorted : mg "sorted" = none
def keyL : Option Nat → Key
  | none => .inl none
  | some l => .inl (some (l : Int))
def valL : Option Nat → V
  | none => .non
  | some l => .int l
theorem keyL_inj {a b : Option Nat} (h : keyL a = keyL b) : a = b := by
  cases a with
  | none => cases b with
    | none => rfl
    | some y => exact nomatch Sum.inl.inj h
  | some x => cases b with
    | none => exact nomatch Sum.inl.inj h
    | some y =>
      have e := Option.some.inj (Sum.inl.inj h)
      have : x = y := by omega
      rw [this]
theorem kV_L (l : Option Nat) : valL l = kV (keyL l) := by cases l <;> rfl
abbrev Rw := List (Str × Nat)
def nums (ks : List Nat) : List V := ks.map fun (k : Nat) => V.int (k : Int)
/-- the parts of a Claims -/
structure CR where
  dx : Addr
  lr : Addr
  db : Addr
  D : Str → Option Addr
  L : Str → Option Nat → Option Addr
  kvs : List (Key × V)
  kv2 : Str → List (Key × V)
def Own (r : CR) (a : Addr) : Prop := a = r.lr ∨ a = r.db ∨ (∃ nm, r.D nm = some a) ∨ ∃ nm l, r.L nm l = some a
structure CL (C : Addr) (r : CR) (H : Hp) (x : Addr) (rows : Rw) (rv : List V) : Prop where
  ins : H x = some (.ins C r.dx [("rows", .ref r.lr), ("by_last", .ref r.db)])
  hlr : H r.lr = some (.lst rv)
  len : rv.length = rows.length
  row : ∀ (k : Nat) (n : Str) (b : Nat), rows[k]? = some (n, b) → ∃ t a m, rv[k]? = some (.ref t) ∧ H t = some (.tup [.str n, a, .int b, m])
  db : H r.db = some (.dK r.kvs)
  dget : ∀ nm, valV r.kvs (.inr nm) = (r.D nm).map V.ref
  dlen : r.kvs.length ≤ rows.length
  din : ∀ nm a, r.D nm = some a → H a = some (.dK (r.kv2 nm)) ∧ (r.kv2 nm).length ≤ rows.length ∧ ∀ l, valV (r.kv2 nm) (keyL l) = (r.L nm l).map V.ref
  lin : ∀ nm l a, r.L nm l = some a → H a = some (.lst (nums (bucket rows nm l)))
  lno : ∀ nm l, r.L nm l = none → bucket rows nm l = []
  dno : ∀ nm, r.D nm = none → ∀ l, r.L nm l = none
  injD : ∀ n m a, r.D n = some a → r.D m = some a → n = m
  injL : ∀ n l m k a, r.L n l = some a → r.L m k = some a → n = m ∧ l = k
  neD : ∀ n, r.D n ≠ some r.db
  neL : ∀ n l, r.L n l ≠ some r.lr
theorem CL.same {C : Addr} {r : CR} {H H' : Hp} {x : Addr} {rows : Rw} {rv : List V} (h : CL C r H x rows rv) (s : Same H H') : CL C r H' x rows rv where
  ins := s _ _ h.ins
  hlr := s _ _ h.hlr
  len := h.len
  row := fun k n b e => by obtain ⟨t, a, m, h1, h2⟩ := h.row k n b e; exact ⟨t, a, m, h1, s _ _ h2⟩
  db := s _ _ h.db
  dget := h.dget
  dlen := h.dlen
  din := fun nm a e => by obtain ⟨h1, h2, h3⟩ := h.din nm a e; exact ⟨s _ _ h1, h2, h3⟩
  lin := fun nm l a e => s _ _ (h.lin nm l a e)
  lno := h.lno
  dno := h.dno
  injD := h.injD
  injL := h.injL
  neD := h.neD
  neL := h.neL
/-- other things written than its own -/
theorem CL.off {C : Addr} {r : CR} {H H' : Hp} {x : Addr} {rows : Rw} {rv : List V} (h : CL C r H x rows rv) (s : ∀ b o, H b = some o → (Own r b ∨ b = x ∨ ∃ xs, o = .tup xs) → H' b = some o) : CL C r H' x rows rv where
  ins := s _ _ h.ins (.inr (.inl rfl))
  hlr := s _ _ h.hlr (.inl (.inl rfl))
  len := h.len
  row := fun k n b e => by obtain ⟨t, a, m, h1, h2⟩ := h.row k n b e; exact ⟨t, a, m, h1, s _ _ h2 (.inr (.inr ⟨_, rfl⟩))⟩
  db := s _ _ h.db (.inl (.inr (.inl rfl)))
  dget := h.dget
  dlen := h.dlen
  din := fun nm a e => by obtain ⟨h1, h2, h3⟩ := h.din nm a e; exact ⟨s _ _ h1 (.inl (.inr (.inr (.inl ⟨nm, e⟩)))), h2, h3⟩
  lin := fun nm l a e => s _ _ (h.lin nm l a e) (.inl (.inr (.inr (.inr ⟨nm, l, e⟩))))
  lno := h.lno
  dno := h.dno
  injD := h.injD
  injL := h.injL
  neD := h.neD
  neL := h.neL
theorem CL.lst {C : Addr} {r : CR} {H : Hp} {x : Addr} {rows : Rw} {rv : List V} (h : CL C r H x rows rv) {a : Addr} (o : Own r a) : ∃ u, H a = some u := by
  rcases o with e | e | ⟨nm, e⟩ | ⟨nm, l, e⟩
  · exact ⟨_, by rw [e]; exact h.hlr⟩
  · exact ⟨_, by rw [e]; exact h.db⟩
  · exact ⟨_, (h.din nm a e).1⟩
  · exact ⟨_, h.lin nm l a e⟩
/-! ### promises -/
def spCInit (C : Addr) : Sp := fun vs H Q _ => ∃ x dx, vs = [.ref x] ∧ H x = some (.ins C dx []) ∧ ∀ (H' : Hp) (r : CR), CL C r H' x [] [] → (∀ b o, b ≠ x → H b = some o → H' b = some o) → (∀ b, Own r b → H b = none) → Q .non H'
def spLast : Sp := fun vs H Q _ => ∃ n : Nat, vs = [.int n] ∧ Q (valL (lastOf n)) H
def spPut (C : Addr) : Sp := fun vs H Q _ => ∃ (x : Addr) (nm : Str) (at_ m : V) (b : Nat) (r : CR) (rows : Rw) (rv : List V), vs = [.ref x, .str nm, at_, .int b, m] ∧ CL C r H x rows rv ∧ rows.length ≤ 1000 ∧
  ∀ (H' : Hp) (r' : CR) (t : Addr), CL C r' H' x (rows ++ [(nm, b)]) (rv ++ [.ref t]) → H t = none → H' t = some (.tup [.str nm, at_, .int b, m]) → (∀ c o, ¬ Own r c → H c = some o → H' c = some o) → (∀ c, Own r' c → Own r c ∨ H c = none) → Q (.int (rows.length : Int)) H'
def spOpen (C : Addr) : Sp := fun vs H Q _ => ∃ (x : Addr) (nm : Str) (b : Nat) (ys : List Int) (r : CR) (rows : Rw) (rv : List V), vs = [.ref x, .str nm, .int b] ∧ CL C r H x rows rv ∧ rows.length ≤ 1000 ∧ (opens rows nm b).length < 64 ∧ BitsOf b ys ∧ ys.length ≤ 1000 ∧
  ∀ (H' : Hp) (D : Addr), Same H H' → H D = none → H' D = some (.lst (nums (opens rows nm b))) → Q (.ref D) H'
section
variable {P : Program} {w : World} {K : PySem.W.Frag} {mg : Str → Option Value} {base : Heap} {C : Addr}
theorem scCInit : FnScope ["self"] ["self"] (defScope sCInit) := ⟨rfl, rfl, rfl, by decide +kernel, rfl, by decide +kernel, by decide +kernel⟩
theorem ok_cinit {f : Addr} {fd : FuncData} (F : Fun K "__init__" "Claims.__init__" sCInit f fd) (T : ClT K mg C) : FnOk P w K mg base CX0 1 f fd ["self"] (spCInit C) := by
  refine F.ok scCInit (fun vs H Q E h => ?_) (fun cdv A outer s H vs Q E hr h => ?_)
  · obtain ⟨x, dx, rfl, _⟩ := h; rfl
  · obtain ⟨x, dx, rfl, hx, q⟩ := h
    refine ⟨_, pss_cons (ps_fld (pv 0) (pe_lst pa_nil) rfl) (pss_one (ps_fld (pv 0) pe_dnewK rfl)), ?_⟩
    refine ⟨Nat.zero_le _, fun l hl => ?_⟩
    have n1 : x ≠ l := ne_of_none hx hl
    refine ⟨_, rfl, x, C, dx, [], rfl, by rw [upd_ne n1]; exact hx, T.cl, T.nR, by decide, ?_⟩
    refine fun d hd => ?_
    have hd2 : d ≠ x := fun e => by rw [e, upd_same] at hd; cases hd
    have hd3 : d ≠ l := fun e => by rw [e, upd_ne (Ne.symm n1), upd_same] at hd; cases hd
    rw [upd_ne hd2, upd_ne hd3] at hd
    refine ⟨_, rfl, x, C, dx, _, rfl, by rw [upd_ne (Ne.symm hd2), upd_same], T.cl, T.nB, by show 1 < 1000; decide, ?_⟩
    refine q _ ⟨dx, l, d, fun _ => none, fun _ _ => none, [], fun _ => []⟩ ⟨upd_same, ?_, rfl, (fun k n b e => by simp at e), ?_, fun _ => rfl, Nat.le_refl _, (fun _ _ e => nomatch e), (fun _ _ _ e => nomatch e), fun _ _ _ => rfl, fun _ _ _ => rfl, (fun _ _ _ e => nomatch e), (fun _ _ _ _ _ e => nomatch e), (fun _ e => nomatch e), fun _ _ e => nomatch e⟩ (fun b o hb e => ?_) (fun b o => ?_)
    · show upd _ x _ l = _
      rw [upd_ne (Ne.symm n1), upd_ne (Ne.symm hd3), upd_ne (Ne.symm n1), upd_same]
    · show upd _ x _ d = _
      rw [upd_ne hd2, upd_same]
    · rw [upd_ne hb, upd_ne (ne_of_none e hd), upd_ne hb, upd_ne (ne_of_none e hl)]; exact e
    · rcases o with e | e | ⟨_, e⟩ | ⟨_, _, e⟩
      · rw [show b = l from e]; exact hl
      · rw [show b = d from e]; exact hd
      · exact nomatch e
      · exact nomatch e
theorem scLast : FnScope ["bits"] ["bits"] (defScope sLast) := ⟨rfl, rfl, rfl, by decide +kernel, rfl, by decide +kernel, by decide +kernel⟩
theorem ok_last {f : Addr} {fd : FuncData} (F : Fun K "last_of" "last_of" sLast f fd) : FnOk P w K mg base CX0 1 f fd ["bits"] spLast := by
  refine F.ok scLast (fun vs H Q E h => ?_) (fun cdv A outer s H vs Q E hr h => ?_)
  · obtain ⟨n, rfl, _⟩ := h; rfl
  · obtain ⟨n, rfl, q⟩ := h
    refine ⟨_, pss_one (ps_ret (pe_ifExp (pt_cmpR op_eq (pv 0) pe_int (nomark _)) pe_non (pe_op op_sub (pe_bm0 PySem.F.plainAttrs_int PySem.F.slot_int_bit_length PySem.F.type_int_bit_length mt_bitlen (pv 0)) pe_int))), ?_⟩
    unfold lastOf at q
    refine ⟨_, rfl, rfl, decide (n = 0), by rw [decide_eq_decide.mpr (show (V.int (n : Int) = V.int 0) ↔ n = 0 from ⟨fun e => by injection e with e; omega, fun e => by rw [e]; rfl⟩)], ?_⟩
    by_cases h0 : n = 0
    · rw [decide_eq_true h0]
      rw [if_pos h0] at q
      exact iteT q
    · rw [decide_eq_false h0]
      rw [if_neg h0] at q
      refine iteF ⟨_, rfl, rfl, _, rfl, rfl, _, _, rfl, rfl, ?_⟩
      have e : ((Builtin.Int.intBits (n : Int) : Nat) : Int) - 1 = ((Nat.log2 n : Nat) : Int) := by
        unfold Builtin.Int.intBits
        rw [if_neg (by rw [beq_iff_eq]; omega), Int.natAbs_natCast]
        omega
      dsimp only
      rw [e]
      exact q
end
end K24

set_option Elab.async false
set_option linter.all false
set_option maxRecDepth 100000
set_option maxHeartbeats 4000000
/-! Claims: put. Own work (made of a template for each statement that reaches them). -/
namespace K24
open PySem L2 Builtin.Str CM
theorem nums_snoc (ks : List Nat) (k : Nat) : nums ks ++ [.int (k : Int)] = nums (ks ++ [k]) := by unfold nums; rw [List.map_append]; rfl
section
variable {C : Addr} {r : CR} {H H' : Hp} {x : Addr} {rows : Rw} {rv : List V} {nm : Str} {b : Nat} {t : Addr} {at_ m : V}
theorem CL.row_new (h : CL C r H x rows rv) (keep : ∀ e xs, H e = some (.tup xs) → H' e = some (.tup xs)) (ft : H' t = some (.tup [.str nm, at_, .int b, m])) :
    ∀ (k : Nat) (n : Str) (c : Nat), (rows ++ [(nm, b)])[k]? = some (n, c) → ∃ t' a' m', (rv ++ [V.ref t])[k]? = some (.ref t') ∧ H' t' = some (.tup [.str n, a', .int c, m']) := fun k n c e => by
  by_cases hk : k < rows.length
  · rw [List.getElem?_append_left hk] at e
    obtain ⟨t', a', m', h1, h2⟩ := h.row k n c e
    exact ⟨t', a', m', by rw [List.getElem?_append_left (by rw [h.len]; exact hk)]; exact h1, keep _ _ h2⟩
  · have hk2 : k = rows.length := by
      have := (List.getElem?_eq_some_iff.mp e).1
      rw [List.length_append, List.length_singleton] at this
      omega
    subst hk2
    rw [List.getElem?_append_right (Nat.le_refl _), Nat.sub_self] at e
    obtain ⟨rfl, rfl⟩ : nm = n ∧ b = c := by injection e with e; injection e with e1 e2; exact ⟨e1, e2⟩
    exact ⟨t, at_, m, by rw [← h.len, List.getElem?_append_right (Nat.le_refl _), Nat.sub_self]; rfl, ft⟩
theorem buck_new {n : Str} {k : Option Nat} (hne : ¬ (nm = n ∧ lastOf b = k)) : bucket (rows ++ [(nm, b)]) n k = bucket rows n k := by
  rw [bucket_snoc, if_neg hne, List.append_nil]
theorem buck_same : bucket (rows ++ [(nm, b)]) nm (lastOf b) = bucket rows nm (lastOf b) ++ [rows.length] := by
  rw [bucket_snoc, if_pos ⟨rfl, rfl⟩]
theorem kind_ne {a c : Addr} {o u : HO} (h1 : H a = some o) (h2 : H c = some u) (h : o ≠ u) : a ≠ c := fun e => by
  subst e; rw [h1] at h2; injection h2 with h2; exact h h2
/-- its list is there -/
theorem CL.put_A (h : CL C r H x rows rv) {a c : Addr} (hD : r.D nm = some a) (hL : r.L nm (lastOf b) = some c) (keep : ∀ e o, H e = some o → e ≠ r.lr → e ≠ c → H' e = some o) (f1 : H' r.lr = some (.lst (rv ++ [.ref t])))
    (ft : H' t = some (.tup [.str nm, at_, .int b, m])) (fc : H' c = some (.lst (nums (bucket rows nm (lastOf b)) ++ [.int (rows.length : Int)]))) : CL C r H' x (rows ++ [(nm, b)]) (rv ++ [.ref t]) where
  ins := keep _ _ h.ins (kind_ne h.ins h.hlr (fun e => nomatch e)) (kind_ne h.ins (h.lin _ _ _ hL) (fun e => nomatch e))
  hlr := f1
  len := by rw [List.length_append, List.length_append, h.len]; rfl
  row := h.row_new (fun e xs q => keep _ _ q (kind_ne q h.hlr (fun e => nomatch e)) (kind_ne q (h.lin _ _ _ hL) (fun e => nomatch e))) ft
  db := keep _ _ h.db (kind_ne h.db h.hlr (fun e => nomatch e)) (kind_ne h.db (h.lin _ _ _ hL) (fun e => nomatch e))
  dget := h.dget
  dlen := by have := h.dlen; rw [List.length_append]; omega
  din := fun n a' e => by
    obtain ⟨h1, h2, h3⟩ := h.din n a' e
    exact ⟨keep _ _ h1 (kind_ne h1 h.hlr (fun e => nomatch e)) (kind_ne h1 (h.lin _ _ _ hL) (fun e => nomatch e)), by rw [List.length_append]; omega, h3⟩
  lin := fun n k a' e => by
    by_cases hc : a' = c
    · subst hc
      obtain ⟨rfl, rfl⟩ := h.injL _ _ _ _ _ e hL
      rw [fc, buck_same, nums_snoc]
    · rw [buck_new (fun z => hc (by rw [z.1, z.2, e] at hL; exact Option.some.inj hL))]
      exact keep _ _ (h.lin n k a' e) (fun z => h.neL n k (by rw [← z]; exact e)) hc
  lno := fun n k e => by
    rw [buck_new (fun z => by rw [z.1, z.2, e] at hL; cases hL)]
    exact h.lno n k e
  dno := h.dno
  injD := h.injD
  injL := h.injL
  neD := h.neD
  neL := h.neL
def setL (L : Str → Option Nat → Option Addr) (nm : Str) (l : Option Nat) (q : Addr) : Str → Option Nat → Option Addr := fun n k => if n = nm ∧ k = l then some q else L n k
theorem setL_same {L : Str → Option Nat → Option Addr} {nm : Str} {l : Option Nat} {q : Addr} : setL L nm l q nm l = some q := if_pos ⟨rfl, rfl⟩
theorem setL_ne {L : Str → Option Nat → Option Addr} {nm : Str} {l : Option Nat} {q : Addr} {n : Str} {k : Option Nat} (h : ¬ (n = nm ∧ k = l)) : setL L nm l q n k = L n k := if_neg h
def setN {α : Type} (D : Str → α) (nm : Str) (v : α) : Str → α := fun n => if n = nm then v else D n
theorem setN_same {α : Type} {D : Str → α} {nm : Str} {v : α} : setN D nm v nm = v := if_pos rfl
theorem setN_ne {α : Type} {D : Str → α} {nm : Str} {v : α} {n : Str} (h : ¬ n = nm) : setN D nm v n = D n := if_neg h
/-- its dict is there, not its list -/
theorem CL.put_B (h : CL C r H x rows rv) {a q : Addr} (hD : r.D nm = some a) (hL : r.L nm (lastOf b) = none) (hq : H q = none) (keep : ∀ e o, H e = some o → e ≠ r.lr → e ≠ a → H' e = some o) (f1 : H' r.lr = some (.lst (rv ++ [.ref t])))
    (ft : H' t = some (.tup [.str nm, at_, .int b, m])) (fa : H' a = some (.dK (putK (r.kv2 nm) (keyL (lastOf b)) (.ref q)))) (fq : H' q = some (.lst [.int (rows.length : Int)])) :
    CL C { r with L := setL r.L nm (lastOf b) q, kv2 := setN r.kv2 nm (putK (r.kv2 nm) (keyL (lastOf b)) (.ref q)) } H' x (rows ++ [(nm, b)]) (rv ++ [.ref t]) := by
  obtain ⟨ha, hl2, hg⟩ := h.din nm a hD
  have none_q : ∀ {n k e}, r.L n k = some e → e ≠ q := fun {n k e} z w => by have := h.lin _ _ _ z; rw [w, hq] at this; cases this
  refine ⟨?_, f1, ?_, ?_, ?_, h.dget, ?_, fun n a' e => ?_, fun n k a' e => ?_, fun n k e => ?_, fun n e k => ?_, h.injD, fun n k n' k' a' e e' => ?_, h.neD, fun n k e => ?_⟩
  · exact keep _ _ h.ins (kind_ne h.ins h.hlr (fun e => nomatch e)) (kind_ne h.ins ha (fun e => nomatch e))
  · rw [List.length_append, List.length_append, h.len]; rfl
  · exact h.row_new (fun e xs z => keep _ _ z (kind_ne z h.hlr (fun e => nomatch e)) (kind_ne z ha (fun e => nomatch e))) ft
  · exact keep _ _ h.db (kind_ne h.db h.hlr (fun e => nomatch e)) (fun z => h.neD nm (by rw [hD]; exact congrArg some z.symm))
  · have := h.dlen; rw [List.length_append]; show r.kvs.length ≤ _; omega
  · obtain ⟨h1, h2, h3⟩ := h.din n a' e
    by_cases hn : n = nm
    · subst hn
      have : a' = a := by rw [hD] at e; exact (Option.some.inj e).symm
      subst this
      refine ⟨by show H' a' = some (.dK (setN _ _ _ _)); rw [setN_same]; exact fa, ?_, fun l => ?_⟩
      · show List.length (setN _ _ _ _) ≤ _
        rw [setN_same, List.length_append, List.length_singleton]
        have := length_putK (r.kv2 n) (keyL (lastOf b)) (.ref q)
        omega
      · show valV (setN _ _ _ _) _ = Option.map _ (setL _ _ _ _ _ _)
        rw [setN_same, valV_put]
        by_cases hl : l = lastOf b
        · subst hl; rw [if_pos rfl, setL_same]; rfl
        · rw [if_neg (fun z => hl (keyL_inj z)), setL_ne (fun z => hl z.2)]; exact hg l
    · refine ⟨?_, ?_, fun l => ?_⟩
      · show H' a' = some (.dK (setN _ _ _ _))
        rw [setN_ne hn]
        exact keep _ _ h1 (kind_ne h1 h.hlr (fun e => nomatch e)) (fun z => hn (h.injD _ _ _ e (by rw [z]; exact hD)))
      · show List.length (setN _ _ _ _) ≤ _
        rw [setN_ne hn, List.length_append]; omega
      · show valV (setN _ _ _ _) _ = Option.map _ (setL _ _ _ _ _ _)
        rw [setN_ne hn, setL_ne (fun z => hn z.1)]; exact h3 l
  · by_cases hc : n = nm ∧ k = lastOf b
    · obtain ⟨rfl, rfl⟩ := hc
      have e : setL r.L n (lastOf b) q n (lastOf b) = some a' := e
      rw [setL_same] at e
      rw [← Option.some.inj e, fq, buck_same, h.lno _ _ hL]; rfl
    · have e : setL r.L nm (lastOf b) q n k = some a' := e
      rw [setL_ne hc] at e
      rw [buck_new (fun z => hc ⟨z.1.symm, z.2.symm⟩)]
      have h1 := h.lin n k a' e
      exact keep _ _ h1 (fun z => h.neL n k (by rw [← z]; exact e)) (kind_ne h1 ha (fun e => nomatch e))
  · by_cases hc : n = nm ∧ k = lastOf b
    · obtain ⟨rfl, rfl⟩ := hc
      have e : setL r.L n (lastOf b) q n (lastOf b) = none := e
      rw [setL_same] at e; cases e
    · have e : setL r.L nm (lastOf b) q n k = none := e
      rw [setL_ne hc] at e
      rw [buck_new (fun z => hc ⟨z.1.symm, z.2.symm⟩)]
      exact h.lno n k e
  · show setL _ _ _ _ n k = none
    rw [setL_ne (fun z => by rw [z.1, hD] at e; cases e)]
    exact h.dno n e k
  · have e : setL r.L nm (lastOf b) q n k = some a' := e
    have e' : setL r.L nm (lastOf b) q n' k' = some a' := e'
    by_cases hc : n = nm ∧ k = lastOf b <;> by_cases hc' : n' = nm ∧ k' = lastOf b
    · exact ⟨hc.1.trans hc'.1.symm, hc.2.trans hc'.2.symm⟩
    · rw [hc.1, hc.2, setL_same] at e
      rw [setL_ne hc'] at e'
      exact absurd (Option.some.inj e).symm (none_q e')
    · rw [hc'.1, hc'.2, setL_same] at e'
      rw [setL_ne hc] at e
      exact absurd (Option.some.inj e').symm (none_q e)
    · rw [setL_ne hc] at e
      rw [setL_ne hc'] at e'
      exact h.injL _ _ _ _ _ e e'
  · have e : setL r.L nm (lastOf b) q n k = some r.lr := e
    by_cases hc : n = nm ∧ k = lastOf b
    · rw [hc.1, hc.2, setL_same] at e
      have := h.hlr
      rw [← Option.some.inj e, hq] at this; cases this
    · rw [setL_ne hc] at e
      exact h.neL n k e
/-- its dict is not there -/
theorem CL.put_C (h : CL C r H x rows rv) {p q : Addr} (hD : r.D nm = none) (hp : H p = none) (hq : H q = none) (hpq : p ≠ q) (keep : ∀ e o, H e = some o → e ≠ r.lr → e ≠ r.db → H' e = some o) (f1 : H' r.lr = some (.lst (rv ++ [.ref t])))
    (ft : H' t = some (.tup [.str nm, at_, .int b, m])) (fd : H' r.db = some (.dK (putK r.kvs (.inr nm) (.ref p)))) (fp : H' p = some (.dK [(keyL (lastOf b), .ref q)])) (fq : H' q = some (.lst [.int (rows.length : Int)])) :
    CL C { r with D := setN r.D nm (some p), L := setL r.L nm (lastOf b) q, kvs := putK r.kvs (.inr nm) (.ref p), kv2 := setN r.kv2 nm [(keyL (lastOf b), .ref q)] } H' x (rows ++ [(nm, b)]) (rv ++ [.ref t]) := by
  have hL := h.dno nm hD
  have none_q : ∀ {n k e}, r.L n k = some e → e ≠ q := fun {n k e} z w => by have := h.lin _ _ _ z; rw [w, hq] at this; cases this
  have none_p : ∀ {n e}, r.D n = some e → e ≠ p := fun {n e} z w => by have := (h.din _ _ z).1; rw [w, hp] at this; cases this
  refine ⟨?_, f1, ?_, ?_, fd, fun n => ?_, ?_, fun n a' e => ?_, fun n k a' e => ?_, fun n k e => ?_, fun n e k => ?_, fun n n' a' e e' => ?_, fun n k n' k' a' e e' => ?_, fun n e => ?_, fun n k e => ?_⟩
  · exact keep _ _ h.ins (kind_ne h.ins h.hlr (fun e => nomatch e)) (kind_ne h.ins h.db (fun e => nomatch e))
  · rw [List.length_append, List.length_append, h.len]; rfl
  · exact h.row_new (fun e xs z => keep _ _ z (kind_ne z h.hlr (fun e => nomatch e)) (kind_ne z h.db (fun e => nomatch e))) ft
  · show valV (putK _ _ _) _ = Option.map _ (setN _ _ _ _)
    rw [valV_put]
    by_cases hn : n = nm
    · subst hn; rw [if_pos rfl, setN_same]; rfl
    · rw [if_neg (fun z => hn (Sum.inr.inj z)), setN_ne hn]; exact h.dget n
  · show (putK r.kvs _ _).length ≤ _
    have := length_putK r.kvs (.inr nm : Key) (.ref p)
    have := h.dlen
    rw [List.length_append, List.length_singleton]; omega
  · have e : setN r.D nm (some p) n = some a' := e
    by_cases hn : n = nm
    · subst hn
      rw [setN_same] at e
      have := Option.some.inj e
      subst this
      refine ⟨by show H' p = some (.dK (setN _ _ _ _)); rw [setN_same]; exact fp, ?_, fun l => ?_⟩
      · show List.length (setN _ _ _ _) ≤ _
        rw [setN_same, List.length_append, List.length_singleton, List.length_singleton]; omega
      · show valV (setN _ _ _ _) _ = Option.map _ (setL _ _ _ _ _ _)
        rw [setN_same]
        by_cases hl : l = lastOf b
        · subst hl; rw [setL_same, valV_pos rfl]; rfl
        · rw [setL_ne (fun z => hl z.2), hL, valV_neg (fun z => hl (keyL_inj z).symm)]; rfl
    · rw [setN_ne hn] at e
      obtain ⟨h1, h2, h3⟩ := h.din n a' e
      refine ⟨?_, ?_, fun l => ?_⟩
      · show H' a' = some (.dK (setN _ _ _ _))
        rw [setN_ne hn]
        exact keep _ _ h1 (kind_ne h1 h.hlr (fun e => nomatch e)) (fun z => h.neD n (by rw [e, z]))
      · show List.length (setN _ _ _ _) ≤ _
        rw [setN_ne hn, List.length_append]; omega
      · show valV (setN _ _ _ _) _ = Option.map _ (setL _ _ _ _ _ _)
        rw [setN_ne hn, setL_ne (fun z => hn z.1)]; exact h3 l
  · have e : setL r.L nm (lastOf b) q n k = some a' := e
    by_cases hc : n = nm ∧ k = lastOf b
    · obtain ⟨rfl, rfl⟩ := hc
      rw [setL_same] at e
      rw [← Option.some.inj e, fq, buck_same, h.lno _ _ (hL _)]; rfl
    · rw [setL_ne hc] at e
      rw [buck_new (fun z => hc ⟨z.1.symm, z.2.symm⟩)]
      have h1 := h.lin n k a' e
      exact keep _ _ h1 (fun z => h.neL n k (by rw [← z]; exact e)) (kind_ne h1 h.db (fun e => nomatch e))
  · have e : setL r.L nm (lastOf b) q n k = none := e
    by_cases hc : n = nm ∧ k = lastOf b
    · obtain ⟨rfl, rfl⟩ := hc
      rw [setL_same] at e; cases e
    · rw [setL_ne hc] at e
      rw [buck_new (fun z => hc ⟨z.1.symm, z.2.symm⟩)]
      exact h.lno n k e
  · have e : setN r.D nm (some p) n = none := e
    by_cases hn : n = nm
    · rw [hn, setN_same] at e; cases e
    · rw [setN_ne hn] at e
      show setL _ _ _ _ n k = none
      rw [setL_ne (fun z => hn z.1)]
      exact h.dno n e k
  · have e : setN r.D nm (some p) n = some a' := e
    have e' : setN r.D nm (some p) n' = some a' := e'
    by_cases hn : n = nm <;> by_cases hn' : n' = nm
    · rw [hn, hn']
    · rw [hn, setN_same] at e
      rw [setN_ne hn'] at e'
      exact absurd (Option.some.inj e).symm (none_p e')
    · rw [hn', setN_same] at e'
      rw [setN_ne hn] at e
      exact absurd (Option.some.inj e').symm (none_p e)
    · rw [setN_ne hn] at e
      rw [setN_ne hn'] at e'
      exact h.injD _ _ _ e e'
  · have e : setL r.L nm (lastOf b) q n k = some a' := e
    have e' : setL r.L nm (lastOf b) q n' k' = some a' := e'
    by_cases hc : n = nm ∧ k = lastOf b <;> by_cases hc' : n' = nm ∧ k' = lastOf b
    · exact ⟨hc.1.trans hc'.1.symm, hc.2.trans hc'.2.symm⟩
    · rw [hc.1, hc.2, setL_same] at e
      rw [setL_ne hc'] at e'
      exact absurd (Option.some.inj e).symm (none_q e')
    · rw [hc'.1, hc'.2, setL_same] at e'
      rw [setL_ne hc] at e
      exact absurd (Option.some.inj e').symm (none_q e)
    · rw [setL_ne hc] at e
      rw [setL_ne hc'] at e'
      exact h.injL _ _ _ _ _ e e'
  · have e : setN r.D nm (some p) n = some r.db := e
    by_cases hn : n = nm
    · rw [hn, setN_same] at e
      have := h.db
      rw [← Option.some.inj e, hp] at this; cases this
    · rw [setN_ne hn] at e
      exact h.neD n e
  · have e : setL r.L nm (lastOf b) q n k = some r.lr := e
    by_cases hc : n = nm ∧ k = lastOf b
    · rw [hc.1, hc.2, setL_same] at e
      have := h.hlr
      rw [← Option.some.inj e, hq] at this; cases this
    · rw [setL_ne hc] at e
      exact h.neL n k e
end
end K24

set_option Elab.async false
set_option linter.all false
set_option maxRecDepth 100000
set_option maxHeartbeats 4000000
/-! Claims: put, open_to. Own work (made of a template for each statement that reaches them). -/
namespace K24
open PySem L2 Builtin.Str CM
section
variable {P : Program} {w : World} {K : PySem.W.Frag} {mg : Str → Option Value} {base : Heap} {C : Addr}
theorem scCPut : FnScope ["self", "name", "at", "bits", "meaning", "number", "numbers"] ["self", "name", "at", "bits", "meaning"] (defScope sCPut) := ⟨rfl, rfl, rfl, by decide +kernel, rfl, by decide +kernel, by decide +kernel⟩
theorem ok_put {f fL : Addr} {fd fdL : FuncData} (F : Fun K "put" "Claims.put" sCPut f fd) (T : ClT K mg C) (FL : Fun K "last_of" "last_of" sLast fL fdL) (bL : Binds K fdL ["bits"] []) (mL : mg "last_of" = some (.ref fL)) :
    FnOk P w K mg base CX0 2 f fd ["self", "name", "at", "bits", "meaning"] (spPut C) := by
  have GL : FnOk P w K mg base CX0 1 fL fdL ["bits"] spLast := ok_last FL
  refine F.ok scCPut (fun vs H Q E h => ?_) (fun cdv A outer s H vs Q E hr h => ?_)
  · obtain ⟨x, nm, at_, m, b, r, rows, rv, rfl, _⟩ := h; rfl
  · obtain ⟨x, nm, at_, m, b, r, rows, rv, rfl, h, hlen, q⟩ := h
    have nd := scCPut.nd
    refine ⟨_, pss_cons (ps_set (i := 5) nd rfl (Or.inl rfl) (pe_callB call_len_seq (by rfl) T.len bt_len (pa_cons (pe_fld (pv 0) rfl : PE _ _ (tFld K (tVar 0) ("rows" : Str))) pa_nil)))
      (pss_cons (ps_expr (pe_bm PySem.F.plainAttrs_list PySem.F.slot_list_append PySem.F.type_list_append mt_append (pe_fld (pv 0) rfl : PE _ _ (tFld K (tVar 0) ("rows" : Str))) (pa_cons (pe_tup (pa_cons (pv 1) (pa_cons (pv 2) (pa_cons (pv 3) (pa_cons (pv 4) pa_nil))))) pa_nil)))
      (pss_cons (ps_set (i := 6) nd rfl (Or.inl rfl) (pe_ddef (pe_fld (pv 0) rfl : PE _ _ (tFld K (tVar 0) ("by_last" : Str))) (pv 1) pe_dnewK ⟨rfl, rfl, rfl, rfl⟩))
      (pss_cons (ps_expr (pe_bm PySem.F.plainAttrs_list PySem.F.slot_list_append PySem.F.type_list_append mt_append (pe_ddef (pv 6) (pe_call GL hr (by rfl) mL FL.kp bL .nil pass0 (pa_cons (pv 3) pa_nil)) (pe_lst pa_nil) ⟨rfl, rfl, rfl, rfl⟩) (pa_cons (pv 5) pa_nil)))
      (pss_one (ps_ret (pv 5)))))), ?_⟩
    -- the number
    refine ⟨_, rfl, x, C, r.dx, _, .ref r.lr, rfl, h.ins, T.cl, T.nR, rfl, r.lr, _, rfl, .inl (SqL.of h.hlr), ?_⟩
    rw [h.len]
    -- the row
    refine ⟨_, rfl, x, C, r.dx, _, .ref r.lr, rfl, h.ins, T.cl, T.nR, rfl, .inl ⟨rfl, _, SqL.of h.hlr⟩, _, rfl, _, rfl, _, rfl, _, rfl, by show 4 ≤ sizeLine; rw [sizeLine_eq]; decide, fun t ht => ?_⟩
    have st := same_upd (o := .tup [.str nm, at_, .int b, m]) ht
    refine ⟨r.lr, _, _, rfl, rfl, st _ _ h.hlr, by rw [h.len, sizeLine_eq]; omega, ?_⟩
    have ntl : t ≠ r.lr := fun e => by rw [e] at ht; rw [h.hlr] at ht; cases ht
    have ntx : t ≠ x := fun e => by rw [e] at ht; rw [h.ins] at ht; cases ht
    have nxl : x ≠ r.lr := kind_ne h.ins h.hlr (fun e => nomatch e)
    have ndl : r.db ≠ r.lr := kind_ne h.db h.hlr (fun e => nomatch e)
    -- what is there behind the row
    have keep2 : ∀ e o, H e = some o → e ≠ r.lr → upd (upd H t (.tup [.str nm, at_, .int b, m])) r.lr (.lst (rv ++ [.ref t])) e = some o := fun e o he n => by rw [upd_ne n]; exact st _ _ he
    have none2 : ∀ e, upd (upd H t (.tup [.str nm, at_, .int b, m])) r.lr (.lst (rv ++ [.ref t])) e = none → H e = none ∧ e ≠ t ∧ e ≠ r.lr := fun e he => by
      have n1 : e ≠ r.lr := fun z => by rw [z, upd_same] at he; cases he
      rw [upd_ne n1] at he
      have n2 : e ≠ t := fun z => by rw [z, upd_same] at he; cases he
      rw [upd_ne n2] at he
      exact ⟨he, n2, n1⟩
    have f1 : upd (upd H t (.tup [.str nm, at_, .int b, m])) r.lr (.lst (rv ++ [.ref t])) r.lr = some (.lst (rv ++ [.ref t])) := upd_same
    have ft : upd (upd H t (.tup [.str nm, at_, .int b, m])) r.lr (.lst (rv ++ [.ref t])) t = some (.tup [.str nm, at_, .int b, m]) := by rw [upd_ne ntl, upd_same]
    generalize upd (upd H t (.tup [.str nm, at_, .int b, m])) r.lr (.lst (rv ++ [.ref t])) = H2 at keep2 none2 f1 ft ⊢
    have hdb2 := keep2 _ _ h.db ndl
    have notown : ∀ e, ¬ Own r e → e ≠ r.lr := fun e n z => n (.inl z)
    -- its dict
    refine ⟨_, rfl, x, C, r.dx, _, .ref r.db, rfl, keep2 _ _ h.ins nxl, T.cl, T.nB, rfl, r.db, rfl, .inl ⟨_, .inl hdb2⟩, _, rfl, fun p hp => ?_⟩
    obtain ⟨hpn, npt, npl⟩ := none2 p hp
    have sp := same_upd (o := .dK []) hp
    refine ⟨r.kvs, .inr nm, sp _ _ hdb2, rfl, by have := h.dlen; rw [sizeLine_eq]; omega, fun v hv => ?_, fun hv => ?_⟩
    · -- there
      rw [h.dget] at hv
      obtain ⟨a, hD, rfl⟩ := Option.map_eq_some_iff.mp hv
      obtain ⟨ha, hal, hag⟩ := h.din nm a hD
      have nal : a ≠ r.lr := kind_ne ha h.hlr (fun e => nomatch e)
      have ha3 := sp _ _ (keep2 _ _ ha nal)
      refine ⟨_, rfl, a, rfl, .inl ⟨_, .inl ha3⟩, _, rfl, b, rfl, ?_⟩
      refine ⟨Nat.zero_le _, fun g hg => ?_⟩
      have sg := same_upd (o := .lst []) hg
      have gp : g ≠ p := fun z => by rw [z, upd_same] at hg; cases hg
      obtain ⟨hgn, ngt, ngl⟩ := none2 g (by rw [upd_ne gp] at hg; exact hg)
      refine ⟨r.kv2 nm, keyL (lastOf b), sg _ _ ha3, (kV_L _), by rw [sizeLine_eq]; omega, fun v hv => ?_, fun hv => ?_⟩
      · rw [hag] at hv
        obtain ⟨c, hL, rfl⟩ := Option.map_eq_some_iff.mp hv
        have hc := h.lin _ _ _ hL
        have ncl : c ≠ r.lr := fun z => h.neL _ _ (by rw [hL, z])
        have hc5 := sg _ _ (sp _ _ (keep2 _ _ hc ncl))
        refine ⟨.inl ⟨rfl, _, SqL.of hc5⟩, _, rfl, c, _, _, rfl, rfl, hc5, ?_, _, rfl, ?_⟩
        · have hbl : (bucket rows nm (lastOf b)).length ≤ rows.length := by
            have := List.length_filter_le (fun k => nameIs rows nm k && decide (lastOf (bitsAt rows k) = lastOf b)) (List.range rows.length)
            rw [List.length_range] at this
            exact this
          show (nums _).length < _
          unfold nums
          rw [List.length_map, sizeLine_eq]; omega
        have ntc : t ≠ c := fun z => by rw [← z, ht] at hc; cases hc
        have nlc : r.lr ≠ c := Ne.symm ncl
        refine q _ r t (h.put_A (at_ := at_) (m := m) hD hL (fun e o he n1 n2 => ?_) ?_ ?_ upd_same) ht ?_ (fun e o n he => ?_) (fun e o => .inl o)
        · rw [upd_ne n2]; exact sg _ _ (sp _ _ (keep2 _ _ he n1))
        · rw [upd_ne nlc]; exact sg _ _ (sp _ _ f1)
        · rw [upd_ne ntc]; exact sg _ _ (sp _ _ ft)
        · rw [upd_ne ntc]; exact sg _ _ (sp _ _ ft)
        · rw [upd_ne (fun z => n (.inr (.inr (.inr ⟨nm, lastOf b, by rw [hL, z]⟩))))]; exact sg _ _ (sp _ _ (keep2 _ _ he (notown e n)))
      · rw [hag] at hv
        have hL : r.L nm (lastOf b) = none := by
          cases z : r.L nm (lastOf b) with
          | none => rfl
          | some c => rw [z] at hv; cases hv
        have nag : a ≠ g := fun z => by rw [← z, ha] at hgn; cases hgn
        have ngg : upd (upd (upd H2 p (.dK [])) g (.lst [])) a (.dK (putK (r.kv2 nm) (keyL (lastOf b)) (.ref g))) g = some (.lst []) := by rw [upd_ne (Ne.symm nag), upd_same]
        refine ⟨.inl ⟨rfl, _, SqL.of ngg⟩, _, rfl, g, _, _, rfl, rfl, ngg, by decide, _, rfl, ?_⟩
        have nta : t ≠ a := fun z => by rw [z, ha] at ht; cases ht
        have ntg : t ≠ g := fun z => ngt z.symm
        have nlg : r.lr ≠ g := fun z => ngl z.symm
        refine q _ _ t (h.put_B (at_ := at_) (m := m) hD hL hgn (fun e o he n1 n2 => ?_) ?_ ?_ ?_ upd_same) ht ?_ (fun e o n he => ?_) (fun e o => ?_)
        · rw [upd_ne (fun z => by rw [z, hgn] at he; cases he), upd_ne n2]; exact sg _ _ (sp _ _ (keep2 _ _ he n1))
        · rw [upd_ne nlg, upd_ne (Ne.symm nal)]; exact sg _ _ (sp _ _ f1)
        · rw [upd_ne ntg, upd_ne nta]; exact sg _ _ (sp _ _ ft)
        · rw [upd_ne nag, upd_same]
        · rw [upd_ne ntg, upd_ne nta]; exact sg _ _ (sp _ _ ft)
        · rw [upd_ne (fun z => by rw [z, hgn] at he; cases he), upd_ne (fun z => n (.inr (.inr (.inl ⟨nm, by rw [hD, z]⟩))))]; exact sg _ _ (sp _ _ (keep2 _ _ he (notown e n)))
        · rcases o with z | z | ⟨n, z⟩ | ⟨n, l, z⟩
          · exact .inl (.inl z)
          · exact .inl (.inr (.inl z))
          · exact .inl (.inr (.inr (.inl ⟨n, z⟩)))
          · have z : setL r.L nm (lastOf b) g n l = some e := z
            by_cases hc : n = nm ∧ l = lastOf b
            · rw [hc.1, hc.2, setL_same] at z
              right; rw [← Option.some.inj z]; exact hgn
            · rw [setL_ne hc] at z
              exact .inl (.inr (.inr (.inr ⟨n, l, z⟩)))
    · -- not there
      have hD : r.D nm = none := by
        rw [h.dget] at hv
        cases z : r.D nm with
        | none => rfl
        | some c => rw [z] at hv; cases hv
      have ndp : r.db ≠ p := fun z => by rw [← z, h.db] at hpn; cases hpn
      have hp4 : upd (upd H2 p (.dK [])) r.db (.dK (putK r.kvs (.inr nm) (.ref p))) p = some (.dK []) := by rw [upd_ne (Ne.symm ndp), upd_same]
      have ntd : t ≠ r.db := fun z => by rw [z, h.db] at ht; cases ht
      refine ⟨_, rfl, p, rfl, .inl ⟨_, .inl hp4⟩, _, rfl, b, rfl, ?_⟩
      refine ⟨Nat.zero_le _, fun g hg => ?_⟩
      have gd : g ≠ r.db := fun z => by rw [z, upd_same] at hg; cases hg
      have gp : g ≠ p := fun z => by rw [z, hp4] at hg; cases hg
      obtain ⟨hgn, ngt, ngl⟩ := none2 g (by rw [upd_ne gd, upd_ne gp] at hg; exact hg)
      refine ⟨[], keyL (lastOf b), by rw [upd_ne (Ne.symm gp)]; exact hp4, (kV_L _), by decide, (fun v hv => nomatch hv), fun _ => ?_⟩
      have ngg : upd (upd (upd (upd H2 p (.dK [])) r.db (.dK (putK r.kvs (.inr nm) (.ref p)))) g (.lst [])) p (.dK (putK [] (keyL (lastOf b)) (.ref g))) g = some (.lst []) := by rw [upd_ne gp, upd_same]
      refine ⟨.inl ⟨rfl, _, SqL.of ngg⟩, _, rfl, g, _, _, rfl, rfl, ngg, by decide, _, rfl, ?_⟩
      have ntg : t ≠ g := fun z => ngt z.symm
      have ntp : t ≠ p := fun z => npt z.symm
      have nlg : r.lr ≠ g := fun z => ngl z.symm
      have nlp : r.lr ≠ p := fun z => npl z.symm
      refine q _ _ t (h.put_C (at_ := at_) (m := m) (p := p) (q := g) hD hpn hgn (Ne.symm gp) (fun e o he n1 n2 => ?_) ?_ ?_ ?_ ?_ upd_same) ht ?_ (fun e o n he => ?_) (fun e o => ?_)
      · rw [upd_ne (fun z => by rw [z, hgn] at he; cases he), upd_ne (fun z => by rw [z, hpn] at he; cases he), upd_ne (fun z => by rw [z, hgn] at he; cases he), upd_ne n2]; exact sp _ _ (keep2 _ _ he n1)
      · rw [upd_ne nlg, upd_ne nlp, upd_ne nlg, upd_ne (Ne.symm ndl)]; exact sp _ _ f1
      · rw [upd_ne ntg, upd_ne ntp, upd_ne ntg, upd_ne ntd]; exact sp _ _ ft
      · rw [upd_ne (Ne.symm gd), upd_ne ndp, upd_ne (Ne.symm gd), upd_same]
      · rw [upd_ne (Ne.symm gp), upd_same]; rfl
      · rw [upd_ne ntg, upd_ne ntp, upd_ne ntg, upd_ne ntd]; exact sp _ _ ft
      · rw [upd_ne (fun z => by rw [z, hgn] at he; cases he), upd_ne (fun z => by rw [z, hpn] at he; cases he), upd_ne (fun z => by rw [z, hgn] at he; cases he), upd_ne (fun z => n (.inr (.inl z)))]; exact sp _ _ (keep2 _ _ he (notown e n))
      · rcases o with z | z | ⟨n, z⟩ | ⟨n, l, z⟩
        · exact .inl (.inl z)
        · exact .inl (.inr (.inl z))
        · have z : setN r.D nm (some p) n = some e := z
          by_cases hn : n = nm
          · rw [hn, setN_same] at z
            right; rw [← Option.some.inj z]; exact hpn
          · rw [setN_ne hn] at z
            exact .inl (.inr (.inr (.inl ⟨n, z⟩)))
        · have z : setL r.L nm (lastOf b) g n l = some e := z
          by_cases hc : n = nm ∧ l = lastOf b
          · rw [hc.1, hc.2, setL_same] at z
            right; rw [← Option.some.inj z]; exact hgn
          · rw [setL_ne hc] at z
            exact .inl (.inr (.inr (.inr ⟨n, l, z⟩)))
end
end K24

set_option Elab.async false
set_option linter.all false
set_option maxRecDepth 100000
set_option maxHeartbeats 4000000
/-! Claims: open_to. Own work (made of a template for each statement that reaches them). -/
namespace K24
open PySem L2 Builtin.Str CM
theorem bitsAt_of {rows : Rw} {k : Nat} {n : Str} {b : Nat} (h : rows[k]? = some (n, b)) : bitsAt rows k = b := by unfold bitsAt; rw [h]; rfl
theorem row_at {rows : Rw} {k : Nat} (h : k < rows.length) : ∃ n b, rows[k]? = some (n, b) ∧ bitsAt rows k = b := by
  refine ⟨rows[k].1, rows[k].2, List.getElem?_eq_getElem h, ?_⟩
  exact bitsAt_of (n := rows[k].1) (List.getElem?_eq_getElem h)
theorem atI_nat {α : Type} {xs : List α} {k : Nat} {x : α} (h : xs[k]? = some x) : atI xs (k : Int) = some x := by
  have hk := (List.getElem?_eq_some_iff.mp h).1
  unfold atI ixN
  rw [if_pos (by omega), if_pos (by omega)]
  show xs[((k : Nat) : Int).toNat]? = _
  rw [Int.toNat_natCast]; exact h
/-- the bits of the claim of a number, read -/
theorem CL.bits {C : Addr} {r : CR} {H : Hp} {x : Addr} {rows : Rw} {rv : List V} (h : CL C r H x rows rv) {k : Nat} (hk : k < rows.length) : ∃ t n a m, atI rv (k : Int) = some (.ref t) ∧ H t = some (.tup [.str n, a, .int (bitsAt rows k : Int), m]) := by
  obtain ⟨n, b, e, eb⟩ := row_at hk
  obtain ⟨t, a, m, h1, h2⟩ := h.row k n b e
  exact ⟨t, n, a, m, atI_nat h1, by rw [eb]; exact h2⟩
theorem nums_len (ks : List Nat) : (nums ks).length = ks.length := by unfold nums; rw [List.length_map]
theorem nums_ints (ks : List Nat) : nums ks = (ks.map fun (k : Nat) => (k : Int)).map V.int := by unfold nums; rw [List.map_map]; rfl
theorem bucket_lt {rows : Rw} {nm : Str} {l : Option Nat} {k : Nat} (h : k ∈ bucket rows nm l) : k < rows.length := (mem_bucket.mp h).1
theorem bucket_le (rows : Rw) (nm : Str) (l : Option Nat) : (bucket rows nm l).length ≤ rows.length := by
  have := List.length_filter_le (fun k => nameIs rows nm k && decide (lastOf (bitsAt rows k) = l)) (List.range rows.length)
  rw [List.length_range] at this
  exact this
/-- sorted lists of the same numbers are the same -/
theorem sorted_same : ∀ {L M : List Int}, L.Pairwise (· < ·) → M.Pairwise (· < ·) → (∀ z, z ∈ L ↔ z ∈ M) → L = M
  | [], [], _, _, _ => rfl
  | [], m :: M, _, _, h => nomatch (h m).mpr List.mem_cons_self
  | l :: L, [], _, _, h => nomatch (h l).mp List.mem_cons_self
  | l :: L, m :: M, hl, hm, h => by
    have h1 := List.pairwise_cons.mp hl
    have h2 := List.pairwise_cons.mp hm
    have e : l = m := by
      rcases List.mem_cons.mp ((h l).mp List.mem_cons_self) with e | e
      · exact e
      · rcases List.mem_cons.mp ((h m).mpr List.mem_cons_self) with e' | e'
        · exact e'.symm
        · have a := h2.1 l e
          have b := h1.1 m e'
          omega
    subst e
    rw [sorted_same h1.2 h2.2 fun z => ?_]
    have hz := h z
    rw [List.mem_cons, List.mem_cons] at hz
    constructor
    · intro q
      rcases hz.mp (.inr q) with e | e
      · have := h1.1 z q; omega
      · exact e
    · intro q
      rcases hz.mpr (.inr q) with e | e
      · have := h2.1 z q; omega
      · exact e
section
variable {P : Program} {w : World} {K : PySem.W.Frag} {mg : Str → Option Value} {base : Heap} {C : Addr}
theorem scCOpen : FnScope ["self", "name", "bits", "by_last", "numbers", "last"] ["self", "name", "bits"] (defScope sCOpen) := ⟨rfl, rfl, rfl, by decide +kernel, rfl, by decide +kernel, by decide +kernel⟩
theorem lcOpen1 : LcS (defScope sCOpen).names [(".0", .local), ("number", .local), ("within", .globalImplicit), ("bits", .free), ("self", .free)] ["self", "name", "bits", "by_last", "numbers", "last"] [true, false, true, false, false, false] := ⟨by decide +kernel, by decide +kernel, by decide +kernel, by decide +kernel, by decide +kernel, rfl⟩
theorem ndOpen1 : (["self", "name", "bits", "by_last", "numbers", "last", "number"] : List Str).Nodup := by decide +kernel
theorem bt_sorted' : bootBuiltins "sorted" = some (.builtin "sorted") := by decide +kernel
theorem ok_open {f fO fI : Addr} {fd fdO fdI : FuncData} (F : Fun K "open_to" "Claims.open_to" sCOpen f fd) (T : ClT K mg C) (FO : Fun K "told" "told" sTold fO fdO) (bO : Binds K fdO ["bits"] []) (mO : mg "told" = some (.ref fO))
    (FI : Fun K "within" "within" sWithin fI fdI) (bI : Binds K fdI ["one", "other"] []) (mI : mg "within" = some (.ref fI)) : FnOk P w K mg base CX0 2 f fd ["self", "name", "bits"] (spOpen C) := by
  have GO : FnOk P w K mg base CX0 1 fO fdO ["bits"] spTold := ok_told FO
  have GI : FnOk P w K mg base CX0 1 fI fdI ["one", "other"] spWithin := ok_within FI
  refine F.ok scCOpen (fun vs H Q E h => ?_) (fun cdv A outer s H vs Q E hr h => ?_)
  · obtain ⟨x, nm, b, ys, r, rows, rv, rfl, _⟩ := h; rfl
  · obtain ⟨x, nm, b, ys, r, rows, rv, rfl, h, hlen, hop64, hb, hy, q⟩ := h
    have nd := scCOpen.nd
    have hu := hu_of hr
    refine ⟨_, pss_cons (ps_if (pt_cmp (pc_dnotin hu (pv 1) (pe_fld (pv 0) rfl : PE _ _ (tFld K (tVar 0) ("by_last" : Str))))) (pss_one (ps_ret (pe_lst pa_nil))) pss_nil)
      (pss_cons (ps_set (i := 3) nd rfl (Or.inl rfl) (pe_dget hu (pe_fld (pv 0) rfl : PE _ _ (tFld K (tVar 0) ("by_last" : Str))) (pv 1) (fun _ _ => rfl)))
      (pss_cons (ps_set (i := 4) nd rfl (Or.inl rfl) (pe_callTy call_list_of (by rfl) T.list bt_list (pa_cons (pe_dget2 hu (pv 3) pe_non (pe_lst pa_nil) ⟨rfl, rfl, rfl, rfl⟩) pa_nil)))
      (pss_cons (ps_for PassesOwn.never rfl (pi_list (pe_call GO hr (by rfl) mO FO.kp bO .nil pass0 (pa_cons (pv 2) pa_nil))) (pg_name (i := 5) nd rfl (Or.inl rfl))
        (pss_one (ps_expr (pe_bm PySem.F.plainAttrs_list PySem.F.slot_list_extend PySem.F.type_list_extend mt_extend (pv 4) (pa_cons (pe_lc (ext := ["number"]) lcOpen1 rfl (pi_list (pe_dget2 hu (pv 3) (pv 5) (pe_lst pa_nil) ⟨rfl, rfl, rfl, rfl⟩))
          ⟨fun _ _ _ _ _ => (pg_name (i := 6) ndOpen1 rfl (Or.inl rfl) (.inr rfl)), fun _ _ _ _ _ => (pts_one (pt_val (pe_call GI hr (by rfl) mI FI.kp bI .nil pass0 (pa_cons (pe_ix (ix_tup : IxR _ (rIxT K)) (pe_ix (ix_list : IxR _ (rIxL K)) (pe_fld (pv 0) rfl : PE _ _ (tFld K (tVar 0) ("rows" : Str))) (pv 6) (fun _ _ => rfl)) pe_int (fun _ _ => rfl)) (pa_cons (pv 2) pa_nil))))), fun _ _ _ _ _ => (pv 6)⟩) pa_nil)))))
      (pss_one (ps_ret (pe_callB call_sortedL (by rfl) T.sorted bt_sorted' (pa_cons (pv 4) pa_nil))))))), ?_⟩
    have hget : DGet H r.db (.str nm) ((r.D nm).map V.ref) := by
      have := DGet.k (k := (.inr nm : Key)) h.db
      rw [h.dget] at this
      exact this
    refine ⟨_, rfl, _, rfl, x, C, r.dx, _, .ref r.db, rfl, h.ins, T.cl, T.nB, rfl, r.db, _, rfl, hget, _, rfl, ?_⟩
    cases hD : r.D nm with
    | none =>
      refine iteT ⟨Nat.zero_le _, fun p hp => ?_⟩
      have hno : opens rows nm b = [] := by
        rw [List.eq_nil_iff_forall_not_mem]
        intro k hk
        obtain ⟨h1, h2, _⟩ := mem_opens.mp hk
        have : k ∈ bucket rows nm (lastOf (bitsAt rows k)) := mem_bucket.mpr ⟨h1, h2, rfl⟩
        rw [h.lno _ _ (h.dno nm hD _)] at this
        exact nomatch this
      exact q _ p (same_upd hp) hp (by rw [upd_same, hno]; rfl)
    | some a =>
      obtain ⟨ha, hal, hag⟩ := h.din nm a hD
      rw [hD] at hget
      refine iteF ⟨_, rfl, x, C, r.dx, _, .ref r.db, rfl, h.ins, T.cl, T.nB, rfl, _, rfl, r.db, .ref a, rfl, hget, ?_⟩
      -- what a bucket is
      have buck : ∀ (l : Option Nat) (H1 : Hp), Same H H1 → ∀ z, H1 z = none → ∃ o c, DGet (upd H1 z (.lst [])) a (valL l) o ∧ o.getD (.ref z) = .ref c ∧ SqL K (upd H1 z (.lst [])) c (nums (bucket rows nm l)) := fun l H1 s1 z hz => by
        have sz := same_upd (o := .lst []) hz
        have hg := DGet.k (k := keyL l) (sz _ _ (s1 _ _ ha))
        rw [hag, ← kV_L] at hg
        cases hL : r.L nm l with
        | none =>
          rw [hL] at hg
          refine ⟨none, z, hg, rfl, ?_⟩
          rw [h.lno _ _ hL]
          exact SqL.of upd_same
        | some c =>
          rw [hL] at hg
          exact ⟨some (.ref c), c, hg, rfl, SqL.of (sz _ _ (s1 _ _ (h.lin _ _ _ hL)))⟩
      refine ⟨_, rfl, a, rfl, .inl ⟨_, .inl ha⟩, Nat.zero_le _, fun z hz => ?_⟩
      obtain ⟨o, c, hg, ho, hc⟩ := buck none H (Same.refl _) z hz
      have sz := same_upd (o := .lst []) hz
      refine ⟨o, hg, ?_⟩
      rw [ho]
      refine ⟨c, _, rfl, .inl hc, fun N hN => ?_⟩
      have sN := sz.trans (same_upd (o := .lst (nums (bucket rows nm none))) hN)
      have hNn : H N = none := by
        have n1 : N ≠ z := fun e => by rw [e, upd_same] at hN; cases hN
        rw [upd_ne n1] at hN; exact hN
      have hN1 : upd (upd H z (.lst [])) N (.lst (nums (bucket rows nm none))) N = some (.lst (nums (bucket rows nm none))) := upd_same
      generalize upd (upd H z (.lst [])) N (.lst (nums (bucket rows nm none))) = H1 at sN hN1 ⊢
      -- the numbers of the set
      refine ⟨_, rfl, b, ys, rfl, hb, hy, fun Tl L hTl hsL hmL => ⟨Tl, rfl, ⟨_, SqL.of upd_same⟩, ?_⟩⟩
      have sT := same_upd (o := .lst (L.map V.int)) hTl
      have hL0 : ∀ z ∈ L, 0 ≤ z := fun z hz => hb.2 z ((hmL z).mp hz)
      have htb : ∀ m : Nat, m ∈ L.map Int.toNat ↔ b.testBit m = true := fun m => by
        rw [hb.1 m, decide_eq_true_eq, ← hmL]
        constructor
        · intro hm
          obtain ⟨z, hz, e⟩ := List.mem_map.mp hm
          have := hL0 z hz
          have : z = (m : Int) := by omega
          rw [← this]; exact hz
        · intro hm
          exact List.mem_map.mpr ⟨(m : Int), hm, by omega⟩
      have hnd : (L.map Int.toNat).Nodup := by
        have : (L.map Int.toNat).Pairwise (· < ·) := by
          rw [List.pairwise_map]
          refine List.Pairwise.imp_of_mem (fun {x y} hx hy hxy => ?_) hsL
          have := hL0 x hx
          omega
        exact this.imp fun h => Nat.ne_of_lt h
      have hTN : Tl ≠ N := fun e => by rw [e, hN1] at hTl; cases hTl
      have gsub : ∀ i, (gath rows nm b ((L.map Int.toNat).take i)).length ≤ rows.length := fun i => by
        have hn' := hnd.sublist (List.take_sublist i (L.map Int.toNat))
        have : (gath rows nm b ((L.map Int.toNat).take i)).length ≤ (List.range rows.length).length := List.Nodup.length_le_of_subset (gath_nodup hn') fun k hk => by
          unfold gath at hk
          rw [List.mem_range]
          rcases List.mem_append.mp hk with z | z
          · exact bucket_lt z
          · obtain ⟨l, _, z⟩ := List.mem_flatMap.mp z
            exact bucket_lt (List.mem_filter.mp z).1
        rwa [List.length_range] at this
      have sA : Same H (upd H1 Tl (.lst (L.map V.int))) := sN.trans sT
      have hTl2 : upd H1 Tl (.lst (L.map V.int)) Tl = some (.lst (L.map V.int)) := upd_same
      have hNT : upd H1 Tl (.lst (L.map V.int)) N = some (.lst (nums (bucket rows nm none))) := by rw [upd_ne (Ne.symm hTN)]; exact hN1
      generalize upd H1 Tl (.lst (L.map V.int)) = H2 at sA hTl2 hNT ⊢
      refine for_list (xs := L.map V.int) (fun i σ H' => (∃ v, σ = [some (.ref x), some (.str nm), some (.int (b : Int)), some (.ref a), some (.ref N), v]) ∧ Same H H' ∧ H' Tl = some (.lst (L.map V.int)) ∧ H' N = some (.lst (nums (gath rows nm b ((L.map Int.toNat).take i)))))
        ⟨⟨_, rfl⟩, sA, hTl2, by rw [hNT]; unfold gath; rw [List.take_zero, List.flatMap_nil, List.append_nil]⟩ (fun i σ H' _ hP => SqL.of hP.2.2.1) ?_ ?_
      · rintro i v σ H' hi ⟨⟨v', rfl⟩, s1, hT1, hN2⟩
        obtain ⟨z0, ez, rfl⟩ : ∃ z0, L[i]? = some z0 ∧ V.int z0 = v := by
          rw [List.getElem?_map] at hi
          exact Option.map_eq_some_iff.mp hi
        obtain ⟨l, rfl⟩ := Int.eq_ofNat_of_zero_le (hL0 z0 (List.mem_of_getElem? ez))
        have h1 := h.same s1
        refine ⟨_, rfl, .inl ⟨rfl, _, SqL.of hN2⟩, _, rfl, a, rfl, .inl ⟨_, .inl (s1 _ _ ha)⟩, _, rfl, Nat.zero_le _, fun z hz => ?_⟩
        obtain ⟨o, c, hg, ho, hc⟩ := buck (some l) H' s1 z hz
        have sz := same_upd (o := .lst []) hz
        refine ⟨o, hg, ?_⟩
        rw [ho]
        have s2 := s1.trans sz
        have hT3 := sz _ _ hT1
        have hN3 := sz _ _ hN2
        generalize upd H' z (.lst []) = H3 at hc s2 hT3 hN3 hg ⊢
        have h3 := h.same s2
        refine ⟨c, rfl, ⟨_, hc⟩, fun D hD' => ?_⟩
        have sD : ∀ ys', Same H3 (upd H3 D (.lst ys')) := fun ys' => same_upd hD'
        refine lc_list (K := K) (a := c) (i := 6) (xs := nums (bucket rows nm (some l))) (fun v => match v with | .int k => decide (In (bitsAt rows k.toNat) b) | _ => false) (fun v => v) (fun ys' => (sD ys').seq hc) (by rw [nums_len, sizeLine_eq]; have := bucket_le rows nm (some l); omega) ?_ ?_ ?_
        · intro k y v ys' R hk hR
          unfold nums at hk
          rw [List.getElem?_map] at hk
          obtain ⟨k', ek, rfl⟩ := Option.map_eq_some_iff.mp hk
          have hk' := bucket_lt (List.mem_of_getElem? ek)
          have h4 := h3.same (sD ys')
          obtain ⟨t, n, a', m, e1, e2⟩ := h4.bits hk'
          refine ⟨_, rfl, x, C, r.dx, _, .ref r.lr, rfl, h4.ins, T.cl, T.nR, rfl, _, rfl, r.lr, _, _, _, rfl, rfl, SqL.of h4.hlr, e1, t, _, _, _, rfl, rfl, SqT.of e2, rfl, _, rfl, bitsAt rows k', b, rfl, ⟨_, rfl, ?_⟩⟩
          exact hR _ rfl
        · intro k y v ys' R hk hp hR
          exact ⟨_, rfl, hR _ rfl⟩
        · intro H5 e5
          have efil : ((nums (bucket rows nm (some l))).filter (fun v => match v with | .int k => decide (In (bitsAt rows k.toNat) b) | _ => false)).map (fun v => v) = nums ((bucket rows nm (some l)).filter fun k => decide (In (bitsAt rows k) b)) := by
            unfold nums
            rw [List.map_id', List.filter_map]
            rfl
          rw [efil] at e5
          have hnD : D ≠ N := fun e => by rw [e, hN3] at hD'; cases hD'
          have hD5 : H5 D = some (.lst (nums ((bucket rows nm (some l)).filter fun k => decide (In (bitsAt rows k) b)))) := by rw [e5, upd_same]
          have hN5 : H5 N = some (.lst (nums (gath rows nm b ((L.map Int.toNat).take i)))) := by rw [e5, upd_ne (Ne.symm hnD)]; exact hN3
          have hT5 : H5 Tl = some (.lst (L.map V.int)) := by rw [e5]; exact sD _ _ _ hT3
          have s5 : Same H H5 := by rw [e5]; exact s2.trans (sD _)
          have etake : (L.map Int.toNat).take (i + 1) = (L.map Int.toNat).take i ++ [l] := by
            rw [List.take_succ, List.getElem?_map, ez]; rfl
          have egath : gath rows nm b ((L.map Int.toNat).take (i + 1)) = gath rows nm b ((L.map Int.toNat).take i) ++ ((bucket rows nm (some l)).filter fun k => decide (In (bitsAt rows k) b)) := by
            rw [etake]
            unfold gath
            rw [List.flatMap_append, ← List.append_assoc, List.flatMap_cons, List.flatMap_nil, List.append_nil]
          have hglen := gsub (i + 1)
          rw [egath, List.length_append] at hglen
          refine ⟨N, D, _, _, rfl, rfl, hN5, hD5, by rw [nums_len, nums_len, sizeLine_eq]; omega, ⟨_, rfl⟩, fun e o he => ?_, ?_, ?_⟩
          · rw [upd_ne (ne_of_none he hNn)]; exact s5 _ _ he
          · rw [upd_ne hTN]; exact hT5
          · rw [upd_same, egath]; unfold nums; rw [List.map_append]
      · rintro σ H' ⟨⟨v', rfl⟩, s1, hT1, hN2⟩
        have hlenL : (L.map V.int).length = (L.map Int.toNat).length := by rw [List.length_map, List.length_map]
        rw [hlenL, List.take_length] at hN2
        refine ⟨_, rfl, N, _, rfl, by rw [← nums_ints]; exact SqL.of hN2, ?_, fun R ns hR hle hpm => ?_⟩
        · rw [List.length_map]
          have : (gath rows nm b (L.map Int.toNat)).length ≤ (opens rows nm b).length := List.Nodup.length_le_of_subset (gath_nodup hnd) fun k hk => (mem_gath htb).mp hk
          omega
        · have hRn : H R = none := by
            cases e : H R with
            | none => rfl
            | some o => rw [s1 _ _ e] at hR; cases hR
          refine q _ R (s1.trans (same_upd hR)) hRn ?_
          have hg_nd : ((gath rows nm b (L.map Int.toNat)).map fun (k : Nat) => (k : Int)).Nodup := by
            have : ((gath rows nm b (L.map Int.toNat)).map fun (k : Nat) => (k : Int)).Pairwise (· ≠ ·) := by
              rw [List.pairwise_map]
              exact (gath_nodup hnd).imp fun h e => h (by omega)
            exact this
          have hlt : ns.Pairwise (· < ·) := (hle.and (hpm.symm.nodup hg_nd)).imp fun {a b} ⟨h1, h2⟩ => by omega
          have hop : ((opens rows nm b).map fun (k : Nat) => (k : Int)).Pairwise (· < ·) := by
            rw [List.pairwise_map]
            exact (opens_sorted rows nm b).imp fun h => by omega
          have e : ns = (opens rows nm b).map fun (k : Nat) => (k : Int) := sorted_same hlt hop fun z => by
            rw [hpm.mem_iff, List.mem_map, List.mem_map]
            exact ⟨fun ⟨k, hk, e⟩ => ⟨k, (mem_gath htb).mp hk, e⟩, fun ⟨k, hk, e⟩ => ⟨k, (mem_gath htb).mpr hk, e⟩⟩
          rw [upd_same, e, nums_ints]
end
end K24

set_option Elab.async false
set_option linter.all false
set_option maxRecDepth 100000
set_option maxHeartbeats 4000000
/-! k24: claim_of, with two claims told by an exception. Own work. -/
namespace L2
open PySem PySem.Spec PyProof.Rows
/-- a comprehension over a list, whatever its elements do -/
theorem lc_lst {K : PySem.W.Frag} {a : Addr} {xs : List V} {g : TG} {tt : TT} {te : TE} {σ : St} {H : Hp} {D : Addr} {Q : Hp → Prop} (P : Nat → List V → St → Hp → Prop) (h0 : P 0 [] σ (upd H D (.lst []))) (hl : ∀ k ys σ' H', k ≤ xs.length → P k ys σ' H' → SqL K H' a xs)
    (hs : ∀ k x ys σ' H', xs[k]? = some x → P k ys σ' H' → g x σ' H' (fun σ2 H2 => tt σ2 H2 fun b H3 =>
      if b = true then te σ2 H3 fun y H4 => H4 D = some (.lst ys) ∧ ys.length < sizeLine ∧ Beh xs.length k P (ys ++ [y]) σ2 (upd H4 D (.lst (ys ++ [y]))) else Beh xs.length k P ys σ2 H3))
    (hd : ∀ ys σ' H', P xs.length ys σ' H' → Q H') :
    ∃ W : Nat → Nat → List V → St → Hp → Prop, (∃ m, W 0 m [] σ (upd H D (.lst []))) ∧ lcTurn (Itl K a) D g tt te Q W := by
  refine lc_gen (n := xs.length) P h0 (fun k ys σ' H' hk hP => ?_) (fun ys σ' H' hP => ⟨⟨xs, hl _ _ _ _ (Nat.le_refl _) hP, Nat.le_refl _⟩, hd ys σ' H' hP⟩)
  have q := hl k ys σ' H' (Nat.le_of_lt hk) hP
  refine ⟨⟨xs, xs[k], q, by simp [hk]⟩, fun x H1 y => ?_⟩
  obtain ⟨rfl, y⟩ := y
  exact hs k x ys σ' _ (y xs q) hP
end L2
namespace K24
open PySem L2 Builtin.Str CM XC
abbrev sHI : Stmt := inClass (top 1) 0
abbrev sAn : Stmt := top 17
abbrev sOuter : Stmt := inClass (top 15) 4
def topV : List Nat → V
  | [] => .non
  | k :: _ => .int (k : Int)
def topsOf (rows : Rw) (nm : Str) (b : Nat) : List Nat := tops (bitsAt rows) (opens rows nm b)
/-- what a class of refusals must tell -/
structure EC (K : PySem.W.Frag) (C : Addr) : Prop where
  c : ECls K C
  tA : PySem.W.takerIn K C "at" = some none
  tO : PySem.W.takerIn K C "other" = some none
def spHI (K : PySem.W.Frag) : Sp := fun vs H Q _ => ∃ (x C : Addr) (ws a o : V), vs = [.ref x, ws, a, o] ∧ H x = some (exN x C none) ∧ EC K C ∧
  ∀ (dx : Addr) (H' : Hp), H dx = none → dx ≠ x → (∀ b u, b ≠ x → H b = some u → H' b = some u) → H' x = some (exN x C (some dx)) → H' dx = some (dxO dx [("at", a), ("other", o)]) → Q .non H'
def NmOk (nm : Str) : Prop := nm.length ≤ 300000 ∧ ∀ c ∈ nm.cps.toList, c < 16 ^ 8
/-- the second thing of a row -/
def AtR (H : Hp) (rv : List V) (k : Nat) (a : V) : Prop := ∃ t n b m, rv[k]? = some (.ref t) ∧ H t = some (.tup [n, a, b, m])
theorem AtR.same {H H' : Hp} {rv : List V} {k : Nat} {a : V} (h : AtR H rv k a) (s : Same H H') : AtR H' rv k a := by
  obtain ⟨t, n, b, m, h1, h2⟩ := h
  exact ⟨t, n, b, m, h1, s _ _ h2⟩
def spAn : Sp := fun vs H Q _ => ∃ (b : Nat) (l : Addr) (S : List Nat), vs = [.int b, .ref l] ∧ H l = some (.lst (nums S)) ∧ S.length ≤ 1000 ∧ ∀ H', Same H H' → Q (.bl (S.any fun o => decide (o ≠ b) && decide (In b o))) H'
def spOuter (C : Addr) : Sp := fun vs H Q _ => ∃ (x N : Addr) (r : CR) (rows : Rw) (rv : List V) (S : List Nat), vs = [.ref x, .ref N] ∧ CL C r H x rows rv ∧ H N = some (.lst (nums S)) ∧ S.length ≤ 1000 ∧ (∀ k ∈ S, k < rows.length) ∧
  ∀ (H' : Hp) (D : Addr), Same H H' → H D = none → H' D = some (.lst (nums (tops (bitsAt rows) S))) → Q (.ref D) H'
def spOfX (C cT : Addr) : Sp := fun vs H Q E => ∃ (x : Addr) (nm : Str) (b : Nat) (ys : List Int) (r : CR) (rows : Rw) (rv : List V) (at_ : Nat → V), vs = [.ref x, .str nm, .int b] ∧ CL C r H x rows rv ∧ rows.length ≤ 1000 ∧ (opens rows nm b).length < 64 ∧ BitsOf b ys ∧ ys.length ≤ 1000 ∧ NmOk nm ∧
  (∀ k, k < rows.length → AtR H rv k (at_ k)) ∧
  ((topsOf rows nm b).length ≤ 1 → ∀ H', Same H H' → Q (topV (topsOf rows nm b)) H') ∧
  (∀ k0 k1 ks, topsOf rows nm b = k0 :: k1 :: ks → ∀ (e : Addr) (H' : Hp), Same H H' → H e = none → ExAt H' e cT [("at", at_ k0), ("other", at_ k1)] → E (.ref cT) (some e) H')
structure Txn (mg : Str → Option Value) : Prop where
  any : mg "any" = none
  ve : mg "ValueError" = none
section
variable {P : Program} {w : World} {K : PySem.W.Frag} {mg : Str → Option Value} {base : Heap} {C cT : Addr}
theorem okX {x qual : Str} {st : Stmt} {f : Addr} {fd : FuncData} {N ps : List Str} {k : Nat} {sp : Sp} (F : Fun K x qual st f fd) (S : FnScope N ps (defScope st)) (len : ∀ vs H Q E, sp vs H Q E → vs.length = ps.length)
    (hbody : ∀ (cdv : Value) (A : Around) (outer : List Env) (s : Shared) (H : Hp) (vs : List V) (Q : VK) (E : XK), Room k (A.deeper (PyProof.Rows.envOfC qual (defScope st) s.heap.objs.size f cdv)) → sp vs H Q E →
      ∃ t, PSs (cxOf (CXE P w) P w K mg base N qual (defScope st) f cdv A outer s H E) (defBody st) t ∧ t { nx := fun _ H' => Q .non H', rt := Q } (start N vs) H) : FnOk P w K mg base (CXE P w) (k + 1) f fd ps sp := by
  obtain ⟨oc, od, kV, doc, pm, an, cdv, ct, osl, rfl, lk, hcd⟩ := F.ex
  exact fn_of lk hcd S len fun A outer s H vs Q E hr hsp => hbody cdv A outer s H vs Q E hr hsp
theorem scHI : FnScope ["self", "words", "at", "other"] ["self", "words", "at", "other"] (defScope sHI) := ⟨rfl, rfl, rfl, by decide +kernel, rfl, by decide +kernel, by decide +kernel⟩
theorem put_other (a o : V) : putF ("other" : Str) o [(("at" : Str), a)] = ([(("at" : Str), a), (("other" : Str), o)] : List (Str × V)) := by rfl
theorem ok_hi {f T0 : Addr} {fd : FuncData} (F : FunD K "__init__" "HouseError.__init__" sHI f fd T0) (X : Txn mg) (hfc : PySem.W.findCls K (.type "ValueError") (.type "type") "__init__" = some (.val (.builtin "ValueError.__init__"))) :
    FnOk P w K mg base CX0 1 f fd ["self", "words", "at", "other"] (spHI K) := by
  refine F.ok scHI (fun vs H Q E h => ?_) (fun cdv A outer s H vs Q E hr h => ?_)
  · obtain ⟨x, C, ws, a, o, rfl, _⟩ := h; rfl
  · obtain ⟨x, C, ws, a, o, rfl, hx, ec, q⟩ := h
    refine ⟨_, pss_cons (ps_expr (pe_vinit (by rfl) X.ve hfc (pa_cons (pv 0) (pa_cons (pv 1) pa_nil)))) (pss_cons (ps_fldX (pv 0) (pv 2) rfl) (pss_one (ps_fldX (pv 0) (pv 3) rfl))), ?_⟩
    refine ⟨_, rfl, _, rfl, x, C, _, rfl, hx, ec.c, ?_⟩
    refine ⟨_, rfl, _, rfl, x, C, rfl, ec.c, ec.tA, .inl ⟨hx, fun dx hdx hne => ?_⟩⟩
    refine ⟨_, rfl, _, rfl, x, C, rfl, ec.c, ec.tO, .inr ⟨dx, [("at", a)], upd_same, (by rw [upd_ne hne, upd_same]), hne, (by show 1 < 1000; decide), ?_⟩⟩
    rw [put_other]
    refine q dx _ hdx hne (fun b u nb e => ?_) ?_ upd_same
    · have nd : b ≠ dx := ne_of_none e hdx
      rw [upd_ne nd, upd_ne nb, upd_ne nd]; exact e
    · rw [upd_ne (Ne.symm hne), upd_same]
theorem nums_mem {ks : List Nat} {i : Nat} {v : V} (h : (nums ks)[i]? = some v) : ∃ k, ks[i]? = some k ∧ V.int (k : Int) = v := by
  unfold nums at h
  rw [List.getElem?_map] at h
  exact Option.map_eq_some_iff.mp h
theorem fold_succ {f : Nat → Nat} {S : List Nat} {i k : Nat} (h : S[i]? = some k) : (S.take (i + 1)).foldl (fun a k => a ||| f k) 0 = (S.take i).foldl (fun a k => a ||| f k) 0 ||| f k := by
  rw [List.take_succ, h, List.foldl_append]; rfl
theorem dec_nat {x y : Nat} : decide (V.int (x : Int) = V.int (y : Int)) = decide (x = y) := by
  rw [dec_V, decide_eq_decide]; omega
theorem scAn : FnScope ["bits", "sets"] ["bits", "sets"] (defScope sAn) := ⟨rfl, rfl, rfl, by decide +kernel, rfl, by decide +kernel, by decide +kernel⟩
theorem lcAn1 : LcS (defScope sAn).names [(".0", .local), ("other", .local), ("within", .globalImplicit), ("bits", .free)] ["bits", "sets"] [true, false] := ⟨by decide +kernel, by decide +kernel, by decide +kernel, by decide +kernel, by decide +kernel, rfl⟩
theorem ndAn1 : (["bits", "sets", "other"] : List Str).Nodup := by decide +kernel
theorem ok_an {f fI : Addr} {fd fdI : FuncData} (F : Fun K "in_another" "in_another" sAn f fd) (T : Txn mg) (FI : Fun K "within" "within" sWithin fI fdI) (bI : Binds K fdI ["one", "other"] []) (mI : mg "within" = some (.ref fI)) :
    FnOk P w K mg base CX0 2 f fd ["bits", "sets"] spAn := by
  have GI : FnOk P w K mg base CX0 1 fI fdI ["one", "other"] spWithin := ok_within FI
  refine F.ok scAn (fun vs H Q E h => ?_) (fun cdv A outer s H vs Q E hr h => ?_)
  · obtain ⟨b, l, S, rfl, _⟩ := h; rfl
  · obtain ⟨b, l, S, rfl, hl, hS, q⟩ := h
    have nd := scAn.nd
    refine ⟨_, pss_one (ps_ret (pe_callB (call_anyB rfl) (by rfl) T.any bt_any' (pa_cons (pe_lc (ext := ["other"]) lcAn1 rfl (pi_list (pv 1))
      ⟨fun _ _ _ _ _ => (pg_name (i := 2) ndAn1 rfl (Or.inl rfl) (.inr rfl)), fun _ _ _ _ _ => pts_nil, fun _ _ _ _ _ => (pe_and (pe_cmpR op_ne (pv 0) (pv 2) (nomark _)) (pe_one (pe_call GI hr (by rfl) mI FI.kp bI .nil pass0 (pa_cons (pv 0) (pa_cons (pv 2) pa_nil)))))⟩) pa_nil))), ?_⟩
    refine ⟨_, rfl, l, rfl, ⟨_, SqL.of hl⟩, fun D hD => ?_⟩
    have sD : ∀ ys', Same H (upd H D (.lst ys')) := fun ys' => same_upd hD
    refine lc_list (K := K) (a := l) (i := 2) (xs := nums S) (fun _ => true) (fun v => match v with | .int j => .bl (decide (j.toNat ≠ b) && decide (In b j.toNat)) | _ => .non) (fun ys' => SqL.of (sD ys' _ _ hl)) (by rw [nums_len, sizeLine_eq]; omega) (fun k' x v ys' R hk' hR' => hR' _ rfl) ?_ ?_
    · intro k' x v ys' R hk' _ hR'
      obtain ⟨j, ej, rfl⟩ := nums_mem hk'
      have hR2 := hR' _ rfl
      have ejt : ((j : Nat) : Int).toNat = j := Int.toNat_natCast j
      dsimp only at hR2
      rw [ejt] at hR2
      refine ⟨_, rfl, _, rfl, rfl, decide (j ≠ b), ?_, ?_⟩
      · rw [decide_not, dec_nat, show decide (b = j) = decide (j = b) from decide_eq_decide.mpr ⟨Eq.symm, Eq.symm⟩]
      cases hne : decide (j ≠ b) with
      | false => rw [hne, Bool.false_and] at hR2; exact iteF hR2
      | true =>
        rw [hne, Bool.true_and] at hR2
        exact iteT ⟨_, rfl, _, rfl, b, j, rfl, hR2⟩
    · intro H5 e5
      have ebs : ((nums S).filter (fun _ => true)).map (fun v => match v with | .int j => V.bl (decide (j.toNat ≠ b) && decide (In b j.toNat)) | _ => .non) = (S.map fun j => decide (j ≠ b) && decide (In b j)).map V.bl := by
        unfold nums
        rw [List.filter_eq_self.mpr (fun _ _ => rfl), List.map_map, List.map_map]
        rfl
      rw [ebs] at e5
      subst e5
      refine ⟨D, _, rfl, SqL.of upd_same, ?_⟩
      have eany : (S.map fun j => decide (j ≠ b) && decide (In b j)).any id = S.any fun o => decide (o ≠ b) && decide (In b o) := by
        rw [List.any_map]; rfl
      rw [eany]
      exact q _ (same_upd hD)
abbrev NOut : List Str := ["self", "numbers", "sets"]
theorem scOuter : FnScope NOut ["self", "numbers"] (defScope sOuter) := ⟨rfl, rfl, rfl, by decide +kernel, rfl, by decide +kernel, by decide +kernel⟩
theorem lcOut1 : LcS (defScope sOuter).names [(".0", .local), ("number", .local), ("self", .free)] NOut [true, false, false] := ⟨by decide +kernel, by decide +kernel, by decide +kernel, by decide +kernel, by decide +kernel, rfl⟩
theorem lcOut2 : LcS (defScope sOuter).names [(".0", .local), ("number", .local), ("in_another", .globalImplicit), ("self", .free), ("sets", .free)] NOut [true, false, true] := ⟨by decide +kernel, by decide +kernel, by decide +kernel, by decide +kernel, by decide +kernel, rfl⟩
theorem ndOut1 : (["self", "numbers", "sets", "number"] : List Str).Nodup := by decide +kernel
theorem ok_outer {f fI fN : Addr} {fd fdI fdN : FuncData} (F : Fun K "outermost" "Claims.outermost" sOuter f fd) (T : ClT K mg C) (TX : Txn mg) (FI : Fun K "within" "within" sWithin fI fdI) (bI : Binds K fdI ["one", "other"] []) (mI : mg "within" = some (.ref fI))
    (FN : Fun K "in_another" "in_another" sAn fN fdN) (bN : Binds K fdN ["bits", "sets"] []) (mN : mg "in_another" = some (.ref fN)) :
    FnOk P w K mg base CX0 3 f fd ["self", "numbers"] (spOuter C) := by
  have GN : FnOk P w K mg base CX0 2 fN fdN ["bits", "sets"] spAn := ok_an FN TX FI bI mI
  refine F.ok scOuter (fun vs H Q E h => ?_) (fun cdv A outer s H vs Q E hr h => ?_)
  · obtain ⟨x, N, r, rows, rv, S, rfl, _⟩ := h; rfl
  · obtain ⟨x, N, r, rows, rv, S, rfl, h, hN, hS, hlt, q⟩ := h
    have nd := scOuter.nd
    refine ⟨_, pss_cons (ps_set (i := 2) nd rfl (Or.inr rfl) (pe_lc (ext := ["number"]) lcOut1 rfl (pi_list (pv 1))
        ⟨fun _ _ _ _ _ => (pg_name (i := 3) ndOut1 rfl (Or.inl rfl) (.inr rfl)), fun _ _ _ _ _ => pts_nil, fun _ _ _ _ _ => (pe_ix (ix_tup : IxR _ (rIxT K)) (pe_ix (ix_list : IxR _ (rIxL K)) (pe_fld (pv 0) rfl : PE _ _ (tFld K (tVar 0) ("rows" : Str))) (pv 3) (fun _ _ => rfl)) pe_int (fun _ _ => rfl))⟩))
      (pss_one (ps_ret (pe_lc (ext := ["number"]) lcOut2 rfl (pi_list (pv 1))
        ⟨fun _ _ _ _ _ => (pg_name (i := 3) ndOut1 rfl (Or.inl rfl) (.inr rfl)), fun _ _ _ _ _ => (pts_one (pt_not (pt_val (pe_call GN hr (by rfl) mN FN.kp bN .nil pass0 (pa_cons (pe_ix (ix_tup : IxR _ (rIxT K)) (pe_ix (ix_list : IxR _ (rIxL K)) (pe_fld (pv 0) rfl : PE _ _ (tFld K (tVar 0) ("rows" : Str))) (pv 3) (fun _ _ => rfl)) pe_int (fun _ _ => rfl)) (pa_cons (pv 2) pa_nil)))))), fun _ _ _ _ _ => (pv 3)⟩))), ?_⟩
    refine ⟨_, rfl, N, rfl, ⟨_, SqL.of hN⟩, fun D hD => ?_⟩
    have sD : ∀ ys', Same H (upd H D (.lst ys')) := fun ys' => same_upd hD
    refine lc_list (K := K) (a := N) (i := 3) (xs := nums S) (fun _ => true) (fun v => match v with | .int j => .int (bitsAt rows j.toNat : Int) | _ => .non) (fun ys' => SqL.of (sD ys' _ _ hN)) (by rw [nums_len, sizeLine_eq]; omega) (fun k' x v ys' R hk' hR' => hR' _ rfl) ?_ ?_
    · intro k' y v ys' R hk' _ hR'
      obtain ⟨j, ej, rfl⟩ := nums_mem hk'
      have h4 := h.same (sD ys')
      obtain ⟨t, n, a', m, e1, e2⟩ := h4.bits (hlt j (List.mem_of_getElem? ej))
      exact ⟨_, rfl, x, C, r.dx, _, .ref r.lr, rfl, h4.ins, T.cl, T.nR, rfl, _, rfl, r.lr, _, _, _, rfl, rfl, SqL.of h4.hlr, e1, t, _, _, _, rfl, rfl, SqT.of e2, rfl, hR' _ rfl⟩
    intro H5 e5
    have es : ((nums S).filter (fun _ => true)).map (fun v => match v with | .int j => V.int (bitsAt rows j.toNat : Int) | _ => .non) = nums (S.map (bitsAt rows)) := by
      unfold nums
      rw [List.filter_eq_self.mpr (fun _ _ => rfl), List.map_map, List.map_map]
      rfl
    rw [es] at e5
    have hD5 : H5 D = some (.lst (nums (S.map (bitsAt rows)))) := by rw [e5, upd_same]
    have s5 : Same H H5 := by rw [e5]; exact same_upd hD
    clear e5
    refine ⟨_, rfl, N, rfl, ⟨_, SqL.of (s5 _ _ hN)⟩, fun D2 hD2 => ?_⟩
    refine lc_lst (K := K) (a := N) (xs := nums S) (fun k ys σ' H' => (∃ v, σ' = [some (.ref x), none, some (.ref D), v]) ∧ Same H5 H' ∧ H' D2 = some (.lst ys) ∧ ys = nums ((S.take k).filter fun k => !below (bitsAt rows) S k))
      ⟨⟨_, rfl⟩, same_upd hD2, upd_same, rfl⟩ (fun k ys σ' H' _ hP => SqL.of (hP.2.1 _ _ (s5 _ _ hN))) ?_ ?_
    · rintro k y ys σ' H' hk ⟨⟨v, rfl⟩, s6, hD6, hys⟩
      obtain ⟨j, ej, rfl⟩ := nums_mem hk
      have hk' : k < (nums S).length := (List.getElem?_eq_some_iff.mp hk).1
      have h6 := (h.same s5).same s6
      obtain ⟨t, n, a', m, e1, e2⟩ := h6.bits (hlt j (List.mem_of_getElem? ej))
      have etk : S.take (k + 1) = S.take k ++ [j] := by rw [List.take_succ, ej]; rfl
      have eb : ((S.map (bitsAt rows)).any fun o => decide (o ≠ bitsAt rows j) && decide (In (bitsAt rows j) o)) = below (bitsAt rows) S j := by
        rw [List.any_map]; rfl
      unfold gName
      refine ⟨_, rfl, x, C, r.dx, _, .ref r.lr, rfl, h6.ins, T.cl, T.nR, rfl, _, rfl, r.lr, _, _, _, rfl, rfl, SqL.of h6.hlr, e1, t, _, _, _, rfl, rfl, SqT.of e2, rfl, _, rfl, bitsAt rows j, D, S.map (bitsAt rows), rfl, s6 _ _ hD5, by rw [List.length_map]; exact hS, fun H7 s7 => ⟨_, rfl, ?_⟩⟩
      rw [eb]
      have hfl := List.length_filter_le (fun k => !below (bitsAt rows) S k) (S.take k)
      have htl : (S.take k).length ≤ S.length := by rw [List.length_take]; omega
      cases hbl : below (bitsAt rows) S j with
      | true =>
        refine iteF ?_
        refine ⟨(nums S).length - (k + 1), by omega, rfl, hk', ⟨_, rfl⟩, s6.trans s7, s7 _ _ hD6, ?_⟩
        rw [hys, etk, List.filter_append, List.filter_cons, hbl]
        show _ = nums (_ ++ [])
        rw [List.append_nil]
      | false =>
        refine iteT ⟨_, rfl, s7 _ _ hD6, by rw [hys, nums_len, sizeLine_eq]; omega, Beh.of hk' ⟨⟨_, rfl⟩, fun e o qe => ?_, upd_same, ?_⟩⟩
        · rw [upd_ne (ne_of_none qe hD2)]; exact s7 _ _ (s6 _ _ qe)
        · rw [etk, List.filter_append, List.filter_cons, hbl, hys, nums_snoc]
          rfl
    · rintro ys σ' H' ⟨_, s6, hD6, hys⟩
      rw [nums_len, List.take_length] at hys
      rw [hys] at hD6
      exact q H' D2 (s5.trans s6) (s5.free hD2) hD6
end
end K24

set_option Elab.async false
set_option linter.all false
set_option maxRecDepth 100000
set_option maxHeartbeats 4000000
/-! k24: claim_of. Own work. -/
namespace K24
open PySem L2 Builtin.Str CM XC
section
variable {P : Program} {w : World} {K : PySem.W.Frag} {mg : Str → Option Value} {base : Heap} {C cT : Addr}
abbrev NOf : List Str := ["self", "name", "bits", "numbers", "union", "number", "widest", "outer"]
theorem scCOf : FnScope NOf ["self", "name", "bits"] (defScope sCOf) := ⟨rfl, rfl, rfl, by decide +kernel, rfl, by decide +kernel, by decide +kernel⟩
theorem lcOf1 : LcS (defScope sCOf).names [(".0", .local), ("number", .local), ("self", .free), ("union", .free)] NOf [true, false, false, false, true, false, false, false] := ⟨by decide +kernel, by decide +kernel, by decide +kernel, by decide +kernel, by decide +kernel, rfl⟩
theorem ndOf1 : NOf.Nodup := by decide +kernel
theorem ok_ofX {f fO fI fP fN fT fH : Addr} {fd fdO fdI fdP fdN fdT fdH : FuncData} (F : Fun K "claim_of" "Claims.claim_of" sCOf f fd) (T : ClT K mg C) (TX : Txn mg) (FO : Fun K "told" "told" sTold fO fdO) (bO : Binds K fdO ["bits"] []) (mO : mg "told" = some (.ref fO))
    (FI : Fun K "within" "within" sWithin fI fdI) (bI : Binds K fdI ["one", "other"] []) (mI : mg "within" = some (.ref fI)) (FP : Fun K "open_to" "Claims.open_to" sCOpen fP fdP) (bP : Binds K fdP ["self", "name", "bits"] []) (mP : Meth K C "open_to" fP)
    (FN : Fun K "in_another" "in_another" sAn fN fdN) (bN : Binds K fdN ["bits", "sets"] []) (mN : mg "in_another" = some (.ref fN)) (FT : Fun K "outermost" "Claims.outermost" sOuter fT fdT) (bT : Binds K fdT ["self", "numbers"] []) (mT : Meth K C "outermost" fT)
    (MT : MkE K cT fH) (eT : EC K cT) (mTC : mg "TwoClaims" = some (.ref cT)) (GH0 : FnOk P w K mg base CX0 1 fH fdH ["self", "words", "at", "other"] (spHI K)) (bH : Binds K fdH ["self", "words", "at", "other"] []) :
    FnOk P w K mg base (CXE P w) 4 f fd ["self", "name", "bits"] (spOfX C cT) := by
  have GP : FnOk P w K mg base CX0 3 fP fdP ["self", "name", "bits"] (spOpen C) := (ok_open FP T FO bO mO FI bI mI).mono (by decide)
  have GT : FnOk P w K mg base CX0 3 fT fdT ["self", "numbers"] (spOuter C) := ok_outer FT T TX FI bI mI FN bN mN
  refine okX F scCOf (fun vs H Q E h => ?_) (fun cdv A outer s H vs Q E hr h => ?_)
  · obtain ⟨x, nm, b, ys, r, rows, rv, at_, rfl, _⟩ := h; rfl
  · obtain ⟨x, nm, b, ys, r, rows, rv, at_, rfl, h, hlen, hop64, hb, hy, hnm, hat, q, qe⟩ := h
    have nd := scCOf.nd
    have hr2 : Room 2 _ := hr.mono (by decide)
    have NW : NewX (cxOf (CXE P w) P w K mg base NOf "Claims.claim_of" (defScope sCOf) f cdv A outer s H E) cT E := fun pins σ H1 s1 x od I hx hz hE => xe_new I hx hz hE
    refine ⟨_, pss_cons (ps_set (i := 3) nd rfl (Or.inl rfl) (pe_meth (pv 0) T.cl mP GP hr bP .nil pass0 (pa_cons (pv 1) (pa_cons (pv 2) pa_nil))))
      (pss_cons (ps_if (pt_cmpR op_eq (pe_callB call_len_seq (by rfl) T.len bt_len (pa_cons (pv 3) pa_nil)) pe_int (nomark _)) (pss_one (ps_ret pe_non)) pss_nil)
      (pss_cons (ps_set (i := 4) nd rfl (Or.inr rfl) pe_int)
      (pss_cons (ps_for PassesOwn.leaving rfl (pi_list (pv 3)) (pg_name (i := 5) nd rfl (Or.inl rfl))
        (pss_one (ps_set (i := 4) nd rfl (Or.inr rfl) (pe_op op_or (pv 4) (pe_ix ix_tup (pe_ix ix_list (pe_fld (pv 0) rfl : PE _ _ (tFld K (tVar 0) ("rows" : Str))) (pv 5) (fun _ _ => rfl)) pe_int (fun _ _ => rfl))))))
      (pss_cons (ps_lc (i := 6) (ext := []) nd rfl rfl lcOf1 rfl (pi_list (pv 3))
          ⟨fun _ _ _ _ _ => (pg_name (i := 5) ndOf1 rfl (Or.inl rfl) (.inr rfl)), fun _ _ _ _ _ => (pts_one (pt_cmpR op_eq (pe_ix (ix_tup : IxR _ (rIxT K)) (pe_ix (ix_list : IxR _ (rIxL K)) (pe_fld (pv 0) rfl : PE _ _ (tFld K (tVar 0) ("rows" : Str))) (pv 5) (fun _ _ => rfl)) pe_int (fun _ _ => rfl)) (pv 4) (nomark _))), fun _ _ _ _ _ => (pv 5)⟩)
      (pss_cons (ps_if (pt_cmpR op_eq (pe_callB call_len_seq (by rfl) T.len bt_len (pa_cons (pv 6) pa_nil)) pe_int (nomark _)) (pss_one (ps_ret (pe_ix ix_list (pv 6) pe_int (fun _ _ => rfl)))) pss_nil)
      (pss_cons (ps_set (i := 7) nd rfl (Or.inl rfl) (pe_meth (pv 0) T.cl mT GT hr bT .nil pass0 (pa_cons (pv 3) pa_nil)))
      (pss_one (ps_raise NW rfl MT GH0 hr2 (by rfl) mTC bH (dvs := []) .nil (pa_cons (pe_fsR (pv 1)) (pa_cons (pe_ix ix_tup (pe_ix ix_list (pe_fld (pv 0) rfl : PE _ _ (tFld K (tVar 0) ("rows" : Str))) (pe_ix ix_list (pv 7) pe_int (fun _ _ => rfl)) (fun _ _ => rfl)) pe_int (fun _ _ => rfl)) (pa_cons (pe_ix ix_tup (pe_ix ix_list (pe_fld (pv 0) rfl : PE _ _ (tFld K (tVar 0) ("rows" : Str))) (pe_ix ix_list (pv 7) pe_int (fun _ _ => rfl)) (fun _ _ => rfl)) pe_int (fun _ _ => rfl)) pa_nil))))))))))), ?_⟩
    refine ⟨_, rfl, x, r.dx, _, rfl, h.ins, rfl, _, rfl, _, rfl, x, nm, b, ys, r, rows, rv, rfl, h, hlen, hop64, hb, hy, fun H1 N s1 hN hN1 => ?_⟩
    have h1 := h.same s1
    refine ⟨_, rfl, N, _, rfl, .inl (SqL.of hN1), rfl, decide (opens rows nm b = []), ?_, ?_⟩
    · rw [nums_len]
      congr 1
      rw [decide_eq_decide]
      constructor
      · intro e
        injection e with e
        exact List.length_eq_zero_iff.mp (by omega)
      · intro e; rw [e]; rfl
    by_cases h0 : opens rows nm b = []
    · rw [decide_eq_true h0]
      have e : topsOf rows nm b = [] := tops_nil.mpr h0
      rw [e] at q
      exact iteT (q (by decide) H1 s1)
    rw [decide_eq_false h0]
    refine iteF ?_
    have hlt : ∀ k ∈ opens rows nm b, k < rows.length := fun k hk => (mem_opens.mp hk).1
    have hol : (opens rows nm b).length ≤ rows.length := by
      have := List.length_filter_le (fun k => nameIs rows nm k && decide (In (bitsAt rows k) b)) (List.range rows.length)
      rw [List.length_range] at this
      exact this
    refine ⟨_, rfl, N, rfl, ⟨_, SqL.of hN1⟩, for_list (xs := nums (opens rows nm b)) (fun i σ H' => (∃ v, σ = [some (.ref x), some (.str nm), some (.int (b : Int)), some (.ref N), some (.int (((opens rows nm b).take i).foldl (fun a k => a ||| bitsAt rows k) 0 : Nat)), v, none, none]) ∧ H' = H1)
      ⟨⟨_, rfl⟩, rfl⟩ (fun i σ H' _ hP => by rw [hP.2]; exact SqL.of hN1) ?_ ?_⟩
    · rintro i v σ H' hi ⟨⟨v', rfl⟩, rfl⟩
      obtain ⟨k, ek, rfl⟩ := nums_mem hi
      obtain ⟨t, n, a', m, e1, e2⟩ := h1.bits (hlt k (List.mem_of_getElem? ek))
      refine ⟨_, rfl, _, rfl, x, C, r.dx, _, .ref r.lr, rfl, h1.ins, T.cl, T.nR, rfl, _, rfl, r.lr, _, _, _, rfl, rfl, SqL.of h1.hlr, e1, t, _, _, _, rfl, rfl, SqT.of e2, rfl, _, _, rfl, rfl, ⟨some (.int (k : Int)), ?_⟩, rfl⟩
      rw [fold_succ ek, ← or_nn]
      rfl
    · rintro σ H' ⟨⟨v', rfl⟩, rfl⟩
      rw [nums_len, List.take_length, show (opens rows nm b).foldl (fun a k => a ||| bitsAt rows k) 0 = union (bitsAt rows) (opens rows nm b) from rfl]
      refine ⟨_, rfl, N, rfl, ⟨_, SqL.of hN1⟩, fun D hD => ?_⟩
      have sD : ∀ ys', Same H' (upd H' D (.lst ys')) := fun ys' => same_upd hD
      refine lc_list (K := K) (a := N) (i := 5) (xs := nums (opens rows nm b)) (fun v => match v with | .int k => decide (bitsAt rows k.toNat = union (bitsAt rows) (opens rows nm b)) | _ => false) (fun v => v) (fun ys' => SqL.of (sD ys' _ _ hN1)) (by rw [nums_len, sizeLine_eq]; omega) ?_ ?_ ?_
      · intro k y v ys' R hk hR
        obtain ⟨k', ek, rfl⟩ := nums_mem hk
        have h4 := h1.same (sD ys')
        obtain ⟨t, n, a', m, e1, e2⟩ := h4.bits (hlt k' (List.mem_of_getElem? ek))
        refine ⟨_, rfl, x, C, r.dx, _, .ref r.lr, rfl, h4.ins, T.cl, T.nR, rfl, _, rfl, r.lr, _, _, _, rfl, rfl, SqL.of h4.hlr, e1, t, _, _, _, rfl, rfl, SqT.of e2, rfl, _, rfl, rfl, decide (bitsAt rows k' = union (bitsAt rows) (opens rows nm b)), ?_, hR _ rfl⟩
        rw [dec_V, decide_eq_decide.mpr (show ((bitsAt rows k' : Nat) : Int) = ((union (bitsAt rows) (opens rows nm b) : Nat) : Int) ↔ bitsAt rows k' = union (bitsAt rows) (opens rows nm b) from by omega)]
      · intro k y v ys' R hk hp hR
        exact ⟨_, rfl, hR _ rfl⟩
      · intro H5 e5
        have efil : ((nums (opens rows nm b)).filter (fun v => match v with | .int k => decide (bitsAt rows k.toNat = union (bitsAt rows) (opens rows nm b)) | _ => false)).map (fun v => v) = nums ((opens rows nm b).filter fun i => decide (bitsAt rows i = union (bitsAt rows) (opens rows nm b))) := by
          unfold nums
          rw [List.map_id', List.filter_map]
          rfl
        rw [efil] at e5
        have hD5 : H5 D = some (.lst (nums ((opens rows nm b).filter fun i => decide (bitsAt rows i = union (bitsAt rows) (opens rows nm b))))) := by rw [e5, upd_same]
        have s5 : Same H' H5 := by rw [e5]; exact same_upd hD
        clear e5
        refine ⟨_, rfl, D, _, rfl, .inl (SqL.of hD5), rfl, decide (((opens rows nm b).filter fun i => decide (bitsAt rows i = union (bitsAt rows) (opens rows nm b))).length = 1), ?_, ?_⟩
        · rw [nums_len, dec_V, decide_eq_decide.mpr (show ((((opens rows nm b).filter fun i => decide (bitsAt rows i = union (bitsAt rows) (opens rows nm b))).length : Nat) : Int) = 1 ↔ ((opens rows nm b).filter fun i => decide (bitsAt rows i = union (bitsAt rows) (opens rows nm b))).length = 1 from by omega)]
        by_cases h1t : ∃ k0, topsOf rows nm b = [k0]
        · obtain ⟨k0, hk0⟩ := h1t
          obtain ⟨hkS, hun, hfil⟩ := one_top hk0
          rw [hfil] at hD5 ⊢
          rw [hk0] at q
          rw [decide_eq_true (show [k0].length = 1 from rfl)]
          exact iteT ⟨_, rfl, D, _, _, _, rfl, rfl, SqL.of hD5, rfl, q (Nat.le_refl 1) _ (s1.trans s5)⟩
        · have hmt := more_tops (f := bitsAt rows) h0 (fun k e => h1t ⟨k, e⟩) ((opens_sorted rows nm b).imp fun h => Nat.ne_of_lt h)
          rw [decide_eq_false hmt]
          refine iteF ?_
          have h15 := h1.same s5
          obtain ⟨k0, k1, ks, ek⟩ : ∃ k0 k1 ks, topsOf rows nm b = k0 :: k1 :: ks := by
            cases e : topsOf rows nm b with
            | nil => exact absurd (tops_nil.mp e) h0
            | cons k0 r1 =>
              cases r1 with
              | nil => exact absurd ⟨k0, e⟩ h1t
              | cons k1 ks => exact ⟨k0, k1, ks, rfl⟩
          have hin : ∀ k ∈ topsOf rows nm b, k < rows.length := fun k hk => hlt k (mem_tops.mp hk).1
          refine ⟨_, rfl, x, r.dx, _, rfl, h15.ins, rfl, _, rfl, x, N, r, rows, rv, opens rows nm b, rfl, h15, s5 _ _ hN1, by omega, hlt, fun H6 O s6 hO hO6 => ?_⟩
          have h16 := h15.same s6
          rw [show tops (bitsAt rows) (opens rows nm b) = k0 :: k1 :: ks from ek] at hO6
          have s16 := (s1.trans s5).trans s6
          obtain ⟨t0, n0, b0, m0, a1, a2⟩ := (hat k0 (hin k0 (by rw [ek]; exact List.mem_cons_self))).same s16
          obtain ⟨t1, n1, b1, m1, c1, c2⟩ := (hat k1 (hin k1 (by rw [ek]; exact List.mem_cons_of_mem _ List.mem_cons_self))).same s16
          refine ⟨_, rfl, nm, rfl, hnm.1, hnm.2, fun wd => ?_⟩
          refine ⟨_, rfl, x, C, r.dx, _, .ref r.lr, rfl, h16.ins, T.cl, T.nR, rfl, _, rfl, O, _, _, _, rfl, rfl, SqL.of hO6, atI_nat (k := 0) rfl, r.lr, _, _, _, rfl, rfl, SqL.of h16.hlr, atI_nat a1, t0, _, _, _, rfl, rfl, SqT.of a2, rfl, ?_⟩
          refine ⟨_, rfl, x, C, r.dx, _, .ref r.lr, rfl, h16.ins, T.cl, T.nR, rfl, _, rfl, O, _, _, _, rfl, rfl, SqL.of hO6, atI_nat (k := 1) rfl, r.lr, _, _, _, rfl, rfl, SqL.of h16.hlr, atI_nat c1, t1, _, _, _, rfl, rfl, SqT.of c2, rfl, ?_⟩
          refine fun y hy6 => ⟨y, cT, _, _, _, rfl, upd_same, eT, fun dx2 H7 hdx hne hk e1 e2 => ⟨rfl, y, some dx2, rfl, e1, ?_⟩⟩
          refine qe k0 k1 ks ek y _ (fun c u e => ?_) (s16.free hy6) ⟨dx2, .inl upd_same, by rw [upd_ne hne]; exact e2⟩
          have nb : c ≠ y := fun z => by rw [z, s16.free hy6] at e; cases e
          rw [upd_ne nb]
          exact hk c u nb (by rw [upd_ne nb]; exact s16 _ _ e)
end
end K24

set_option Elab.async false
set_option linter.all false
set_option maxRecDepth 100000
set_option maxHeartbeats 4000000
/-! The law's own cells, whole numbers and names (laws of claims). Own work (made of a template). -/
namespace K24
open PySem L2 Builtin.Str
abbrev sCell : Stmt := top 19
abbrev sWhole : Stmt := top 20
abbrev sNames : Stmt := top 21
structure Txt (mg : Str → Option Value) : Prop where
  len : mg "len" = none
  range : mg "range" = none
  isi : mg "isinstance" = none
  int : mg "int" = none
  bool : mg "bool" = none
  any : mg "any" = none
  sum : mg "sum" = none
def spCell (K : PySem.W.Frag) : Sp := fun vs H Q _ => ∃ (a : Addr) (k : Int) (ns : List Int), vs = [.ref a, .int k] ∧ SqL K H a (ns.map V.int) ∧ 0 ≤ k ∧ k ≤ 1000 ∧ ns.length ≤ 63 ∧ ∀ z : Int, Q (.int z) H
def spWhole : Sp := fun vs H Q _ => ∃ z : Int, vs = [.int z] ∧ Q (.bl true) H
def Asc (z : Str) : Prop := ∀ c ∈ cpl z, c < 1000
def spNames : Sp := fun vs H Q _ => ∃ (n many : Int), vs = [.int n, .int many] ∧ 0 ≤ many ∧ many ≤ 10 ∧
  ∀ (H' : Hp) (D : Addr) (zs : List Str), Same H H' → H D = none → H' D = some (.lst (zs.map V.str)) → zs.length = many.toNat → (∀ z ∈ zs, z.length ≤ 200 ∧ Asc z) → Q (.ref D) H'
theorem atI_ints {ns : List Int} {k : Int} (h0 : 0 ≤ k) (h1 : k < ns.length) : atI (ns.map V.int) k = some (.int (ns.getD k.toNat 0)) := by
  have hk : k.toNat < ns.length := by omega
  unfold atI ixN
  rw [if_pos h0, if_pos (by rw [List.length_map]; exact h1)]
  show (ns.map V.int)[k.toNat]? = _
  rw [List.getElem?_map, List.getElem?_eq_getElem hk]
  simp [List.getD, List.getElem?_eq_getElem hk]
theorem atI_mem {α : Type} {xs : List α} {i : Int} (h0 : 0 ≤ i) (h : i < xs.length) : ∃ c, atI xs i = some c ∧ c ∈ xs := by
  have hk : i.toNat < xs.length := by omega
  refine ⟨xs[i.toNat], ?_, List.getElem_mem hk⟩
  unfold atI ixN
  rw [if_pos h0, if_pos h]
  exact List.getElem?_eq_getElem hk
theorem join_len : ∀ (xs : List Str), (∀ x ∈ xs, x.length = 1) → (Str.join "" xs).length = xs.length
  | [], _ => rfl
  | [x], h => by show x.length = 1; exact h x List.mem_cons_self
  | x :: y :: r, h => by
    have ih := join_len (y :: r) fun z hz => h z (List.mem_cons_of_mem _ hz)
    show (x ++ "" ++ Str.join "" (y :: r)).length = _
    rw [← cpl_len, cpl_cat, cpl_cat, List.length_append, List.length_append, cpl_len, cpl_len, cpl_len, ih, h x List.mem_cons_self, List.length_cons (a := x)]
    show 1 + 0 + _ = _
    omega
section
variable {P : Program} {w : World} {K : PySem.W.Frag} {mg : Str → Option Value} {base : Heap}
theorem scCell : FnScope ["_law_script", "_law_k", "_law_number"] ["_law_script", "_law_k"] (defScope sCell) := ⟨rfl, rfl, rfl, by decide +kernel, rfl, by decide +kernel, by decide +kernel⟩
theorem ok_cell {f : Addr} {fd : FuncData} (F : Fun K "_law_cell" "_law_cell" sCell f fd) (T : Txt mg) : FnOk P w K mg base CX0 1 f fd ["_law_script", "_law_k"] (spCell K) := by
  refine F.ok scCell (fun vs H Q E h => ?_) (fun cdv A outer s H vs Q E hr h => ?_)
  · obtain ⟨a, k, ns, rfl, _⟩ := h; rfl
  · obtain ⟨a, k, ns, rfl, hS, k0, k1, hl, q⟩ := h
    have nd := scCell.nd
    refine ⟨_, pss_cons (ps_if (pt_cmpR op_lt (pv 1) (pe_callB call_len_seq (by rfl) T.len bt_len (pa_cons (pv 0) pa_nil)) (nomark _)) (pss_one (ps_ret (pe_ix ix_list (pv 0) (pv 1) (fun _ _ => rfl)))) pss_nil)
      (pss_cons (ps_set (i := 2) nd rfl (Or.inl rfl) (pe_op op_add (pe_op op_mul (pv 1) pe_int) pe_int))
      (pss_cons (ps_if (pt_cmpR op_gt (pe_callB call_len_seq (by rfl) T.len bt_len (pa_cons (pv 0) pa_nil)) pe_int (nomark _))
        (pss_one (ps_set (i := 2) nd rfl (Or.inl rfl) (pe_op op_mod (pe_op op_add (pe_op op_mul (pe_ix ix_list (pv 0) (pe_op op_mod (pe_op op_mul (pv 1) pe_int) (pe_callB call_len_seq (by rfl) T.len bt_len (pa_cons (pv 0) pa_nil))) (fun _ _ => rfl)) pe_int) (pe_op op_mul (pv 1) pe_int)) pe_int))) pss_nil)
      (pss_one (ps_ret (pe_op op_mod (pe_op op_mul (pv 2) (pv 2)) pe_int))))), ?_⟩
    have hlen : ((ns.map V.int).length : Int) = ns.length := by rw [List.length_map]
    refine ⟨_, rfl, _, rfl, a, _, rfl, .inl hS, _, _, rfl, rfl, _, rfl, ?_⟩
    refine ite2 (fun hlt => ?_) (fun hge => ?_)
    · -- return script[k]
      have hlt' : k < ns.length := by rw [decide_eq_true_eq, hlen] at hlt; exact hlt
      have hk : k.toNat < ns.length := by omega
      exact ⟨_, rfl, _, rfl, a, _, _, _, rfl, rfl, hS, atI_ints k0 hlt', q _⟩
    · refine ⟨_, rfl, _, _, rfl, rfl, .inl ⟨by omega, by omega⟩, _, _, rfl, rfl, ?_⟩
      refine ⟨_, rfl, a, _, rfl, .inl hS, _, _, rfl, rfl, _, rfl, ?_⟩
      refine ite2 (fun hpos => ?_) (fun hz => ?_)
      · have hpos' : 0 < ns.length := by
          rw [decide_eq_true_eq, hlen] at hpos; omega
        have hm0 : 0 ≤ k * 7 % (ns.length : Int) := Int.emod_nonneg _ (by omega)
        have hm1 : k * 7 % (ns.length : Int) < ns.length := Int.emod_lt_of_pos _ (by omega)
        have hi : (k * 7 % (ns.length : Int)).toNat < ns.length := by omega
        refine ⟨_, rfl, _, rfl, _, _, rfl, rfl, .inl ⟨by omega, by omega⟩, _, rfl, a, _, rfl, .inl hS, _, _, rfl, rfl, (by rw [hlen]; omega), a, _, _, _, rfl, rfl, hS, (by rw [hlen]; exact atI_ints hm0 hm1), _, _, rfl, rfl, .inr ⟨by decide, by decide⟩, _, rfl, _, _, rfl, rfl, .inl ⟨by omega, by omega⟩, _, _, rfl, rfl, _, _, rfl, rfl, (by show (0 : Int) < _; decide), ?_⟩
        generalize hz : (ns.getD (k * 7 % (ns.length : Int)).toNat 0 * 48271 + k * 7919) % 2147483647 = z
        have z0 : 0 ≤ z := by rw [← hz]; exact Int.emod_nonneg _ (by decide)
        have z1 : z < 2147483647 := by rw [← hz]; exact Int.emod_lt_of_pos _ (by decide)
        exact ⟨_, rfl, _, rfl, _, _, rfl, rfl, .inl ⟨by omega, by omega⟩, _, _, rfl, rfl, (by show (0 : Int) < _; decide), q _⟩
      · exact ⟨_, rfl, _, rfl, _, _, rfl, rfl, .inl ⟨by omega, by omega⟩, _, _, rfl, rfl, (by show (0 : Int) < _; decide), q _⟩
theorem scWhole : FnScope ["_law_found"] ["_law_found"] (defScope sWhole) := ⟨rfl, rfl, rfl, by decide +kernel, rfl, by decide +kernel, by decide +kernel⟩
theorem ok_whole {f : Addr} {fd : FuncData} (F : Fun K "_law_whole" "_law_whole" sWhole f fd) (T : Txt mg) : FnOk P w K mg base CX0 1 f fd ["_law_found"] spWhole := by
  refine F.ok scWhole (fun vs H Q E h => ?_) (fun cdv A outer s H vs Q E hr h => ?_)
  · obtain ⟨x, rfl, _⟩ := h; rfl
  · obtain ⟨x, rfl, q⟩ := h
    refine ⟨_, pss_one (ps_ret (pe_and (pe_callB call_isI (by rfl) T.isi bt_isinstance (pa_cons (pv 0) (pa_cons (pe_bltn (v := .ty "int") (by rfl) T.int bt_int rfl) pa_nil)))
      (pe_one (pe_not (pe_callB call_isI (by rfl) T.isi bt_isinstance (pa_cons (pv 0) (pa_cons (pe_bltn (v := .ty "bool") (by rfl) T.bool bt_bool rfl) pa_nil))))))), ?_⟩
    refine ⟨_, rfl, .int x, .ty "int", _, _, true, rfl, rfl, TyOf.int x, rfl, true, rfl, iteT ?_⟩
    exact ⟨_, rfl, .int x, .ty "bool", _, _, false, rfl, rfl, TyOf.int x, rfl, false, rfl, q⟩
/-! ### names -/
abbrev NN : List Str := ["_law_cell_here", "_law_many", "_law_letters", "_law_size", "_law_base", "_law_at", "_law_names_here", "_law_k", "_law_name"]
theorem scNames : FnScope NN ["_law_cell_here", "_law_many"] (defScope sNames) := ⟨rfl, rfl, rfl, by decide +kernel, rfl, by decide +kernel, by decide +kernel⟩
theorem lcNames1 : LcS (defScope sNames).names [(".0", .local), ("_law_k", .local), ("_law_cell_here", .free), ("_law_letters", .free)] NN [true, false, true, false, false, false, false, false, false] := ⟨by decide +kernel, by decide +kernel, by decide +kernel, by decide +kernel, by decide +kernel, rfl⟩
theorem ndNames1 : NN.Nodup := by decide +kernel
theorem yes_if {σ : St} {H : Hp} {A B : Hp → Prop} (h : A H) : tYes σ H (fun b H3 => if b = true then A H3 else B H3) := by
  show if true = true then A H else B H
  rw [if_pos rfl]; exact h
theorem slice_sub {x : Str} {lo hi : Option Int} {c : Nat} (h : c ∈ cpl (Txt.slice x lo hi)) : c ∈ cpl x := by
  unfold Txt.slice at h
  split at h
  · exact h
  · have h' : c ∈ (Builtin.Str.strSliceIndices lo hi 1 x.length).filterMap (x.cps[·]?) := by simpa [cpl] using h
    obtain ⟨k, _, hk⟩ := List.mem_filterMap.mp h'
    exact (Array.mem_toList_iff ..).mpr (Array.mem_of_getElem? hk)
theorem abc_lt : ∀ c ∈ cpl ("abcdefghijklmnopqrstuvwxyz" : Str), c < 1000 := by decide +kernel
theorem fig_lt : ∀ c ∈ cpl ("0123456789" : Str), c < 1000 := by decide +kernel
theorem asc_one {c : Nat} (h : c < 1000) : Asc ⟨#[c]⟩ := fun d hd => by
  have : d ∈ [c] := hd
  rw [List.mem_singleton.mp this]; exact h
theorem asc_cat {x y : Str} (hx : Asc x) (hy : Asc y) : Asc (x ++ y) := fun c h => by
  rw [cpl_cat] at h
  rcases List.mem_append.mp h with h | h
  · exact hx c h
  · exact hy c h
theorem asc_join : ∀ (xs : List Str), (∀ x ∈ xs, Asc x) → Asc (Str.join "" xs)
  | [], _ => fun c h => nomatch h
  | [x], h => by show Asc x; exact h x List.mem_cons_self
  | x :: y :: r, h => by
    show Asc (x ++ "" ++ Str.join "" (y :: r))
    exact asc_cat (asc_cat (h x List.mem_cons_self) (fun c h => nomatch h)) (asc_join (y :: r) fun z hz => h z (List.mem_cons_of_mem _ hz))
theorem rep_len1 (c : Str) (k : Nat) (hc : c.length = 1) : (ofL (List.replicate k (cpl c)).flatten).length = k := by
  rw [← cpl_len, cpl_ofL]
  simp only [List.length_flatten, List.map_replicate, List.sum_replicate_nat]
  rw [cpl_len, hc, Nat.mul_one]
theorem ok_names {f : Addr} {fd : FuncData} (F : Fun K "_law_names" "_law_names" sNames f fd) (T : Txt mg) : FnOk P w K mg base CX0 1 f fd ["_law_cell_here", "_law_many"] spNames := by
  refine F.ok scNames (fun vs H Q E h => ?_) (fun cdv A outer s H vs Q E hr h => ?_)
  · obtain ⟨n, m, rfl, _⟩ := h; rfl
  · obtain ⟨n, many, rfl, m0, m1, q⟩ := h
    have nd := scNames.nd
    have letr : ∀ i : Int, ∃ c : Nat, atI (cpl ("abcdefghijklmnopqrstuvwxyz" : Str)) (i % 26) = some c ∧ c < 1000 := fun i => by
      have g0 := Int.emod_nonneg i (show (26 : Int) ≠ 0 by decide)
      have g1 := Int.emod_lt_of_pos i (show (0 : Int) < 26 by decide)
      obtain ⟨c, ec, hm⟩ := atI_mem (xs := cpl ("abcdefghijklmnopqrstuvwxyz" : Str)) (i := i % 26) g0 (by rw [show (cpl ("abcdefghijklmnopqrstuvwxyz" : Str)).length = 26 from by decide]; exact g1)
      exact ⟨c, ec, abc_lt c hm⟩
    have REST : ∃ t : TS, PSs (cxOf CX0 P w K mg base NN "_law_names" (defScope sNames) f cdv A outer s H E).nox ((defBody sNames).drop 3) t ∧ ∀ sz : Int, 1 ≤ sz → sz ≤ 60 →
        t { nx := fun _ H' => Q .non H', rt := Q } [some (.int n), some (.int many), some (.str "abcdefghijklmnopqrstuvwxyz"), some (.int sz), none, none, none, none, none] H := by
      refine ⟨_, pss_cons (ps_set (i := 4) nd rfl (Or.inl rfl) (pe_bm PySem.F.plainAttrs_str PySem.F.slot_str_join PySem.F.type_str_join mt_join pe_str (pa_cons (pe_lc (ext := []) lcNames1 rfl (pi_range1 rfl T.range (pa_cons (pv 3) pa_nil))
          ⟨fun _ _ _ _ _ => (pg_name (i := 7) ndNames1 rfl (Or.inl rfl) (.inr rfl)), fun _ _ _ _ _ => pts_nil, fun _ _ _ _ _ => (pe_ix ix_str (pv 2) (pe_op op_mod (pe_op op_add (pe_op op_mod (pv 0) pe_int) (pe_op op_mul pe_int (pv 7))) pe_int) (fun _ _ => rfl))⟩) pa_nil)))
        (pss_cons (ps_set (i := 5) nd rfl (Or.inl rfl) (pe_op op_mod (pe_op op_fdiv (pv 0) pe_int) (pe_callB call_len_str (by rfl) T.len bt_len (pa_cons (pv 4) pa_nil))))
        (pss_cons (ps_set (i := 6) nd rfl (Or.inl rfl) (pe_lst pa_nil))
        (pss_cons (ps_for PassesOwn.never rfl (pi_range1 rfl T.range (pa_cons (pv 1) pa_nil)) (pg_name (i := 7) nd rfl (Or.inl rfl))
        (pss_cons (ps_set (i := 8) nd rfl (Or.inl rfl) (pe_op op_add_str (pe_op op_add_str (pe_slice sl_str (pv 4) po_none (po_some (pv 5))) (pe_ix ix_str (pv 2) (pe_op op_mod (pe_op op_add (pe_op op_fdiv (pv 0) pe_int) (pv 7)) pe_int) (fun _ _ => rfl))) (pe_slice sl_str (pv 4) (po_some (pe_op op_add (pv 5) pe_int)) po_none)))
          (pss_cons (ps_if (pt_cmpR op_eq (pe_op op_mod (pe_op op_fdiv (pv 0) pe_int) pe_int) pe_int (nomark _))
          (pss_one (ps_set (i := 8) nd rfl (Or.inl rfl) (pe_op op_add_str (pv 4) (pe_op op_repS (pe_ix ix_str pe_str (pe_op op_mod (pe_op op_fdiv (pv 0) pe_int) pe_int) (fun _ _ => rfl)) (pv 7)))))
          pss_nil)
          (pss_one (ps_expr (pe_bm PySem.F.plainAttrs_list PySem.F.slot_list_append PySem.F.type_list_append mt_append (pv 6) (pa_cons (pv 8) pa_nil)))))))
        (pss_one (ps_ret (pv 6)))))), ?_⟩
      intro sz z0 z1
      refine ⟨rfl, _, rfl, sz, rfl, by omega, by omega, fun D hD => ?_⟩
      refine lc_rng (lo := 0) (n := sz.toNat) (fun k ys σ' H' => (∃ v, σ' = [some (.int n), none, some (.str "abcdefghijklmnopqrstuvwxyz"), none, none, none, none, v, none]) ∧ H' = upd H D (.lst ys) ∧ ∃ xs : List Str, ys = xs.map V.str ∧ (∀ x ∈ xs, x.length = 1) ∧ xs.length = k ∧ ∀ x ∈ xs, Asc x)
        ⟨⟨_, rfl⟩, rfl, [], rfl, (fun x h => nomatch h), rfl, fun x h => nomatch h⟩ ?_ ?_
      · rintro k ys σ' H' hk ⟨⟨v, rfl⟩, rfl, xs, hys, hx1, hxl, hxa⟩
        unfold gName
        refine yes_if ?_
        obtain ⟨c, ec, hc⟩ := letr (n % 10007 + 7 * (0 + (k : Int)))
        refine ⟨_, rfl, _, rfl, _, _, rfl, rfl, (by show (0 : Int) < _; decide), _, rfl, _, _, rfl, rfl, .inl ⟨by decide, by decide⟩, _, _, rfl, rfl, _, _, rfl, rfl, (by show (0 : Int) < _; decide), ("abcdefghijklmnopqrstuvwxyz" : Str), _, c, rfl, rfl, by decide, ec, ?_⟩
        refine ⟨upd_same, by rw [hys, List.length_map, hxl, sizeLine_eq]; omega, Beh.of hk ⟨⟨_, rfl⟩, by rw [upd_upd], xs ++ [⟨#[c]⟩], by rw [List.map_append, hys]; rfl, fun x hx => ?_, by rw [List.length_append, hxl]; rfl, fun x hx => ?_⟩⟩
        · rcases List.mem_append.mp hx with h | h
          · exact hx1 x h
          · rw [List.mem_singleton.mp h]; rfl
        · rcases List.mem_append.mp hx with h | h
          · exact hxa x h
          · rw [List.mem_singleton.mp h]; exact asc_one hc
      · rintro ys σ' H1 ⟨_, rfl, xs, rfl, hx1, hxl, hxa⟩
        have s1 := same_upd (o := .lst (xs.map V.str)) hD
        have hbl : (Str.join "" xs).length = sz.toNat := by rw [join_len xs hx1, hxl]
        refine ⟨_, D, xs, rfl, rfl, SqL.of upd_same, joinOk_of (B := 1) (fun y hy => by rw [hx1 y hy]; exact Nat.le_refl _) (by show xs.length * 1 + xs.length * 0 ≤ _; omega), ?_⟩
        have hba : Asc (Str.join "" xs) := asc_join xs hxa
        generalize Str.join "" xs = bs at hbl hba ⊢
        generalize upd H D (.lst (xs.map V.str)) = H1 at s1 ⊢
        refine ⟨_, rfl, _, _, rfl, rfl, ⟨by decide, by decide⟩, _, rfl, bs, rfl, by rw [sizeLine_eq]; omega, _, _, rfl, rfl, (by show (0 : Int) < ((bs.length : Nat) : Int); omega), ?_⟩
        refine ⟨Nat.zero_le _, fun N hN => ?_⟩
        have hNn : H N = none := by
          cases e : H N with
          | none => rfl
          | some o => rw [s1 _ _ e] at hN; cases hN
        have sN := s1.trans (same_upd (o := .lst []) hN)
        refine ⟨_, rfl, many, rfl, by omega, by omega, for_range (lo := 0) (n := many.toNat) (fun i σ H' => ∃ (zs : List Str) (v7 v8 : Option V), σ = [some (.int n), some (.int many), some (.str "abcdefghijklmnopqrstuvwxyz"), some (.int sz), some (.str bs), some (.int (n / 7 % (bs.length : Int))), some (.ref N), v7, v8] ∧ Same H H' ∧ H' N = some (.lst (zs.map V.str)) ∧ zs.length = i ∧ ∀ z ∈ zs, z.length ≤ 200 ∧ Asc z)
          ⟨[], none, none, rfl, sN, upd_same, rfl, fun z h => nomatch h⟩ ?_ ?_⟩
        · rintro i σ H' hi ⟨zs, v7, v8, rfl, s2, hN2, hzl, hz2⟩
          obtain ⟨c, ec, hc⟩ := letr (n / 5 + (0 + (i : Int)))
          have l1 := Txt.slice_le bs none (some (n / 7 % (bs.length : Int)))
          have l2 := Txt.slice_le bs (some (n / 7 % (bs.length : Int) + 1)) none
          refine ⟨_, rfl, _, rfl, _, rfl, bs, rfl, by rw [sizeLine_eq]; omega, _, rfl, _, rfl, _, _, rfl, rfl, ⟨by decide, by decide⟩, _, rfl, _, _, rfl, rfl, _, _, rfl, rfl, (by show (0 : Int) < _; decide), ("abcdefghijklmnopqrstuvwxyz" : Str), _, c, rfl, rfl, by decide, ec, _, _, rfl, rfl, ?_, _, rfl, _, rfl, _, _, rfl, rfl, _, rfl, bs, rfl, by rw [sizeLine_eq]; omega, _, _, rfl, rfl, ?_, ?_⟩
          · show (Txt.slice bs none (some (n / 7 % (bs.length : Int)))).length + 1 ≤ _
            rw [sizeLine_eq]; omega
          · rw [← cpl_len, cpl_cat, List.length_append, cpl_len, cpl_len, sizeLine_eq]
            show _ + 1 + _ ≤ _
            omega
          obtain ⟨nm, enm, hnl⟩ : ∃ nm : Str, Txt.slice bs none (some (n / 7 % (bs.length : Int))) ++ ⟨#[c]⟩ ++ Txt.slice bs (some (n / 7 % (bs.length : Int) + 1)) none = nm ∧ nm.length ≤ 200 ∧ Asc nm := by
            refine ⟨_, rfl, ?_, asc_cat (asc_cat (fun c h => hba c (slice_sub h)) (asc_one hc)) (fun c h => hba c (slice_sub h))⟩
            rw [← cpl_len, cpl_cat, cpl_cat, List.length_append, List.length_append, cpl_len, cpl_len, cpl_len]
            show _ + 1 + _ ≤ _
            omega
          dsimp only
          rw [enm]
          refine ⟨_, rfl, _, _, rfl, rfl, ⟨by decide, by decide⟩, _, _, rfl, rfl, (by show (0 : Int) < _; decide), rfl, _, rfl, ite2 (fun _ => ?_) (fun _ => ?_)⟩
          · have g0 := Int.emod_nonneg (n / 5) (show (10 : Int) ≠ 0 by decide)
            have g1 := Int.emod_lt_of_pos (n / 5) (show (0 : Int) < 10 by decide)
            obtain ⟨d, ed, hdm⟩ := atI_mem (xs := cpl ("0123456789" : Str)) (i := n / 5 % 10) g0 (by rw [show (cpl ("0123456789" : Str)).length = 10 from by decide]; exact g1)
            refine ⟨_, rfl, _, rfl, _, _, rfl, rfl, ⟨by decide, by decide⟩, _, _, rfl, rfl, (by show (0 : Int) < _; decide), ("0123456789" : Str), _, d, rfl, rfl, by decide, ed, _, rfl, ⟨#[d]⟩, _, rfl, rfl, by omega, by omega, ?_, by show 1 ≤ 1000000; decide, _, _, rfl, rfl, ?_, ?_⟩
            · show 1 * _ ≤ _; rw [sizeLine_eq]; omega
            · show bs.length + (ofL (List.replicate (0 + (i : Int)).toNat (cpl ⟨#[d]⟩)).flatten).length ≤ _
              rw [rep_len1 ⟨#[d]⟩ _ rfl, sizeLine_eq]; omega
            refine ⟨_, rfl, .inl ⟨rfl, _, SqL.of hN2⟩, _, rfl, N, _, _, rfl, rfl, hN2, by rw [List.length_map, hzl, sizeLine_eq]; omega, ?_⟩
            refine ⟨zs ++ [bs ++ ofL (List.replicate (0 + (i : Int)).toNat (cpl ⟨#[d]⟩)).flatten], _, _, rfl, fun e o he => ?_, by rw [upd_same, List.map_append]; rfl, by rw [List.length_append, hzl]; rfl, fun z hz => ?_⟩
            · rw [upd_ne (ne_of_none he hNn)]; exact s2 _ _ he
            · rcases List.mem_append.mp hz with h | h
              · exact hz2 z h
              · rw [List.mem_singleton.mp h]
                refine ⟨by rw [← cpl_len, cpl_cat, List.length_append, cpl_len, cpl_len, rep_len1 ⟨#[d]⟩ _ rfl]; omega, asc_cat hba fun c h => ?_⟩
                rw [cpl_ofL] at h
                obtain ⟨l, hl, hc'⟩ := List.mem_flatten.mp h
                rw [(List.mem_replicate.mp hl).2] at hc'
                exact asc_one (fig_lt d hdm) c hc'
          · refine ⟨_, rfl, .inl ⟨rfl, _, SqL.of hN2⟩, _, rfl, N, _, _, rfl, rfl, hN2, by rw [List.length_map, hzl, sizeLine_eq]; omega, ?_⟩
            refine ⟨zs ++ [nm], _, _, rfl, fun e o he => ?_, by rw [upd_same, List.map_append]; rfl, by rw [List.length_append, hzl]; rfl, fun z hz => ?_⟩
            · rw [upd_ne (ne_of_none he hNn)]; exact s2 _ _ he
            · rcases List.mem_append.mp hz with h | h
              · exact hz2 z h
              · rw [List.mem_singleton.mp h]; exact hnl
        · rintro σ H' ⟨zs, v7, v8, rfl, s2, hN2, hzl, hz2⟩
          exact ⟨_, rfl, q H' N zs s2 hNn hN2 hzl hz2⟩
    obtain ⟨tR, hR, hrest⟩ := REST
    refine ⟨_, pss_cons (ps_set (i := 2) nd rfl (Or.inr rfl) pe_str)
      (pss_cons (ps_set (i := 3) nd rfl (Or.inl rfl) (pe_op op_add pe_int (pe_op op_mod (pv 0) pe_int)))
      (pss_cons (ps_if (pt_cmpR op_eq (pe_op op_mod (pe_op op_fdiv (pv 0) pe_int) pe_int) pe_int (nomark _))
      (pss_one (ps_set (i := 3) nd rfl (Or.inl rfl) (pe_op op_add pe_int (pe_op op_mod (pe_op op_fdiv (pv 0) pe_int) pe_int)))) pss_nil) hR)), ?_⟩
    have g0 := Int.emod_nonneg n (show (6 : Int) ≠ 0 by decide)
    have g1 := Int.emod_lt_of_pos n (show (0 : Int) < 6 by decide)
    have k0 := Int.emod_nonneg (n / 616) (show (60 : Int) ≠ 0 by decide)
    have k1 := Int.emod_lt_of_pos (n / 616) (show (0 : Int) < 60 by decide)
    refine ⟨_, rfl, _, _, rfl, rfl, (by show (0 : Int) < _; decide), _, _, rfl, rfl, ?_⟩
    refine ⟨_, rfl, _, _, rfl, rfl, ⟨by decide, by decide⟩, _, _, rfl, rfl, (by show (0 : Int) < _; decide), rfl, _, rfl, ite2 (fun _ => ?_) (fun _ => ?_)⟩
    · refine ⟨_, rfl, _, _, rfl, rfl, ⟨by decide, by decide⟩, _, _, rfl, rfl, (by show (0 : Int) < _; decide), _, _, rfl, rfl, ?_⟩
      exact hrest _ (by show (1 : Int) ≤ 1 + n / 616 % 60; omega) (by show 1 + n / 616 % 60 ≤ (60 : Int); omega)
    · exact hrest _ (by show (1 : Int) ≤ 1 + n % 6; omega) (by show 1 + n % 6 ≤ (60 : Int); omega)
end
end K24

set_option Elab.async false
set_option linter.all false
set_option maxRecDepth 100000
set_option maxHeartbeats 4000000
/-! k24: the sets. Own work. -/
namespace K24
open PySem L2 Builtin.Str CM
abbrev sBits : Stmt := top 22
abbrev sDue : Stmt := top 23
abbrev sOnly : Stmt := top 24
abbrev sAsked : Stmt := top 25
abbrev sByAny : Stmt := top 26
abbrev sRight : Stmt := top 27
abbrev sLaw : Stmt := top 28
def spBits (K : PySem.W.Frag) : Sp := fun vs H Q _ => ∃ (a : Addr) (mask : Int) (ns : List Int), vs = [.ref a, .int mask] ∧ SqL K H a (ns.map V.int) ∧ ns.length ≤ 63 ∧ ∀ (n : Nat) (ys : List Int), BitsOf n ys → ys.length ≤ 6 → (∀ y ∈ ys, y < 15600) → Q (.int (n : Int)) H
/-- one greater number more -/
theorem bits_more {n k : Nat} {ys : List Int} (h : BitsOf n ys) (hk : ∀ y ∈ ys, y < (k : Int)) : BitsOf (n + 2 ^ k) (ys ++ [(k : Int)]) := by
  have hlt : n < 2 ^ k := Bits.lt_of_bits fun m hm => by
    rw [h.1 m, decide_eq_false_iff_not]
    intro hin
    have := hk _ hin
    omega
  refine ⟨fun m => ?_, fun y hy => ?_⟩
  · rw [Bits.tb_step n k hlt m, h.1 m, Bool.eq_iff_iff]
    simp only [Bool.or_eq_true, decide_eq_true_eq, List.mem_append, List.mem_singleton]
    constructor
    · rintro (h | h)
      · exact .inl h
      · exact .inr (by rw [h])
    · rintro (h | h)
      · exact .inl h
      · exact .inr (by omega)
  · rcases List.mem_append.mp hy with h' | h'
    · exact h.2 y h'
    · rw [List.mem_singleton.mp h']; omega
theorem bits_nil : BitsOf 0 [] := ⟨fun m => by simp, fun y h => nomatch h⟩
theorem shl_one (k : Nat) : (1 : Int) * 2 ^ ((k : Nat) : Int).toNat = ((2 ^ k : Nat) : Int) := by
  rw [Int.one_mul, Int.toNat_natCast]; norm_cast
section
variable {P : Program} {w : World} {K : PySem.W.Frag} {mg : Str → Option Value} {base : Heap}
abbrev NBits : List Str := ["_law_script", "_law_mask", "_law_step", "_law_bits_here", "_law_k"]
theorem scBits : FnScope NBits ["_law_script", "_law_mask"] (defScope sBits) := ⟨rfl, rfl, rfl, by decide +kernel, rfl, by decide +kernel, by decide +kernel⟩
theorem ok_bits {f fC : Addr} {fd fdC : FuncData} (F : Fun K "_law_bits" "_law_bits" sBits f fd) (T : Txt mg) (FC : Fun K "_law_cell" "_law_cell" sCell fC fdC) (bC : Binds K fdC ["_law_script", "_law_k"] []) (mC : mg "_law_cell" = some (.ref fC)) :
    FnOk P w K mg base CX0 2 f fd ["_law_script", "_law_mask"] (spBits K) := by
  have GC : FnOk P w K mg base CX0 1 fC fdC ["_law_script", "_law_k"] (spCell K) := ok_cell FC T
  refine F.ok scBits (fun vs H Q E h => ?_) (fun cdv A outer s H vs Q E hr h => ?_)
  · obtain ⟨a, mask, ns, rfl, _⟩ := h; rfl
  · obtain ⟨a, mask, ns, rfl, hS, hl, q⟩ := h
    have nd := scBits.nd
    have REST : ∃ t : TS, PSs (cxOf CX0 P w K mg base NBits "_law_bits" (defScope sBits) f cdv A outer s H E).nox ((defBody sBits).drop 2) t ∧
        ∀ st : Nat, 1 ≤ st → st ≤ 2600 → t { nx := fun _ H' => Q .non H', rt := Q } [some (.ref a), some (.int mask), some (.int (st : Int)), none, none] H := by
      refine ⟨_, (pss_cons (ps_set (i := 3) nd rfl (Or.inl rfl) pe_int)
        (pss_cons (ps_for PassesOwn.never rfl (pi_range1 rfl T.range (pa_cons pe_int pa_nil)) (pg_name (i := 4) nd rfl (Or.inl rfl))
        (pss_one (ps_if (pt_cmpR op_eq (pe_op op_mod (pe_op op_fdiv (pv 1) (pe_op op_shl pe_int (pv 4))) pe_int) pe_int (nomark _))
          (pss_one (ps_set (i := 3) nd rfl (Or.inl rfl) (pe_op op_add (pv 3) (pe_op op_shl pe_int (pe_op op_add (pe_op op_mul (pv 2) (pv 4)) (pe_op op_mod (pe_call GC hr (by rfl) mC FC.kp bC .nil pass0 (pa_cons (pv 0) (pa_cons (pe_op op_add pe_int (pv 4)) pa_nil))) (pv 2)))))))
          pss_nil)))
        (pss_one (ps_ret (pv 3))))), ?_⟩
      intro st st1 st2
      refine ⟨6, rfl, by decide, by decide, for_range (lo := 0) (n := 6) (fun i σ H' => (∃ (n : Nat) (ys : List Int) (v4 : Option V), σ = [some (.ref a), some (.int mask), some (.int (st : Int)), some (.int (n : Int)), v4] ∧ BitsOf n ys ∧ ys.length ≤ i ∧ ∀ y ∈ ys, y < ((st * i : Nat) : Int)) ∧ H' = H)
        ⟨⟨0, [], none, rfl, bits_nil, Nat.le_refl _, fun y h => nomatch h⟩, rfl⟩ ?_ ?_⟩
      · rintro i σ H' hi ⟨⟨n, ys, v4, rfl, hb, hyl, hyb⟩, rfl⟩
        rw [show (0 : Int) + (i : Int) = (i : Int) by omega]
        have emul : st * (i + 1) = st * i + st := Nat.mul_succ st i
        have hsi : st * i ≤ 2600 * 5 := Nat.mul_le_mul st2 (by omega)
        have p1 : (1 : Int) * 2 ^ ((i : Nat) : Int).toNat = ((2 ^ i : Nat) : Int) := shl_one i
        have p2 : 2 ^ i ≤ 2 ^ 5 := Nat.pow_le_pow_right (by decide) (by omega)
        have p3 := Nat.two_pow_pos i
        refine ⟨_, rfl, _, rfl, _, _, rfl, rfl, ⟨by omega, by omega, by decide⟩, _, _, rfl, rfl, ⟨by rw [p1]; omega, by rw [p1]; omega⟩, _, _, rfl, rfl, (by show (0 : Int) < _; decide), rfl, _, rfl, ite2 (fun _ => ?_) (fun _ => ?_)⟩
        · refine ⟨_, rfl, _, rfl, _, rfl, _, _, rfl, rfl, .inr ⟨by show -(2 ^ 64 : Int) < (i : Int); omega, by show (i : Int) < (2 ^ 64 : Int); omega⟩, _, rfl, _, rfl, _, _, rfl, rfl, a, _, ns, rfl, hS, by show (0 : Int) ≤ 1 + (i : Int); omega, by show 1 + (i : Int) ≤ (1000 : Int); omega, hl, fun z => ?_⟩
          have g0 := Int.emod_nonneg z (show (st : Int) ≠ 0 by omega)
          have g1 := Int.emod_lt_of_pos z (show (0 : Int) < (st : Int) by omega)
          have em : (st : Int) * (i : Int) = ((st * i : Nat) : Int) := by rw [Int.natCast_mul]
          have ek : (st : Int) * (i : Int) + z % (st : Int) = ((st * i + (z % (st : Int)).toNat : Nat) : Int) := by rw [em]; omega
          refine ⟨_, rfl, _, _, rfl, rfl, (by show (0 : Int) < (st : Int); omega), _, _, rfl, rfl, _, _, rfl, rfl, ⟨by show (0 : Int) ≤ (st : Int) * (i : Int) + z % (st : Int); rw [ek]; omega, by show (st : Int) * (i : Int) + z % (st : Int) ≤ (1000000 : Int); rw [ek]; omega, by decide⟩, _, _, rfl, rfl, ?_⟩
          refine ⟨⟨n + 2 ^ (st * i + (z % (st : Int)).toNat), ys ++ [((st * i + (z % (st : Int)).toNat : Nat) : Int)], some (.int (i : Int)), ?_, bits_more hb fun y hy => ?_, by rw [List.length_append, List.length_singleton]; omega, fun y hy => ?_⟩, rfl⟩
          · rw [Int.natCast_add, ← shl_one, ← ek]
            rfl
          · have := hyb y hy; omega
          · rcases List.mem_append.mp hy with h | h
            · have := hyb y h; omega
            · rw [List.mem_singleton.mp h]; omega
        · exact ⟨⟨n, ys, _, rfl, hb, by omega, fun y hy => by have := hyb y hy; omega⟩, rfl⟩
      · rintro σ H' ⟨⟨n, ys, v4, rfl, hb, hyl, hyb⟩, rfl⟩
        refine ⟨_, rfl, q n ys hb hyl fun y hy => ?_⟩
        have := hyb y hy
        omega
    obtain ⟨tR, hR, hrest⟩ := REST
    refine ⟨_, pss_cons (ps_set (i := 2) nd rfl (Or.inl rfl) pe_int)
      (pss_cons (ps_if (pt_cmpR op_eq (pe_op op_mod (pe_call GC hr (by rfl) mC FC.kp bC .nil pass0 (pa_cons (pv 0) (pa_cons pe_int pa_nil))) pe_int) pe_int (nomark _))
      (pss_one (ps_set (i := 2) nd rfl (Or.inl rfl) pe_int))
      pss_nil) hR), ?_⟩
    refine ⟨_, rfl, a, 0, ns, rfl, hS, by decide, by decide, hl, fun z => ⟨_, _, rfl, rfl, (by show (0 : Int) < _; decide), rfl, _, rfl, ite2 (fun _ => ?_) (fun _ => ?_)⟩⟩
    · exact hrest 2600 (by decide) (by decide)
    · exact hrest 47 (by decide) (by decide)
end
end K24

set_option Elab.async false
set_option linter.all false
set_option maxRecDepth 100000
set_option maxHeartbeats 4000000
/-! k24: what is due, and whether it is told. Own work. -/
namespace K24
open PySem L2 Builtin.Str CM
structure RA (H : Hp) (rows : Rw) (rv : List V) : Prop where
  len : rv.length = rows.length
  row : ∀ (k : Nat) (n : Str) (b : Nat), rows[k]? = some (n, b) → ∃ t a m, rv[k]? = some (.ref t) ∧ H t = some (.tup [.str n, a, .int b, m])
theorem RA.same {H H' : Hp} {rows : Rw} {rv : List V} (h : RA H rows rv) (s : Same H H') : RA H' rows rv :=
  ⟨h.len, fun k n b e => by obtain ⟨t, a, m, h1, h2⟩ := h.row k n b e; exact ⟨t, a, m, h1, s _ _ h2⟩⟩
theorem RA.at {H : Hp} {rows : Rw} {rv : List V} (h : RA H rows rv) {k : Nat} (hk : k < rows.length) : ∃ t n a m, atI rv (k : Int) = some (.ref t) ∧ H t = some (.tup [.str n, a, .int (bitsAt rows k : Int), m]) ∧ ∀ nm, nameIs rows nm k = decide (n = nm) := by
  obtain ⟨n, b, e, eb⟩ := row_at hk
  obtain ⟨t, a, m, h1, h2⟩ := h.row k n b e
  exact ⟨t, n, a, m, atI_nat h1, by rw [eb]; exact h2, fun nm => by unfold nameIs; rw [e]; rfl⟩
def spDue (K : PySem.W.Frag) : Sp := fun vs H Q _ => ∃ (a : Addr) (nm : Str) (b : Nat) (rows : Rw) (rv : List V), vs = [.ref a, .str nm, .int b] ∧ H a = some (.lst rv) ∧ RA H rows rv ∧ rows.length < 64 ∧
  ∀ (H' : Hp) (D : Addr), Same H H' → H D = none → H' D = some (.lst (nums (topsOf rows nm b))) → Q (.ref D) H'
def pre (rows : Rw) (nm : Str) (b : Nat) (k : Nat) : List Nat := (List.range k).filter fun k => nameIs rows nm k && decide (In (bitsAt rows k) b)
theorem pre_succ (rows : Rw) (nm : Str) (b k : Nat) : pre rows nm b (k + 1) = pre rows nm b k ++ (if (nameIs rows nm k && decide (In (bitsAt rows k) b)) = true then [k] else []) := by
  unfold pre
  rw [List.range_succ, List.filter_append, List.filter_cons, List.filter_nil]
theorem pre_le (rows : Rw) (nm : Str) (b k : Nat) : (pre rows nm b k).length ≤ k := by
  have := List.length_filter_le (fun k => nameIs rows nm k && decide (In (bitsAt rows k) b)) (List.range k)
  rwa [List.length_range] at this
theorem dec_S {x y : Str} : decide (V.str x = V.str y) = decide (x = y) := by
  rw [decide_eq_decide]; exact ⟨fun e => by injection e, fun e => by rw [e]⟩
theorem dec_in {x y : Nat} : decide (V.int (Builtin.bitAnd (x : Int) (y : Int)) = V.int (x : Int)) = decide (In x y) := by
  rw [dec_V, and_nn, decide_eq_decide]
  unfold CM.In
  omega
theorem dec_in' {x y : Nat} : decide (V.int (Builtin.bitAnd (x : Int) (y : Int)) = V.int (y : Int)) = decide (In y x) := by
  rw [dec_V, and_nn, decide_eq_decide]
  unfold CM.In
  rw [Nat.and_comm]
  omega
section
variable {P : Program} {w : World} {K : PySem.W.Frag} {mg : Str → Option Value} {base : Heap}
abbrev ND : List Str := ["_law_rows", "_law_name", "_law_bits_here", "_law_some", "_law_tops", "_law_k", "_law_mine"]
theorem scDue : FnScope ND ["_law_rows", "_law_name", "_law_bits_here"] (defScope sDue) := ⟨rfl, rfl, rfl, by decide +kernel, rfl, by decide +kernel, by decide +kernel⟩
theorem lcDue1 : LcS (defScope sDue).names [(".0", .local), ("_law_k", .local), ("_law_bits_here", .free), ("_law_name", .free), ("_law_rows", .free)] ND [true, true, true, false, false, false, false] := ⟨by decide +kernel, by decide +kernel, by decide +kernel, by decide +kernel, by decide +kernel, rfl⟩
theorem lcDue2 : LcS (defScope sDue).names [(".0", .local), ("_law_j", .local), ("_law_mine", .free), ("_law_rows", .free)] ND [true, false, false, false, false, false, true] := ⟨by decide +kernel, by decide +kernel, by decide +kernel, by decide +kernel, by decide +kernel, rfl⟩
theorem ndDue1 : ND.Nodup := by decide +kernel
theorem ndDue2 : (["_law_rows", "_law_name", "_law_bits_here", "_law_some", "_law_tops", "_law_k", "_law_mine", "_law_j"] : List Str).Nodup := by decide +kernel
theorem ok_due {f : Addr} {fd : FuncData} (F : Fun K "_law_due" "_law_due" sDue f fd) (T : Txt mg) : FnOk P w K mg base CX0 1 f fd ["_law_rows", "_law_name", "_law_bits_here"] (spDue K) := by
  refine F.ok scDue (fun vs H Q E h => ?_) (fun cdv A outer s H vs Q E hr h => ?_)
  · obtain ⟨a, nm, b, rows, rv, rfl, _⟩ := h; rfl
  · obtain ⟨a, nm, b, rows, rv, rfl, hA, hR, hlen, q⟩ := h
    have nd := scDue.nd
    refine ⟨_, pss_cons (ps_lc (i := 3) (ext := []) nd rfl rfl lcDue1 rfl (pi_range1 rfl T.range (pa_cons (pe_callB call_len_seq (by rfl) T.len bt_len (pa_cons (pv 0) pa_nil)) pa_nil))
          ⟨fun _ _ _ _ _ => (pg_name (i := 5) ndDue1 rfl (Or.inl rfl) (.inr rfl)), fun _ _ _ _ _ => (pts_one (PW.pt (pw_and (pt_cmpR op_eq (pe_ix (ix_tup : IxR _ (rIxT K)) (pe_ix (ix_list : IxR _ (rIxL K)) (pv 0) (pv 5) (fun _ _ => rfl)) pe_int (fun _ _ => rfl)) (pv 1) (nomark _)) (pw_and1 (pt_cmpR op_eq (pe_op op_and (pe_ix (ix_tup : IxR _ (rIxT K)) (pe_ix (ix_list : IxR _ (rIxL K)) (pv 0) (pv 5) (fun _ _ => rfl)) pe_int (fun _ _ => rfl)) (pv 2)) (pe_ix (ix_tup : IxR _ (rIxT K)) (pe_ix (ix_list : IxR _ (rIxL K)) (pv 0) (pv 5) (fun _ _ => rfl)) pe_int (fun _ _ => rfl)) (nomark _)))))), fun _ _ _ _ _ => (pv 5)⟩)
      (pss_cons (ps_set (i := 4) nd rfl (Or.inl rfl) (pe_lst pa_nil))
      (pss_cons (ps_for PassesOwn.never rfl (pi_list (pv 3)) (pg_name (i := 5) nd rfl (Or.inl rfl))
      (pss_cons (ps_set (i := 6) nd rfl (Or.inr rfl) (pe_ix ix_tup (pe_ix ix_list (pv 0) (pv 5) (fun _ _ => rfl)) pe_int (fun _ _ => rfl)))
        (pss_one (ps_if (pt_not (pt_val (pe_callB (call_anyB rfl) (by rfl) T.any bt_any' (pa_cons (pe_lc (ext := ["_law_j"]) lcDue2 rfl (pi_list (pv 3))
          ⟨fun _ _ _ _ _ => (pg_name (i := 7) ndDue2 rfl (Or.inl rfl) (.inr rfl)), fun _ _ _ _ _ => pts_nil, fun _ _ _ _ _ => (pe_and (pe_cmpR op_ne (pe_ix (ix_tup : IxR _ (rIxT K)) (pe_ix (ix_list : IxR _ (rIxL K)) (pv 0) (pv 7) (fun _ _ => rfl)) pe_int (fun _ _ => rfl)) (pv 6) (nomark _)) (pe_one (pe_cmpR op_eq (pe_op op_and (pe_ix (ix_tup : IxR _ (rIxT K)) (pe_ix (ix_list : IxR _ (rIxL K)) (pv 0) (pv 7) (fun _ _ => rfl)) pe_int (fun _ _ => rfl)) (pv 6)) (pv 6) (nomark _))))⟩) pa_nil))))
        (pss_one (ps_expr (pe_bm PySem.F.plainAttrs_list PySem.F.slot_list_append PySem.F.type_list_append mt_append (pv 4) (pa_cons (pv 5) pa_nil)))) pss_nil))))
      (pss_one (ps_ret (pv 4))))), ?_⟩
    refine ⟨_, rfl, a, _, rfl, .inl (SqL.of hA), _, rfl, by omega, by rw [hR.len]; omega, fun S hS => ?_⟩
    rw [hR.len]
    refine lc_rng (lo := 0) (n := rows.length) (fun k ys σ' H' => (∃ v, σ' = [some (.ref a), some (.str nm), some (.int (b : Int)), none, none, v, none]) ∧ H' = upd H S (.lst ys) ∧ ys = nums (pre rows nm b k))
      ⟨⟨_, rfl⟩, rfl, rfl⟩ ?_ ?_
    · rintro k ys σ' H' hk ⟨⟨v, rfl⟩, rfl, hys⟩
      unfold gName
      have sS := same_upd (o := .lst ys) hS
      have hA' := sS _ _ hA
      obtain ⟨t, n, at_, m, e1, e2, e3⟩ := (hR.same sS).at hk
      rw [show (0 : Int) + (k : Int) = (k : Int) by omega]
      have hple := pre_le rows nm b k
      have fin : ∀ (c : Bool), c = (nameIs rows nm k && decide (In (bitsAt rows k) b)) → c = false → Beh rows.length k (fun k ys σ' H' => (∃ v, σ' = [some (.ref a), some (.str nm), some (.int (b : Int)), none, none, v, none]) ∧ H' = upd H S (.lst ys) ∧ ys = nums (pre rows nm b k)) ys [some (.ref a), some (.str nm), some (.int (b : Int)), none, none, some (.int (k : Int)), none] (upd H S (.lst ys)) := fun c hc hf =>
        Beh.of hk ⟨⟨_, rfl⟩, rfl, by rw [hys, pre_succ, ← hc, hf]; show _ = nums (_ ++ []); rw [List.append_nil]⟩
      refine ⟨_, rfl, _, rfl, a, _, _, _, rfl, rfl, SqL.of hA', e1, t, _, _, _, rfl, rfl, SqT.of e2, rfl, _, rfl, rfl, decide (n = nm), by rw [dec_S], ?_⟩
      cases hn : decide (n = nm) with
      | false => exact iteF (iteF (fin _ rfl (by rw [e3 nm, hn]; rfl)))
      | true =>
        refine iteT ⟨_, rfl, _, rfl, a, _, _, _, rfl, rfl, SqL.of hA', e1, t, _, _, _, rfl, rfl, SqT.of e2, rfl, _, rfl, _, _, rfl, rfl, _, rfl, _, rfl, a, _, _, _, rfl, rfl, SqL.of hA', e1, t, _, _, _, rfl, rfl, SqT.of e2, rfl, rfl, decide (In (bitsAt rows k) b), by rw [dec_in], ?_⟩
        cases hi : decide (In (bitsAt rows k) b) with
        | false => exact iteF (fin _ rfl (by rw [hi, Bool.and_false]))
        | true =>
          refine iteT ⟨_, rfl, upd_same, by rw [hys, nums_len, sizeLine_eq]; omega, Beh.of hk ⟨⟨_, rfl⟩, by rw [upd_upd], ?_⟩⟩
          rw [pre_succ, e3 nm, hn, hi, if_pos (by rfl), ← nums_snoc, hys]
    · rintro ys σ' H1 ⟨_, rfl, rfl⟩
      have sS := same_upd (o := .lst (nums (pre rows nm b rows.length))) hS
      have hS1 : upd H S (.lst (nums (pre rows nm b rows.length))) S = some (.lst (nums (opens rows nm b))) := upd_same
      generalize upd H S (.lst (nums (pre rows nm b rows.length))) = H1 at sS hS1 ⊢
      refine ⟨Nat.zero_le _, fun N hN => ?_⟩
      have hNn : H N = none := by
        cases e : H N with
        | none => rfl
        | some o => rw [sS _ _ e] at hN; cases hN
      have sN := sS.trans (same_upd (o := .lst []) hN)
      have hS2 := same_upd (o := .lst []) hN _ _ hS1
      have hSN : S ≠ N := fun e => by rw [← e, hS1] at hN; cases hN
      have hlt : ∀ k ∈ opens rows nm b, k < rows.length := fun k hk => (mem_opens.mp hk).1
      have hol : (opens rows nm b).length ≤ rows.length := pre_le rows nm b rows.length
      refine ⟨_, rfl, S, rfl, ⟨_, SqL.of hS2⟩, for_list (xs := nums (opens rows nm b)) (fun i σ H' => ∃ (v5 v6 : Option V), σ = [some (.ref a), some (.str nm), some (.int (b : Int)), some (.ref S), some (.ref N), v5, v6] ∧ Same H H' ∧ H' S = some (.lst (nums (opens rows nm b))) ∧ H' N = some (.lst (nums (((opens rows nm b).take i).filter fun k => !below (bitsAt rows) (opens rows nm b) k))))
        ⟨none, none, rfl, sN, hS2, upd_same⟩ (fun i σ H' _ ⟨_, _, _, _, e, _⟩ => SqL.of e) ?_ ?_⟩
      · rintro i v σ H' hi ⟨v5, v6, rfl, s1, hS3, hN3⟩
        obtain ⟨k, ek, rfl⟩ := nums_mem hi
        have hk := hlt k (List.mem_of_getElem? ek)
        have hA' := s1 _ _ hA
        obtain ⟨t, n, at_, m, e1, e2, e3⟩ := (hR.same s1).at hk
        refine ⟨_, rfl, _, rfl, a, _, _, _, rfl, rfl, SqL.of hA', e1, t, _, _, _, rfl, rfl, SqT.of e2, rfl, ?_⟩
        refine ⟨_, rfl, S, rfl, ⟨_, SqL.of hS3⟩, fun D hD => ?_⟩
        have sD : ∀ ys', Same H' (upd H' D (.lst ys')) := fun ys' => same_upd hD
        refine lc_list (K := K) (a := S) (i := 7) (xs := nums (opens rows nm b)) (fun _ => true) (fun v => match v with | .int j => .bl (decide (bitsAt rows j.toNat ≠ bitsAt rows k) && decide (In (bitsAt rows k) (bitsAt rows j.toNat))) | _ => .non) (fun ys' => SqL.of (sD ys' _ _ hS3)) (by rw [nums_len, sizeLine_eq]; omega) (fun k' x v ys' R hk' hR' => hR' _ rfl) ?_ ?_
        · intro k' x v ys' R hk' _ hR'
          obtain ⟨j, ej, rfl⟩ := nums_mem hk'
          have hA4 := sD ys' _ _ hA'
          obtain ⟨t', n', at', m', f1, f2, f3⟩ := (hR.same (s1.trans (sD ys'))).at (hlt j (List.mem_of_getElem? ej))
          have hR2 := hR' _ rfl
          have ejt : bitsAt rows ((j : Nat) : Int).toNat = bitsAt rows j := by rw [Int.toNat_natCast]
          dsimp only at hR2
          rw [ejt] at hR2
          refine ⟨_, rfl, _, rfl, a, _, _, _, rfl, rfl, SqL.of hA4, f1, t', _, _, _, rfl, rfl, SqT.of f2, rfl, _, rfl, rfl, decide (bitsAt rows j ≠ bitsAt rows k), ?_, ?_⟩
          · rw [decide_not, dec_nat]
          cases hne : decide (bitsAt rows j ≠ bitsAt rows k) with
          | false => rw [hne, Bool.false_and] at hR2; exact iteF hR2
          | true =>
            rw [hne, Bool.true_and] at hR2
            refine iteT ⟨_, rfl, _, rfl, a, _, _, _, rfl, rfl, SqL.of hA4, f1, t', _, _, _, rfl, rfl, SqT.of f2, rfl, _, rfl, _, _, rfl, rfl, _, rfl, rfl, ?_⟩
            rw [dec_in']
            exact hR2
        · intro H5 e5
          have ebs : ((nums (opens rows nm b)).filter (fun _ => true)).map (fun v => match v with | .int j => V.bl (decide (bitsAt rows j.toNat ≠ bitsAt rows k) && decide (In (bitsAt rows k) (bitsAt rows j.toNat))) | _ => .non) = ((opens rows nm b).map fun j => decide (bitsAt rows j ≠ bitsAt rows k) && decide (In (bitsAt rows k) (bitsAt rows j))).map V.bl := by
            unfold nums
            rw [List.filter_eq_self.mpr (fun _ _ => rfl), List.map_map, List.map_map]
            rfl
          rw [ebs] at e5
          subst e5
          refine ⟨D, _, rfl, SqL.of upd_same, ?_⟩
          have eany : ((opens rows nm b).map fun j => decide (bitsAt rows j ≠ bitsAt rows k) && decide (In (bitsAt rows k) (bitsAt rows j))).any id = below (bitsAt rows) (opens rows nm b) k := by
            rw [List.any_map]; rfl
          rw [eany]
          refine ⟨_, rfl, ?_⟩
          have s5 := s1.trans (same_upd (o := .lst (((opens rows nm b).map fun j => decide (bitsAt rows j ≠ bitsAt rows k) && decide (In (bitsAt rows k) (bitsAt rows j))).map V.bl)) hD)
          have hS5 := same_upd (o := .lst (((opens rows nm b).map fun j => decide (bitsAt rows j ≠ bitsAt rows k) && decide (In (bitsAt rows k) (bitsAt rows j))).map V.bl)) hD _ _ hS3
          have hN5 := same_upd (o := .lst (((opens rows nm b).map fun j => decide (bitsAt rows j ≠ bitsAt rows k) && decide (In (bitsAt rows k) (bitsAt rows j))).map V.bl)) hD _ _ hN3
          generalize upd H' D (.lst (((opens rows nm b).map fun j => decide (bitsAt rows j ≠ bitsAt rows k) && decide (In (bitsAt rows k) (bitsAt rows j))).map V.bl)) = H5 at s5 hS5 hN5 ⊢
          have etk : (opens rows nm b).take (i + 1) = (opens rows nm b).take i ++ [k] := by rw [List.take_succ, ek]; rfl
          have hfl := List.length_filter_le (fun k => !below (bitsAt rows) (opens rows nm b) k) ((opens rows nm b).take i)
          have htl : ((opens rows nm b).take i).length ≤ (opens rows nm b).length := by rw [List.length_take]; omega
          cases hbl : below (bitsAt rows) (opens rows nm b) k with
          | true =>
            refine iteF ⟨_, _, rfl, s5, hS5, ?_⟩
            rw [etk, List.filter_append, List.filter_cons, hbl]
            show H5 N = some (.lst (nums (_ ++ [])))
            rw [List.append_nil]; exact hN5
          | false =>
            refine iteT ⟨_, rfl, .inl ⟨rfl, _, SqL.of hN5⟩, _, rfl, N, _, _, rfl, rfl, hN5, by rw [nums_len, sizeLine_eq]; omega, _, _, rfl, fun e o he => ?_, ?_, ?_⟩
            · rw [upd_ne (ne_of_none he hNn)]; exact s5 _ _ he
            · rw [upd_ne hSN]; exact hS5
            · rw [upd_same, etk, List.filter_append, List.filter_cons, hbl]
              show some (HO.lst (nums _ ++ [V.int (k : Int)])) = some (HO.lst (nums (_ ++ [k])))
              rw [nums_snoc]
      · rintro σ H' ⟨v5, v6, rfl, s1, hS3, hN3⟩
        rw [nums_len, List.take_length] at hN3
        exact ⟨_, rfl, q H' N s1 hNn hN3⟩
end
end K24

set_option Elab.async false
set_option linter.all false
set_option maxRecDepth 100000
set_option maxHeartbeats 4000000
/-! k24: what is told, by an answer or by an exception. Own work. -/
namespace K24
open PySem L2 Builtin.Str CM XC
structure R9 where
  h : Addr
  bf : Addr
  br : Addr
  go : Addr
  na : Addr
  nf : Addr
  nn : Addr
  nr : Addr
  nt : Addr
  tc : Addr
structure Rcs (K : PySem.W.Frag) (mg : Str → Option Value) (r : R9) (fH : Addr) : Prop where
  mh : mg "HouseError" = some (.ref r.h)
  mbf : mg "BadForm" = some (.ref r.bf)
  mbr : mg "BadRule" = some (.ref r.br)
  mgo : mg "GoesOn" = some (.ref r.go)
  mna : mg "NoAhead" = some (.ref r.na)
  mnf : mg "NoFill" = some (.ref r.nf)
  mnn : mg "NoName" = some (.ref r.nn)
  mnr : mg "NoRule" = some (.ref r.nr)
  mnt : mg "NoText" = some (.ref r.nt)
  mtc : mg "TwoClaims" = some (.ref r.tc)
  Mh : MkE K r.h fH
  Mt : MkE K r.tc fH
  ec : EC K r.tc
  ei : EIs K r.tc
  subH : PySem.W.mroIn K r.tc (.ref r.h) = some true
  subT : PySem.W.mroIn K r.tc (.ref r.tc) = some true
  fA : PySem.W.findIn K (.ref r.tc) "at" = some none
  fO : PySem.W.findIn K (.ref r.tc) "other" = some none
  kv : PySem.W.kitOne K (.ref r.tc) (.type "ValueError") = some true
  kt : PySem.W.kitOne K (.ref r.tc) (.ref r.tc) = some true
  k1 : PySem.W.kitAny K (.ref r.tc) [.ref r.bf, .ref r.br, .ref r.go, .ref r.na] = some false
  k2 : PySem.W.kitAny K (.ref r.tc) [.ref r.nf, .ref r.nn, .ref r.nr, .ref r.nt] = some false
/-- what is asked of whoever asks -/
structure AskP (C : Addr) (H : Hp) (x : Addr) (nm : Str) (b : Nat) (rows : Rw) (rv : List V) (az : Nat → Int) : Prop where
  cl : ∃ r : CR, CL C r H x rows rv
  len : rows.length < 64
  bits : ∃ ys : List Int, BitsOf b ys ∧ ys.length ≤ 1000
  nm : NmOk nm
  at_ : ∀ k, k < rows.length → AtR H rv k (.int (az k))
theorem opens_le (rows : Rw) (nm : Str) (b : Nat) : (opens rows nm b).length ≤ rows.length := by
  have := List.length_filter_le (fun k => nameIs rows nm k && decide (In (bitsAt rows k) b)) (List.range rows.length)
  rw [List.length_range] at this
  exact this
theorem AskP.same {C : Addr} {H H' : Hp} {x : Addr} {nm : Str} {b : Nat} {rows : Rw} {rv : List V} {az : Nat → Int} (h : AskP C H x nm b rows rv az) (s : Same H H') : AskP C H' x nm b rows rv az :=
  ⟨by obtain ⟨r, q⟩ := h.cl; exact ⟨r, q.same s⟩, h.len, h.bits, h.nm, fun k hk => (h.at_ k hk).same s⟩
def ans (az : Nat → Int) : List Nat → List V
  | [] => [.str "one", .non]
  | [k] => [.str "one", .int (k : Int)]
  | k0 :: k1 :: _ => [.str "two", .int (az k0), .int (az k1)]
def spOnly (r : R9) : Sp := fun vs H Q _ => ∃ (e : Addr) (fs : List (Str × V)), vs = [.ref e] ∧ ExAt H e r.tc fs ∧ ∀ H', Same H H' → Q (.bl true) H'
def spAsked (C : Addr) : Sp := fun vs H Q _ => ∃ (x : Addr) (nm : Str) (b : Nat) (rows : Rw) (rv : List V) (az : Nat → Int), vs = [.ref x, .str nm, .int b] ∧ AskP C H x nm b rows rv az ∧ ∀ (H' : Hp) (D : Addr), Same H H' → H' D = some (.tup (ans az (topsOf rows nm b))) → Q (.ref D) H'
def spByAny (C : Addr) : Sp := fun vs H Q _ => ∃ (x : Addr) (nm : Str) (b : Nat) (rows : Rw) (rv : List V) (az : Nat → Int) (k0 k1 : Nat) (ks : List Nat), vs = [.ref x, .str nm, .int b] ∧ AskP C H x nm b rows rv az ∧ topsOf rows nm b = k0 :: k1 :: ks ∧ ∀ (H' : Hp), Same H H' → Q (.bl true) H'
def spRight (C : Addr) : Sp := fun vs H Q _ => ∃ (x a : Addr) (nm : Str) (b : Nat) (rows : Rw) (rv rvL : List V) (az : Nat → Int), vs = [.ref x, .ref a, .str nm, .int b] ∧ AskP C H x nm b rows rv az ∧ H a = some (.lst rvL) ∧ RA H rows rvL ∧ (∀ k, k < rows.length → AtR H rvL k (.int (az k))) ∧ ∀ (H' : Hp), Same H H' → Q (.bl true) H'
section
variable {P : Program} {w : World} {K : PySem.W.Frag} {mg : Str → Option Value} {base : Heap} {C : Addr} {r : R9} {fH : Addr}
theorem scOnly : FnScope ["_law_e"] ["_law_e"] (defScope sOnly) := ⟨rfl, rfl, rfl, by decide +kernel, rfl, by decide +kernel, by decide +kernel⟩
theorem ok_only {f : Addr} {fd : FuncData} (F : Fun K "_law_only" "_law_only" sOnly f fd) (T : Txt mg) (TX : Txn mg) (R : Rcs K mg r fH) : FnOk P w K mg base CX0 1 f fd ["_law_e"] (spOnly r) := by
  refine F.ok scOnly (fun vs H Q E h => ?_) (fun cdv A outer s H vs Q E hr h => ?_)
  · obtain ⟨e, fs, rfl, _⟩ := h; rfl
  · obtain ⟨e, fs, rfl, ex, q⟩ := h
    have nd := scOnly.nd
    refine ⟨_, pss_cons (ps_if (pt_val (pe_callB call_isXT (by rfl) T.isi bt_isinstance (pa_cons (pv 0) (pa_cons (pe_tup (pa_cons (pe_glob (v := .ref r.bf) (by rfl) R.mbf rfl) (pa_cons (pe_glob (v := .ref r.br) (by rfl) R.mbr rfl) (pa_cons (pe_glob (v := .ref r.go) (by rfl) R.mgo rfl) (pa_cons (pe_glob (v := .ref r.na) (by rfl) R.mna rfl) pa_nil))))) pa_nil))))
      (pss_one (ps_ret pe_bl))
      pss_nil)
      (pss_one (ps_ret (pe_and (pe_not (pe_callB call_isXT (by rfl) T.isi bt_isinstance (pa_cons (pv 0) (pa_cons (pe_tup (pa_cons (pe_glob (v := .ref r.nf) (by rfl) R.mnf rfl) (pa_cons (pe_glob (v := .ref r.nn) (by rfl) R.mnn rfl) (pa_cons (pe_glob (v := .ref r.nr) (by rfl) R.mnr rfl) (pa_cons (pe_glob (v := .ref r.nt) (by rfl) R.mnt rfl) pa_nil))))) pa_nil)))) (pe_one (pe_callB call_isX (by rfl) T.isi bt_isinstance (pa_cons (pv 0) (pa_cons (pe_bltn (v := .ty "ValueError") (by rfl) TX.ve bt_ValueError rfl) pa_nil))))))), ?_⟩
    refine ⟨_, rfl, by show 4 ≤ sizeLine; rw [sizeLine_eq]; decide, fun t1 ht1 => ?_⟩
    have s1 := same_upd (o := .tup [.ref r.bf, .ref r.br, .ref r.go, .ref r.na]) ht1
    refine ⟨e, r.tc, t1, [r.bf, r.br, r.go, r.na], false, fs, rfl, upd_same, ex.same s1, R.ei, R.k1, _, rfl, iteF ?_⟩
    refine ⟨_, rfl, by show 4 ≤ sizeLine; rw [sizeLine_eq]; decide, fun t2 ht2 => ?_⟩
    have s2 := same_upd (o := .tup [.ref r.nf, .ref r.nn, .ref r.nr, .ref r.nt]) ht2
    refine ⟨e, r.tc, t2, [r.nf, r.nn, r.nr, r.nt], false, fs, rfl, upd_same, (ex.same s1).same s2, R.ei, R.k2, false, rfl, ⟨_, rfl, iteT ?_⟩⟩
    exact ⟨_, rfl, e, r.tc, .ty "ValueError", _, true, fs, rfl, rfl, (ex.same s1).same s2, R.ei, R.kv, q _ (s1.trans s2)⟩
abbrev NAsk : List Str := ["_law_claims", "_law_name", "_law_bits_here", "_law_found", "_law_kept", "_law_e"]
theorem scAsked : FnScope NAsk ["_law_claims", "_law_name", "_law_bits_here"] (defScope sAsked) := ⟨rfl, rfl, rfl, by decide +kernel, rfl, by decide +kernel, by decide +kernel⟩
theorem ok_asked {f fF fY fW : Addr} {fd fdF fdY fdW : FuncData} (F : Fun K "_law_asked" "_law_asked" sAsked f fd) (T : Txt mg) (TX : Txn mg) (TC : ClT K mg C) (R : Rcs K mg r fH)
    (bF : Binds K fdF ["self", "name", "bits"] []) (mF : Meth K C "claim_of" fF) (GF : FnOk P w K mg base (CXE P w) 4 fF fdF ["self", "name", "bits"] (spOfX C r.tc))
    (FY : Fun K "_law_only" "_law_only" sOnly fY fdY) (bY : Binds K fdY ["_law_e"] []) (mY : mg "_law_only" = some (.ref fY))
    (FW : Fun K "_law_whole" "_law_whole" sWhole fW fdW) (bW : Binds K fdW ["_law_found"] []) (mW : mg "_law_whole" = some (.ref fW)) :
    FnOk P w K mg base CX0 5 f fd ["_law_claims", "_law_name", "_law_bits_here"] (spAsked C) := by
  have GY : FnOk P w K mg base CX0 4 fY fdY ["_law_e"] (spOnly r) := (ok_only FY T TX R).mono (by decide)
  have GW : FnOk P w K mg base CX0 4 fW fdW ["_law_found"] spWhole := (ok_whole FW T).mono (by decide)
  refine F.ok scAsked (fun vs H Q E h => ?_) (fun cdv A outer s H vs Q E hr h => ?_)
  · obtain ⟨x, nm, b, rows, rv, az, rfl, _⟩ := h; rfl
  · obtain ⟨x, nm, b, rows, rv, az, rfl, ha, q⟩ := h
    have nd := scAsked.nd
    refine ⟨_, pss_cons (ps_set (i := 3) nd rfl (Or.inl rfl) pe_non)
      (pss_cons (ps_set (i := 4) nd rfl (Or.inl rfl) pe_non)
      (pss_cons (ps_tryA (i := 5) (j := 3) (L := s.heap.objs.size) (outer := outer) rfl (Or.inl rfl) (px_meth (pv 0) TC.cl mF GF hr bF .nil (pa_cons (pv 1) (pa_cons (pv 2) pa_nil))) rfl rfl (by rfl) R.mtc R.Mt nd rfl rfl (Or.inl rfl) (fun x => pss_one (ps_set (i := 4) nd rfl (Or.inl rfl) (pv 5))))
      (pss_cons (ps_if (pt_cmpR op_isN (pv 4) pe_non (nomark _))
      (pss_one (ps_ret (pe_tup (pa_cons pe_str (pa_cons (pv 3) pa_nil)))))
      pss_nil)
      (pss_cons (ps_if (PW.pt (pw_and (pt_val (pe_call GY hr (by rfl) mY FY.kp bY .nil pass0 (pa_cons (pv 4) pa_nil))) (pw_and (pt_val (pe_call GW hr (by rfl) mW FW.kp bW .nil pass0 (pa_cons (pe_fldX (pv 4) rfl : PE _ _ (tFldX K (tVar 4) ("at" : Str))) pa_nil))) (pw_and1 (pt_val (pe_call GW hr (by rfl) mW FW.kp bW .nil pass0 (pa_cons (pe_fldX (pv 4) rfl : PE _ _ (tFldX K (tVar 4) ("other" : Str))) pa_nil)))))))
      (pss_one (ps_ret (pe_tup (pa_cons pe_str (pa_cons (pe_fldX (pv 4) rfl : PE _ _ (tFldX K (tVar 4) ("at" : Str))) (pa_cons (pe_fldX (pv 4) rfl : PE _ _ (tFldX K (tVar 4) ("other" : Str))) pa_nil))))))
      pss_nil)
      (pss_one (ps_ret (pe_tup (pa_cons pe_str pa_nil)))))))), ?_⟩
    obtain ⟨cr, hC⟩ := ha.cl
    obtain ⟨ys, hb, hy⟩ := ha.bits
    have hop : (opens rows nm b).length < 64 := Nat.lt_of_le_of_lt (opens_le rows nm b) ha.len
    refine ⟨_, rfl, x, cr.dx, _, rfl, hC.ins, rfl, _, rfl, _, rfl, x, nm, b, ys, cr, rows, rv, fun k => .int (az k), rfl, hC, by have := ha.len; omega, hop, hb, hy, ha.nm, ha.at_, fun ht H1 s1 => ?_, fun k0 k1 ks ht e H1 s1 he ex => ?_⟩
    · refine ⟨_, rfl, rfl, true, rfl, iteT ?_⟩
      refine ⟨_, rfl, by show 2 ≤ sizeLine; rw [sizeLine_eq]; decide, fun D hD => q _ D (s1.trans (same_upd hD)) ?_⟩
      rw [upd_same]
      cases e : topsOf rows nm b with
      | nil => rfl
      | cons k0 r1 =>
        cases r1 with
        | nil => rfl
        | cons k1 ks => rw [e] at ht; simp at ht
    · refine ⟨r.tc, e, fH, rfl, rfl, R.Mt, R.subT, _, rfl, ?_⟩
      refine ⟨_, rfl, rfl, false, rfl, iteF ?_⟩
      refine ⟨_, rfl, e, _, rfl, ex, fun H2 s2 => ⟨_, rfl, iteT ?_⟩⟩
      have ex2 := ex.same s2
      refine ⟨_, rfl, e, r.tc, _, _, rfl, ex2, R.ec.c, R.fA, rfl, _, rfl, ⟨_, rfl, iteT ?_⟩⟩
      refine ⟨_, rfl, e, r.tc, _, _, rfl, ex2, R.ec.c, R.fO, rfl, _, rfl, ⟨_, rfl, iteT ?_⟩⟩
      refine ⟨_, rfl, e, r.tc, _, _, rfl, ex2, R.ec.c, R.fA, rfl, _, rfl, e, r.tc, _, _, rfl, ex2, R.ec.c, R.fO, rfl, by show 3 ≤ sizeLine; rw [sizeLine_eq]; decide, fun D hD => q _ D ((s1.trans s2).trans (same_upd hD)) ?_⟩
      rw [upd_same, ht]
      rfl
abbrev NBy : List Str := ["_law_claims", "_law_name", "_law_bits_here", "_law_kept", "_law_e"]
theorem scByAny : FnScope NBy ["_law_claims", "_law_name", "_law_bits_here"] (defScope sByAny) := ⟨rfl, rfl, rfl, by decide +kernel, rfl, by decide +kernel, by decide +kernel⟩
theorem ok_byany {f fF : Addr} {fd fdF : FuncData} (F : Fun K "_law_by_any" "_law_by_any" sByAny f fd) (T : Txt mg) (TC : ClT K mg C) (R : Rcs K mg r fH)
    (bF : Binds K fdF ["self", "name", "bits"] []) (mF : Meth K C "claim_of" fF) (GF : FnOk P w K mg base (CXE P w) 4 fF fdF ["self", "name", "bits"] (spOfX C r.tc)) :
    FnOk P w K mg base CX0 5 f fd ["_law_claims", "_law_name", "_law_bits_here"] (spByAny C) := by
  refine F.ok scByAny (fun vs H Q E h => ?_) (fun cdv A outer s H vs Q E hr h => ?_)
  · obtain ⟨x, nm, b, rows, rv, az, k0, k1, ks, rfl, _⟩ := h; rfl
  · obtain ⟨x, nm, b, rows, rv, az, k0, k1, ks, rfl, ha, ht, q⟩ := h
    have nd := scByAny.nd
    refine ⟨_, pss_cons (ps_set (i := 3) nd rfl (Or.inl rfl) pe_non)
      (pss_cons (ps_try (i := 4) (L := s.heap.objs.size) (outer := outer) (px_meth (pv 0) TC.cl mF GF hr bF .nil (pa_cons (pv 1) (pa_cons (pv 2) pa_nil))) rfl rfl (by rfl) R.mh R.Mh nd rfl rfl (Or.inl rfl) (fun x => pss_one (ps_set (i := 3) nd rfl (Or.inl rfl) (pv 4))))
      (pss_one (ps_ret (pe_callB call_isX (by rfl) T.isi bt_isinstance (pa_cons (pv 3) (pa_cons (pe_glob (v := .ref r.tc) (by rfl) R.mtc rfl) pa_nil)))))), ?_⟩
    obtain ⟨cr, hC⟩ := ha.cl
    obtain ⟨ys, hb, hy⟩ := ha.bits
    have hop : (opens rows nm b).length < 64 := Nat.lt_of_le_of_lt (opens_le rows nm b) ha.len
    refine ⟨_, rfl, x, cr.dx, _, rfl, hC.ins, rfl, _, rfl, _, rfl, x, nm, b, ys, cr, rows, rv, fun k => .int (az k), rfl, hC, by have := ha.len; omega, hop, hb, hy, ha.nm, ha.at_, fun h1 H1 s1 => ?_, fun k0 k1 ks ht e H1 s1 he ex => ?_⟩
    · rw [ht] at h1; simp at h1
    · refine ⟨r.tc, e, fH, rfl, rfl, R.Mt, R.subH, _, rfl, ?_⟩
      exact ⟨_, rfl, e, r.tc, .ref r.tc, _, true, _, rfl, rfl, ex, R.ei, R.kt, q _ s1⟩
end
end K24

set_option Elab.async false
set_option linter.all false
set_option maxRecDepth 100000
set_option maxHeartbeats 4000000
/-! k24: whether what is due is told. Own work. -/
namespace K24
open PySem L2 Builtin.Str CM XC
section
variable {P : Program} {w : World} {K : PySem.W.Frag} {mg : Str → Option Value} {base : Heap} {C : Addr} {r : R9} {fH : Addr}
theorem hud_of {A : Around} {k d : Nat} (hr : Room k A) (h : d ≤ 60) : A.units + 1 + d < cLine := by have := hr.un; omega
theorem scRight : FnScope ["_law_claims", "_law_rows", "_law_name", "_law_bits_here", "_law_due_here", "_law_found"] ["_law_claims", "_law_rows", "_law_name", "_law_bits_here"] (defScope sRight) := ⟨rfl, rfl, rfl, by decide +kernel, rfl, by decide +kernel, by decide +kernel⟩
theorem ok_right {f fD fA fV : Addr} {fd fdD fdA fdV : FuncData} (F : Fun K "_law_right" "_law_right" sRight f fd) (T : Txt mg)
    (FD : Fun K "_law_due" "_law_due" sDue fD fdD) (bD : Binds K fdD ["_law_rows", "_law_name", "_law_bits_here"] []) (mD : mg "_law_due" = some (.ref fD))
    (kA : PySem.W.keepIn K (.ref fA) = true) (bA : Binds K fdA ["_law_claims", "_law_name", "_law_bits_here"] []) (mA : mg "_law_asked" = some (.ref fA)) (GA : FnOk P w K mg base CX0 5 fA fdA ["_law_claims", "_law_name", "_law_bits_here"] (spAsked C))
    (kV : PySem.W.keepIn K (.ref fV) = true) (bV : Binds K fdV ["_law_claims", "_law_name", "_law_bits_here"] []) (mV : mg "_law_by_any" = some (.ref fV)) (GV : FnOk P w K mg base CX0 5 fV fdV ["_law_claims", "_law_name", "_law_bits_here"] (spByAny C)) :
    FnOk P w K mg base CX0 6 f fd ["_law_claims", "_law_rows", "_law_name", "_law_bits_here"] (spRight C) := by
  have GD : FnOk P w K mg base CX0 5 fD fdD ["_law_rows", "_law_name", "_law_bits_here"] (spDue K) := (ok_due FD T).mono (by decide)
  refine F.ok scRight (fun vs H Q E h => ?_) (fun cdv A outer s H vs Q E hr h => ?_)
  · obtain ⟨x, a, nm, b, rows, rv, rvL, az, rfl, _⟩ := h; rfl
  · obtain ⟨x, a, nm, b, rows, rv, rvL, az, rfl, ha, hA, hR, hat, q⟩ := h
    have nd := scRight.nd
    have hu := hud_of hr (d := 0) (by decide)
    refine ⟨_, pss_cons (ps_set (i := 4) nd rfl (Or.inl rfl) (pe_call GD hr (by rfl) mD FD.kp bD .nil pass0 (pa_cons (pv 1) (pa_cons (pv 2) (pa_cons (pv 3) pa_nil)))))
      (pss_cons (ps_set (i := 5) nd rfl (Or.inl rfl) (pe_call GA hr (by rfl) mA kA bA .nil pass0 (pa_cons (pv 0) (pa_cons (pv 2) (pa_cons (pv 3) pa_nil)))))
      (pss_cons (ps_if (pt_cmpR op_gt (pe_callB call_len_seq (by rfl) T.len bt_len (pa_cons (pv 4) pa_nil)) pe_int (nomark _))
      (pss_one (ps_ret (pe_and (pe_cmpR (op_eqA hu) (pv 5) (pe_tup (pa_cons pe_str (pa_cons (pe_ix ix_tup (pe_ix ix_list (pv 1) (pe_ix ix_list (pv 4) pe_int (fun _ _ => rfl)) (fun _ _ => rfl)) pe_int (fun _ _ => rfl)) (pa_cons (pe_ix ix_tup (pe_ix ix_list (pv 1) (pe_ix ix_list (pv 4) pe_int (fun _ _ => rfl)) (fun _ _ => rfl)) pe_int (fun _ _ => rfl)) pa_nil)))) (nomark _)) (pe_one (pe_call GV hr (by rfl) mV kV bV .nil pass0 (pa_cons (pv 0) (pa_cons (pv 2) (pa_cons (pv 3) pa_nil))))))))
      pss_nil)
      (pss_one (ps_ret (pe_cmpR (op_eqA hu) (pv 5) (pe_tup (pa_cons pe_str (pa_cons (pe_ix ix_list (pe_op op_cat (pv 4) (pe_lst (pa_cons pe_non pa_nil))) pe_int (fun _ _ => rfl)) pa_nil))) (nomark _)))))), ?_⟩
    refine ⟨_, rfl, _, rfl, _, rfl, a, nm, b, rows, rvL, rfl, hA, hR, ha.len, fun H1 D s1 hD hD1 => ?_⟩
    refine ⟨_, rfl, _, rfl, _, rfl, x, nm, b, rows, rv, az, rfl, ha.same s1, fun H2 D2 s2 hD2 => ?_⟩
    have s12 := s1.trans s2
    have hD12 := s2 _ _ hD1
    have hlt : ∀ k ∈ topsOf rows nm b, k < rows.length := fun k hk => (mem_opens.mp (mem_tops.mp hk).1).1
    refine ⟨_, rfl, D, _, rfl, .inl (SqL.of hD12), _, _, rfl, rfl, _, rfl, ite2 (fun hgt => ?_) (fun hgt => ?_)⟩
    · rw [nums_len, decide_eq_true_eq] at hgt
      obtain ⟨k0, k1, ks, ek⟩ : ∃ k0 k1 ks, topsOf rows nm b = k0 :: k1 :: ks := by
        cases e : topsOf rows nm b with
        | nil => rw [e] at hgt; simp at hgt
        | cons k0 r1 =>
          cases r1 with
          | nil => rw [e] at hgt; simp at hgt
          | cons k1 ks => exact ⟨k0, k1, ks, rfl⟩
      rw [ek] at hD12 hD2
      obtain ⟨t0, n0, b0, m0, a1, a2⟩ := (hat k0 (hlt k0 (by rw [ek]; exact List.mem_cons_self))).same s12
      obtain ⟨t1, n1, b1, m1, c1, c2⟩ := (hat k1 (hlt k1 (by rw [ek]; exact List.mem_cons_of_mem _ List.mem_cons_self))).same s12
      have hA2 := s12 _ _ hA
      refine ⟨_, rfl, _, rfl, _, rfl, D, _, _, _, rfl, rfl, SqL.of hD12, atI_nat (k := 0) rfl, a, _, _, _, rfl, rfl, SqL.of hA2, atI_nat a1, t0, _, _, _, rfl, rfl, SqT.of a2, rfl, _, rfl, _, rfl, D, _, _, _, rfl, rfl, SqL.of hD12, atI_nat (k := 1) rfl, a, _, _, _, rfl, rfl, SqL.of hA2, atI_nat c1, t1, _, _, _, rfl, rfl, SqT.of c2, rfl, by show 3 ≤ sizeLine; rw [sizeLine_eq]; decide, fun p hp => ?_⟩
      have s3 := same_upd (o := .tup [.str "two", .int (az k0), .int (az k1)]) hp
      refine ⟨D2, p, _, _, rfl, rfl, .inl ⟨SqT.of (s3 _ _ hD2), SqT.of upd_same⟩, .cons ⟨rfl, .inl rfl⟩ (.cons ⟨rfl, .inl rfl⟩ (.cons ⟨rfl, .inl rfl⟩ .nil)), ⟨_, rfl, iteT ?_⟩⟩
      exact ⟨_, rfl, _, rfl, _, rfl, x, nm, b, rows, rv, az, k0, k1, ks, rfl, (ha.same s12).same s3, ek, fun H4 s4 => q _ ((s12.trans s3).trans s4)⟩
    · rw [nums_len, decide_eq_true_eq] at hgt
      refine ⟨_, rfl, _, rfl, by show 1 ≤ sizeLine; rw [sizeLine_eq]; decide, fun p hp => ?_⟩
      have s3 := same_upd (o := .lst [.non]) hp
      refine ⟨D, p, _, _, rfl, rfl, s3 _ _ hD12, upd_same, ?_, fun c hc => ?_⟩
      · rw [nums_len, sizeLine_eq]
        show _ + 1 ≤ _
        omega
      have s4 := same_upd (o := .lst (nums (topsOf rows nm b) ++ [.non])) hc
      have e0 : (nums (topsOf rows nm b) ++ [V.non])[0]? = some (topV (topsOf rows nm b)) := by
        cases e : topsOf rows nm b with
        | nil => rfl
        | cons k0 r1 => rfl
      refine ⟨c, _, _, _, rfl, rfl, SqL.of upd_same, atI_nat (k := 0) e0, by show 2 ≤ sizeLine; rw [sizeLine_eq]; decide, fun p2 hp2 => ?_⟩
      have s5 := same_upd (o := .tup [.str "one", topV (topsOf rows nm b)]) hp2
      have e1 : ans az (topsOf rows nm b) = [.str "one", topV (topsOf rows nm b)] := by
        cases e : topsOf rows nm b with
        | nil => rfl
        | cons k0 r1 =>
          cases r1 with
          | nil => rfl
          | cons k1 ks => exfalso; rw [e, List.length_cons, List.length_cons] at hgt; omega
      rw [e1] at hD2
      have ef : flatV (topV (topsOf rows nm b)) = true := by
        cases topsOf rows nm b with
        | nil => rfl
        | cons k0 r1 => rfl
      exact ⟨D2, p2, _, _, rfl, rfl, .inl ⟨SqT.of (s5 _ _ (s4 _ _ (s3 _ _ hD2))), SqT.of upd_same⟩, .cons ⟨rfl, .inl rfl⟩ (.cons ⟨rfl, .inl ef⟩ .nil), q _ (((s12.trans s3).trans s4).trans s5)⟩
end
end K24

set_option Elab.async false
set_option linter.all false
set_option maxRecDepth 100000
set_option maxHeartbeats 4000000
set_option exponentiation.threshold 30000
/-! k24: what stands while the law goes on. Own work. -/
namespace K24
open PySem L2 Builtin.Str CM XC
/-- the script, kept whatever is written where bad says -/
def Sc (K : PySem.W.Frag) (H : Hp) (a : Addr) (bad : Addr → Prop) (xs : List V) : Prop :=
  (∃ (o : Obj) (its : Array Value) (n : Nat), K.lookup a = some o ∧ o.cls = .type "list" ∧ o.dict = none ∧ o.data = .seq its n ∧ its.size ≤ sizeLine ∧ Vals xs its.toList) ∨ (Rd H a (.lst xs) ∧ ¬ bad a)
theorem Sc.sq {K : PySem.W.Frag} {H : Hp} {a : Addr} {bad : Addr → Prop} {xs : List V} (h : Sc K H a bad xs) : SqL K H a xs := by
  rcases h with h | h
  · exact .inr h
  · exact .inl h.1
theorem Sc.keep {K : PySem.W.Frag} {H H' : Hp} {a : Addr} {bad bad' : Addr → Prop} {xs : List V} (h : Sc K H a bad xs) (k : ∀ o, ¬ bad a → H a = some o → H' a = some o ∧ ¬ bad' a) : Sc K H' a bad' xs := by
  rcases h with h | ⟨h1, h2⟩
  · exact .inl h
  · rcases h1 with e | ⟨o, e⟩
    · obtain ⟨k1, k2⟩ := k _ h2 e
      exact .inr ⟨.inl k1, k2⟩
    · obtain ⟨k1, k2⟩ := k _ h2 e
      exact .inr ⟨.inr ⟨o, k1⟩, k2⟩
/-- what stays beside a side -/
structure Fr (H H' : Hp) (kl : Addr) (r r' : CR) : Prop where
  keep : ∀ c o, ¬ Own r c → c ≠ kl → H c = some o → H' c = some o
  own : ∀ c, Own r' c → Own r c ∨ H c = none
theorem Fr.refl (H : Hp) (kl : Addr) (r : CR) : Fr H H kl r r := ⟨fun _ _ _ _ e => e, fun _ z => .inl z⟩
theorem Fr.put {H H' H2 H3 H12 : Hp} {kl : Addr} {r r' r'' : CR} (f : Fr H H' kl r r') (s : Same H' H2) (e3 : ∀ c o, c ≠ kl → H2 c = some o → H3 c = some o) (k3 : H3 kl ≠ none)
    (hkp : ∀ c o, ¬ Own r' c → H3 c = some o → H12 c = some o) (hon : ∀ c, Own r'' c → Own r' c ∨ H3 c = none) : Fr H H12 kl r r'' where
  keep := fun c o n1 n2 e => hkp c o (fun z => by
    rcases f.own c z with w | w
    · exact n1 w
    · rw [e] at w; cases w) (e3 _ _ n2 (s _ _ (f.keep c o n1 n2 e)))
  own := fun c z => by
    rcases hon c z with w | w
    · exact f.own c w
    · by_cases ho : Own r c
      · exact .inl ho
      · right
        cases e : H c with
        | none => rfl
        | some o =>
          by_cases hc : c = kl
          · rw [hc] at w; exact absurd w k3
          · rw [e3 _ _ hc (s _ _ (f.keep c o ho hc e))] at w; cases w
theorem Fr.put2 {H H2 H12 : Hp} {kl : Addr} {r r' : CR} {o' : HO} (s : Same H H2) (hkp : ∀ c o, ¬ Own r c → H2 c = some o → H12 c = some o) (hon : ∀ c, Own r' c → Own r c ∨ H2 c = none) : Fr H (upd H12 kl o') kl r r' where
  keep := fun c o n1 n2 e => by rw [upd_ne n2]; exact hkp c o n1 (s _ _ e)
  own := fun c z => by
    rcases hon c z with w | w
    · exact .inl w
    · right
      cases e : H c with
      | none => rfl
      | some o => rw [s _ _ e] at w; cases w
theorem CL.noTup {C : Addr} {r : CR} {H : Hp} {x : Addr} {rows : Rw} {rv : List V} (h : CL C r H x rows rv) {e : Addr} {xs : List V} (q : H e = some (.tup xs)) : ¬ Own r e := fun z => by
  rcases z with z | z | ⟨n, z⟩ | ⟨n, l, z⟩
  · rw [z, h.hlr] at q; cases q
  · rw [z, h.db] at q; cases q
  · rw [(h.din n e z).1] at q; cases q
  · rw [h.lin n l e z] at q; cases q
theorem only_one {L : List Nat} (hs : L.Pairwise (· < ·)) {i : Nat} (h : ∀ x, x ∈ L ↔ x = i) : L = [i] := by
  cases L with
  | nil => exact nomatch (h i).mpr rfl
  | cons a r =>
    have ha := (h a).mp List.mem_cons_self
    subst ha
    cases r with
    | nil => rfl
    | cons b r =>
      have hb := (h b).mp (List.mem_cons_of_mem _ List.mem_cons_self)
      have := (List.pairwise_cons.mp hs).1 b List.mem_cons_self
      omega
structure Ct where
  n : Str
  a : Int
  b : Nat
def rowsOf (cs : List Ct) : Rw := cs.map fun c => (c.n, c.b)
def azOf (cs : List Ct) (k : Nat) : Int := (cs[k]?.map (·.a)).getD 0
theorem rowsOf_len (cs : List Ct) : (rowsOf cs).length = cs.length := by unfold rowsOf; rw [List.length_map]
theorem rowsOf_snoc (cs : List Ct) (c : Ct) : rowsOf (cs ++ [c]) = rowsOf cs ++ [(c.n, c.b)] := by unfold rowsOf; rw [List.map_append]; rfl
theorem rowsOf_at {cs : List Ct} {k : Nat} {n : Str} {b : Nat} (h : (rowsOf cs)[k]? = some (n, b)) : ∃ c, cs[k]? = some c ∧ c.n = n ∧ c.b = b := by
  unfold rowsOf at h
  rw [List.getElem?_map] at h
  obtain ⟨c, hc, e⟩ := Option.map_eq_some_iff.mp h
  injection e with e1 e2
  exact ⟨c, hc, e1, e2⟩
/-- a claim greater than all that lie open -/
theorem new_top {rows : Rw} {nm : Str} {B : Nat} (h : ∀ k, k < rows.length → bitsAt rows k < B) {b : Nat} (hb : B ≤ b) : topsOf (rows ++ [(nm, b)]) nm b = [rows.length] := by
  have en : bitsAt (rows ++ [(nm, b)]) rows.length = b := by unfold bitsAt; simp
  have hn : rows.length ∈ opens (rows ++ [(nm, b)]) nm b := mem_opens.mpr ⟨by simp, by unfold nameIs; simp, by rw [en]; exact in_refl b⟩
  refine only_one ((opens_sorted _ _ _).filter _) fun k => Iff.trans (mem_tops (f := bitsAt (rows ++ [(nm, b)])) (S := opens (rows ++ [(nm, b)]) nm b)) ?_
  constructor
  · rintro ⟨h1, h2⟩
    obtain ⟨k1, k2, k3⟩ := mem_opens.mp h1
    rw [List.length_append, List.length_singleton] at k1
    refine Decidable.byContradiction fun hne => ?_
    have hk : k < rows.length := by omega
    have := h k hk
    rw [bitsAt_old hk] at k3
    exact h2 ⟨rows.length, hn, by rw [en, bitsAt_old hk]; omega, by rw [en, bitsAt_old hk]; exact k3⟩
  · rintro rfl
    refine ⟨hn, ?_⟩
    rintro ⟨j, hj, hne, hin⟩
    rw [en] at hne hin
    have h3 := in_le (mem_opens.mp hj).2.2
    have h4 := in_le hin
    exact hne (Nat.le_antisymm h3 h4)
/-- claims and the list of what was put -/
structure Sd (C : Addr) (H : Hp) (x kl : Addr) (r : CR) (cs : List Ct) (rv kv : List V) : Prop where
  cl : CL C r H x (rowsOf cs) rv
  hk : H kl = some (.lst kv)
  klen : kv.length = cs.length
  pr : ∀ (k : Nat) c, cs[k]? = some c → ∃ t t' m m', rv[k]? = some (.ref t) ∧ kv[k]? = some (.ref t') ∧ H t = some (.tup [.str c.n, .int c.a, .int (c.b : Int), m]) ∧ H t' = some (.tup [.str c.n, .int c.a, .int (c.b : Int), m'])
  noK : ¬ Own r kl
section
variable {C : Addr} {H H' : Hp} {x kl : Addr} {r r' : CR} {cs : List Ct} {rv kv : List V}
theorem Sd.off (h : Sd C H x kl r cs rv kv) (s : ∀ e o, H e = some o → (Own r e ∨ e = x ∨ e = kl ∨ ∃ xs, o = .tup xs) → H' e = some o) : Sd C H' x kl r cs rv kv where
  cl := h.cl.off fun e o q z => s e o q (z.imp id (Or.imp id .inr))
  hk := s _ _ h.hk (.inr (.inr (.inl rfl)))
  klen := h.klen
  pr := fun k c e => by
    obtain ⟨t, t', m, m', h1, h2, h3, h4⟩ := h.pr k c e
    exact ⟨t, t', m, m', h1, h2, s _ _ h3 (.inr (.inr (.inr ⟨_, rfl⟩))), s _ _ h4 (.inr (.inr (.inr ⟨_, rfl⟩)))⟩
  noK := h.noK
theorem Sd.same (h : Sd C H x kl r cs rv kv) (s : Same H H') : Sd C H' x kl r cs rv kv := h.off fun e o q _ => s e o q
theorem Sd.rvlen (h : Sd C H x kl r cs rv kv) : rv.length = cs.length := by rw [h.cl.len, rowsOf_len]
/-- behind a row put into both -/
theorem Sd.put (h : Sd C H x kl r cs rv kv) {c : Ct} {t t' : Addr} {m m' : V} (tk : ∀ e xs, H e = some (.tup xs) → H' e = some (.tup xs)) (hc : CL C r' H' x (rowsOf cs ++ [(c.n, c.b)]) (rv ++ [.ref t]))
    (ht : H' t = some (.tup [.str c.n, .int c.a, .int (c.b : Int), m])) (ht' : H' t' = some (.tup [.str c.n, .int c.a, .int (c.b : Int), m'])) (hk : H' kl = some (.lst (kv ++ [.ref t']))) (no : ¬ Own r' kl) :
    Sd C H' x kl r' (cs ++ [c]) (rv ++ [.ref t]) (kv ++ [.ref t']) where
  cl := by rw [rowsOf_snoc]; exact hc
  hk := hk
  klen := by rw [List.length_append, List.length_append, h.klen]; rfl
  pr := fun k c' e => by
    by_cases hlt : k < cs.length
    · rw [List.getElem?_append_left hlt] at e
      obtain ⟨u, u', n, n', h1, h2, h3, h4⟩ := h.pr k c' e
      exact ⟨u, u', n, n', by rw [List.getElem?_append_left (by rw [h.rvlen]; exact hlt)]; exact h1, by rw [List.getElem?_append_left (by rw [h.klen]; exact hlt)]; exact h2, tk _ _ h3, tk _ _ h4⟩
    · have hk2 : k = cs.length := by
        have := (List.getElem?_eq_some_iff.mp e).1
        rw [List.length_append, List.length_singleton] at this
        omega
      subst hk2
      rw [List.getElem?_append_right (Nat.le_refl _), Nat.sub_self] at e
      have e' : c = c' := by injection e
      subst e'
      exact ⟨t, t', m, m', by rw [← h.rvlen, List.getElem?_append_right (Nat.le_refl _), Nat.sub_self]; rfl, by rw [← h.klen, List.getElem?_append_right (Nat.le_refl _), Nat.sub_self]; rfl, ht, ht'⟩
  noK := no
theorem Sd.ra (h : Sd C H x kl r cs rv kv) : RA H (rowsOf cs) kv := ⟨by rw [h.klen, rowsOf_len], fun k n b e => by
  obtain ⟨c, hc, rfl, rfl⟩ := rowsOf_at e
  obtain ⟨t, t', m, m', h1, h2, h3, h4⟩ := h.pr k c hc
  exact ⟨t', _, m', h2, h4⟩⟩
theorem az_at {c : Ct} {k : Nat} (h : cs[k]? = some c) : azOf cs k = c.a := by unfold azOf; rw [h]; rfl
theorem Sd.atk (h : Sd C H x kl r cs rv kv) (k : Nat) (hk : k < (rowsOf cs).length) : AtR H kv k (.int (azOf cs k)) := by
  rw [rowsOf_len] at hk
  have e := List.getElem?_eq_getElem hk
  obtain ⟨t, t', m, m', h1, h2, h3, h4⟩ := h.pr k _ e
  exact ⟨t', _, _, _, h2, by rw [az_at e]; exact h4⟩
theorem Sd.ask (h : Sd C H x kl r cs rv kv) (hl : cs.length < 64) {nm : Str} {b : Nat} {ys : List Int} (hb : BitsOf b ys) (hy : ys.length ≤ 1000) (hnm : NmOk nm) : AskP C H x nm b (rowsOf cs) rv (azOf cs) :=
  ⟨⟨r, h.cl⟩, by rw [rowsOf_len]; exact hl, ⟨ys, hb, hy⟩, hnm, fun k hk => by
    rw [rowsOf_len] at hk
    have e := List.getElem?_eq_getElem hk
    obtain ⟨t, t', m, m', h1, h2, h3, h4⟩ := h.pr k _ e
    exact ⟨t, _, _, _, h1, by rw [az_at e]; exact h3⟩⟩
end
structure LI (K : PySem.W.Frag) (C a nl x rl : Addr) (ns : List Int) (zs : List Str) (r : CR) (cs : List Ct) (rv kv : List V) (H : Hp) : Prop where
  sd : Sd C H x rl r cs rv kv
  sc : Sc K H a (fun c => Own r c ∨ c = rl) (ns.map V.int)
  hn : H nl = some (.lst (zs.map V.str))
  non : ¬ Own r nl
  bn : nl ≠ rl
section
variable {K : PySem.W.Frag} {C a nl x rl : Addr} {ns : List Int} {zs : List Str} {r r' : CR} {cs : List Ct} {rv kv : List V} {H H' : Hp}
theorem LI.same (h : LI K C a nl x rl ns zs r cs rv kv H) (s : Same H H') : LI K C a nl x rl ns zs r cs rv kv H' :=
  ⟨h.sd.same s, h.sc.keep fun o n e => ⟨s _ _ e, n⟩, s _ _ h.hn, h.non, h.bn⟩
theorem LI.step (h : LI K C a nl x rl ns zs r cs rv kv H) {cs' : List Ct} {rv' kv' : List V} (hs : Sd C H' x rl r' cs' rv' kv') (hF : Fr H H' rl r r') : LI K C a nl x rl ns zs r' cs' rv' kv' H' := by
  have own : ∀ c o, H c = some o → ¬ Own r c → ¬ Own r' c := fun c o e n z => by
    rcases hF.own c z with w | w
    · exact n w
    · rw [e] at w; cases w
  refine ⟨hs, h.sc.keep fun o n e => ⟨hF.keep _ _ (fun z => n (.inl z)) (fun z => n (.inr z)) e, ?_⟩, hF.keep _ _ h.non h.bn h.hn, own _ _ h.hn h.non, h.bn⟩
  rintro (z | z)
  · exact own _ _ e (fun z => n (.inl z)) z
  · exact n (.inr z)
/-- put into the claims, then told to the list -/
theorem LI.putApp (h : LI K C a nl x rl ns zs r cs rv kv H) {c : Ct} {H4 H5 : Hp} {t t' : Addr} {m m' : V} (hC : CL C r' H4 x (rowsOf cs ++ [(c.n, c.b)]) (rv ++ [.ref t])) (ht : H4 t = some (.tup [.str c.n, .int c.a, .int (c.b : Int), m]))
    (hkp : ∀ e o, ¬ Own r e → H e = some o → H4 e = some o) (hon : ∀ e, Own r' e → Own r e ∨ H e = none) (s5 : Same H4 H5) (ht' : H5 t' = some (.tup [.str c.n, .int c.a, .int (c.b : Int), m'])) :
    LI K C a nl x rl ns zs r' (cs ++ [c]) (rv ++ [.ref t]) (kv ++ [.ref t']) (upd H5 rl (.lst (kv ++ [.ref t']))) := by
  have noK : ¬ Own r' rl := fun z => by
    rcases hon _ z with w | w
    · exact h.sd.noK w
    · rw [h.sd.hk] at w; cases w
  have hk5 := s5 _ _ (hkp _ _ h.sd.noK h.sd.hk)
  have tk : ∀ e xs, H e = some (.tup xs) → upd H5 rl (.lst (kv ++ [.ref t'])) e = some (.tup xs) := fun e xs q => by
    rw [upd_ne (kind_ne q h.sd.hk (fun z => nomatch z))]
    exact s5 _ _ (hkp _ _ (h.sd.cl.noTup q) q)
  have hC5 : CL C r' (upd H5 rl (.lst (kv ++ [.ref t']))) x (rowsOf cs ++ [(c.n, c.b)]) (rv ++ [.ref t]) := (hC.same s5).off fun e o q z => by
    rcases z with z | z | ⟨xs, rfl⟩
    · rw [upd_ne (fun w => noK (by rw [← w]; exact z))]; exact q
    · subst z
      rw [upd_ne (kind_ne (hC.same s5).ins hk5 (fun z => nomatch z))]; exact q
    · rw [upd_ne (kind_ne q hk5 (fun z => nomatch z))]; exact q
  have ht5 := s5 _ _ ht
  exact h.step (h.sd.put tk hC5 (by rw [upd_ne (kind_ne ht5 hk5 (fun z => nomatch z))]; exact ht5) (by rw [upd_ne (kind_ne ht' hk5 (fun z => nomatch z))]; exact ht') upd_same noK) (Fr.put2 (fun _ _ e => e) (fun e o n q => s5 _ _ (hkp e o n q)) hon)
theorem LI.app_cl (h : LI K C a nl x rl ns zs r cs rv kv H) (ys : List V) : CL C r (upd H rl (.lst ys)) x (rowsOf cs) rv := h.sd.cl.off fun e o q z => by
  rcases z with z | z | ⟨xs, rfl⟩
  · rw [upd_ne (fun w => h.sd.noK (by rw [← w]; exact z))]; exact q
  · subst z
    rw [upd_ne (kind_ne h.sd.cl.ins h.sd.hk (fun z => nomatch z))]; exact q
  · rw [upd_ne (kind_ne q h.sd.hk (fun z => nomatch z))]; exact q
/-- told to the list, then put into the claims -/
theorem LI.appPut (h : LI K C a nl x rl ns zs r cs rv kv H) {c : Ct} {H3 H12 : Hp} {t t' : Addr} {m m' : V} (ht' : H t' = some (.tup [.str c.n, .int c.a, .int (c.b : Int), m'])) (s3 : Same (upd H rl (.lst (kv ++ [.ref t']))) H3)
    (hC : CL C r' H12 x (rowsOf cs ++ [(c.n, c.b)]) (rv ++ [.ref t])) (ht : H12 t = some (.tup [.str c.n, .int c.a, .int (c.b : Int), m]))
    (hkp : ∀ e o, ¬ Own r e → H3 e = some o → H12 e = some o) (hon : ∀ e, Own r' e → Own r e ∨ H3 e = none) : LI K C a nl x rl ns zs r' (cs ++ [c]) (rv ++ [.ref t]) (kv ++ [.ref t']) H12 := by
  have hk3 : H3 rl = some (.lst (kv ++ [.ref t'])) := s3 _ _ upd_same
  have noK : ¬ Own r' rl := fun z => by
    rcases hon _ z with w | w
    · exact h.sd.noK w
    · rw [hk3] at w; cases w
  have u3 : ∀ e o, e ≠ rl → H e = some o → H3 e = some o := fun e o n q => s3 _ _ (by rw [upd_ne n]; exact q)
  have tk : ∀ e xs, H e = some (.tup xs) → H12 e = some (.tup xs) := fun e xs q => hkp _ _ (h.sd.cl.noTup q) (u3 _ _ (kind_ne q h.sd.hk (fun z => nomatch z)) q)
  exact h.step (h.sd.put tk hC ht (tk _ _ ht') (hkp _ _ h.sd.noK hk3) noK) ((Fr.refl H rl r).put (fun _ _ e => e) u3 (fun z => by rw [hk3] at z; cases z) hkp hon)
end
end K24

set_option Elab.async false
set_option linter.all false
set_option maxRecDepth 100000
set_option maxHeartbeats 4000000
set_option exponentiation.threshold 30000
/-! k24: the law. Own work. -/
namespace K24
open PySem L2 Builtin.Str CM XC
def spLaw (K : PySem.W.Frag) : Sp := fun vs H Q _ => ∃ (a : Addr) (ns : List Int), vs = [.ref a] ∧ SqL K H a (ns.map V.int) ∧ ns.length ≤ 63 ∧ ∀ H', Q (.bl true) H'
section
variable {P : Program} {w : World} {K : PySem.W.Frag} {mg : Str → Option Value} {base : Heap} {C : Addr} {e9 : R9} {fH : Addr}
abbrev NL : List Str := ["_law_script", "_law_names_here", "_law_claims", "_law_rows", "_law_k", "_law_cell_here", "_law_masks", "_law_mask", "_law_name", "_law_bits_here", "_law_more"]
theorem scLaw : FnScope NL ["_law_script"] (defScope sLaw) := ⟨rfl, rfl, rfl, by decide +kernel, rfl, by decide +kernel, by decide +kernel⟩
theorem lcLaw1 : LcS (defScope sLaw).names [(".0", .local), ("_law_k", .local), ("_law_cell", .globalImplicit), ("_law_script", .free)] NL [true, false, false, false, false, false, false, false, false, false, false] := ⟨by decide +kernel, by decide +kernel, by decide +kernel, by decide +kernel, by decide +kernel, rfl⟩
theorem ndLaw1 : NL.Nodup := by decide +kernel
theorem zs_at {zs : List Str} {n : Nat} (h : zs.length = n) {i : Int} (h0 : 0 ≤ i) (h1 : i < n) : ∃ z, atI (zs.map V.str) i = some (.str z) ∧ z ∈ zs := by
  obtain ⟨c, ec, hc⟩ := atI_mem (xs := zs.map V.str) (i := i) h0 (by rw [List.length_map, h]; exact h1)
  obtain ⟨z, hz, rfl⟩ := List.mem_map.mp hc
  exact ⟨z, ec, hz⟩
theorem lt_17000 {n : Nat} {ys : List Int} (h : BitsOf n ys) (hy : ∀ y ∈ ys, y < 15600) : n < 2 ^ 17000 := Bits.lt_of_bits fun m hm => by
  rw [h.1 m, decide_eq_false_iff_not]
  intro hin
  have := hy _ hin
  omega
theorem ok_law {f fL fN fU fC fM fB fA fR : Addr} {fd fdL fdN fdU fdC fdM fdB fdA fdR : FuncData} (F : Fun K "law" "law" sLaw f fd) (T : Txt mg) (TC : ClT K mg C)
    (FL : Fun K "last_of" "last_of" sLast fL fdL) (bL : Binds K fdL ["bits"] []) (mL : mg "last_of" = some (.ref fL))
    (FN : Fun K "__init__" "Claims.__init__" sCInit fN fdN) (bN : Binds K fdN ["self"] []) (mN : Mk K C fN)
    (FU : Fun K "put" "Claims.put" sCPut fU fdU) (bU : Binds K fdU ["self", "name", "at", "bits", "meaning"] []) (mU : Meth K C "put" fU)
    (FC : Fun K "_law_cell" "_law_cell" sCell fC fdC) (bC : Binds K fdC ["_law_script", "_law_k"] []) (mC : mg "_law_cell" = some (.ref fC))
    (FM : Fun K "_law_names" "_law_names" sNames fM fdM) (bM : Binds K fdM ["_law_cell_here", "_law_many"] []) (mM : mg "_law_names" = some (.ref fM))
    (FB : Fun K "_law_bits" "_law_bits" sBits fB fdB) (bB : Binds K fdB ["_law_script", "_law_mask"] []) (mB : mg "_law_bits" = some (.ref fB))
    (kA : PySem.W.keepIn K (.ref fA) = true) (bA : Binds K fdA ["_law_claims", "_law_name", "_law_bits_here"] []) (mA : mg "_law_asked" = some (.ref fA)) (GA0 : FnOk P w K mg base CX0 5 fA fdA ["_law_claims", "_law_name", "_law_bits_here"] (spAsked C))
    (kR : PySem.W.keepIn K (.ref fR) = true) (bR : Binds K fdR ["_law_claims", "_law_rows", "_law_name", "_law_bits_here"] []) (mR : mg "_law_right" = some (.ref fR)) (GR : FnOk P w K mg base CX0 6 fR fdR ["_law_claims", "_law_rows", "_law_name", "_law_bits_here"] (spRight C)) :
    FnOk P w K mg base CX0 7 f fd ["_law_script"] (spLaw K) := by
  have GC : FnOk P w K mg base CX0 6 fC fdC ["_law_script", "_law_k"] (spCell K) := (ok_cell FC T).mono (by decide)
  have GM : FnOk P w K mg base CX0 6 fM fdM ["_law_cell_here", "_law_many"] spNames := (ok_names FM T).mono (by decide)
  have GB : FnOk P w K mg base CX0 6 fB fdB ["_law_script", "_law_mask"] (spBits K) := (ok_bits FB T FC bC mC).mono (by decide)
  have GN : FnOk P w K mg base CX0 1 fN fdN ["self"] (spCInit C) := ok_cinit FN TC
  have GU : FnOk P w K mg base CX0 6 fU fdU ["self", "name", "at", "bits", "meaning"] (spPut C) := (ok_put FU TC FL bL mL).mono (by decide)
  have GA := GA0.mono (show 5 ≤ 6 by decide)
  refine F.ok scLaw (fun vs H Q E h => ?_) (fun cdv A outer s H vs Q E hr h => ?_)
  · obtain ⟨a, ns, rfl, _⟩ := h; rfl
  · obtain ⟨a, ns, rfl, hS, hl, q⟩ := h
    have nd := scLaw.nd
    have hr2 := hr.mono (show 2 ≤ 6 by decide)
    have hu := hud_of hr (d := 0) (by decide)
    have z2 : 2 ≤ sizeLine := by rw [sizeLine_eq]; decide
    have z4 : 4 ≤ sizeLine := by rw [sizeLine_eq]; decide
    -- behind all claims put, and the sets known
    have REST0 : ∃ t : TS, PSs (cxOf CX0 P w K mg base NL "law" (defScope sLaw) f cdv A outer s H E).nox ((defBody sLaw).drop 8) t ∧
        ∀ (nl x rl : Addr) (zs : List Str) (r : CR) (cs : List Ct) (rv kv : List V) (n more : Nat) (ys ys2 : List Int) (v4 v5 v6 v7 v8 : Option V) (H1 : Hp), LI K C a nl x rl ns zs r cs rv kv H1 → cs.length ≤ 14 → (∀ c ∈ cs, c.b < 2 ^ 17000) → zs.length = 2 → (∀ z ∈ zs, NmOk z) → BitsOf n ys → ys.length ≤ 1000 → BitsOf more ys2 → ys2.length ≤ 1000 → 2 ^ 17000 ≤ more →
          t { nx := fun _ H' => Q .non H', rt := Q } [some (.ref a), some (.ref nl), some (.ref x), some (.ref rl), v4, v5, v6, v7, v8, some (.int (n : Int)), some (.int (more : Int))] H1 := by
      refine ⟨_, (pss_cons (ps_if (pt_not (pt_val (pe_call GR hr (by rfl) mR kR bR .nil pass0 (pa_cons (pv 2) (pa_cons (pv 3) (pa_cons (pe_ix ix_list (pv 1) pe_int (fun _ _ => rfl)) (pa_cons (pv 10) pa_nil)))))))
        (pss_one (ps_ret pe_bl))
        pss_nil)
        (pss_cons (ps_if (pt_cmpR op_ne (pe_meth (pv 2) TC.cl mU GU hr bU .nil pass0 (pa_cons (pe_ix ix_list (pv 1) pe_int (fun _ _ => rfl)) (pa_cons pe_int (pa_cons (pv 10) (pa_cons (pe_tup (pa_cons pe_str (pa_cons pe_int pa_nil))) pa_nil))))) (pe_callB call_len_seq (by rfl) T.len bt_len (pa_cons (pv 3) pa_nil)) (nomark _))
        (pss_one (ps_ret pe_bl))
        pss_nil)
        (pss_cons (ps_expr (pe_bm PySem.F.plainAttrs_list PySem.F.slot_list_append PySem.F.type_list_append mt_append (pv 3) (pa_cons (pe_tup (pa_cons (pe_ix ix_list (pv 1) pe_int (fun _ _ => rfl)) (pa_cons pe_int (pa_cons (pv 10) (pa_cons (pe_tup (pa_cons pe_str (pa_cons pe_int pa_nil))) pa_nil))))) pa_nil)))
        (pss_cons (ps_if (pt_cmpR (op_neA hu) (pe_call GA hr (by rfl) mA kA bA .nil pass0 (pa_cons (pv 2) (pa_cons (pe_ix ix_list (pv 1) pe_int (fun _ _ => rfl)) (pa_cons (pv 10) pa_nil)))) (pe_tup (pa_cons pe_str (pa_cons (pe_op op_sub (pe_callB call_len_seq (by rfl) T.len bt_len (pa_cons (pv 3) pa_nil)) pe_int) pa_nil))) (nomark _))
        (pss_one (ps_ret pe_bl))
        pss_nil)
        (pss_cons (ps_if (PW.pt (pw_or (pt_not (pt_val (pe_call GR hr (by rfl) mR kR bR .nil pass0 (pa_cons (pv 2) (pa_cons (pv 3) (pa_cons (pe_ix ix_list (pv 1) pe_int (fun _ _ => rfl)) (pa_cons (pv 9) pa_nil))))))) (pw_or1 (pt_not (pt_val (pe_call GR hr (by rfl) mR kR bR .nil pass0 (pa_cons (pv 2) (pa_cons (pv 3) (pa_cons (pe_ix ix_list (pv 1) pe_int (fun _ _ => rfl)) (pa_cons (pv 10) pa_nil))))))))))
        (pss_one (ps_ret pe_bl))
        pss_nil)
        (pss_cons (ps_expr (pe_bm PySem.F.plainAttrs_list PySem.F.slot_list_append PySem.F.type_list_append mt_append (pv 3) (pa_cons (pe_tup (pa_cons (pe_ix ix_list (pv 1) pe_int (fun _ _ => rfl)) (pa_cons pe_int (pa_cons (pv 9) (pa_cons (pe_tup (pa_cons pe_str (pa_cons pe_int pa_nil))) pa_nil))))) pa_nil)))
        (pss_cons (ps_expr (pe_meth (pv 2) TC.cl mU GU hr bU .nil pass0 (pa_cons (pe_ix ix_list (pv 1) pe_int (fun _ _ => rfl)) (pa_cons pe_int (pa_cons (pv 9) (pa_cons (pe_tup (pa_cons pe_str (pa_cons pe_int pa_nil))) pa_nil))))))
        (pss_one (ps_ret (pe_and (pe_call GR hr (by rfl) mR kR bR .nil pass0 (pa_cons (pv 2) (pa_cons (pv 3) (pa_cons (pe_ix ix_list (pv 1) pe_int (fun _ _ => rfl)) (pa_cons (pv 9) pa_nil))))) (pe_one (pe_call GR hr (by rfl) mR kR bR .nil pass0 (pa_cons (pv 2) (pa_cons (pv 3) (pa_cons (pe_ix ix_list (pv 1) pe_int (fun _ _ => rfl)) (pa_cons (pv 10) pa_nil)))))))))))))))), ?_⟩
      intro nl x rl zs r cs rv kv n more ys ys2 v4 v5 v6 v7 v8 H1 h hcl hcb hz hnm hb hyl1 hb2 hy2 hmle
      obtain ⟨nm, enm, hnmz⟩ := zs_at hz (i := 0) (by decide) (by decide)
      obtain ⟨nm1, enm1, hnmz1⟩ := zs_at hz (i := 1) (by decide) (by decide)
      -- asked before it is put
      refine ⟨_, rfl, _, rfl, _, rfl, nl, _, _, _, rfl, rfl, SqL.of h.hn, enm, _, rfl, x, rl, nm, more, _, rv, kv, azOf cs, rfl, h.sd.ask (by omega) hb2 hy2 (hnm _ hnmz), h.sd.hk, h.sd.ra, h.sd.atk, fun H2 s2 => ⟨_, rfl, iteF ?_⟩⟩
      have h2 := h.same s2
      -- put
      refine ⟨_, rfl, x, r.dx, _, rfl, h2.sd.cl.ins, rfl, _, rfl, nl, _, _, _, rfl, rfl, SqL.of h2.hn, enm, _, rfl, z2, fun m hm => ?_⟩
      have h3 := h2.same (same_upd (o := .tup [.str "seen", .int 0]) hm)
      generalize upd H2 m (.tup [.str "seen", .int 0]) = H3 at h3 ⊢
      refine ⟨x, nm, _, _, more, r, _, rv, rfl, h3.sd.cl, by rw [rowsOf_len]; omega, fun H4 r' t hC' htn ht hkp hon => ?_⟩
      have hk4 := hkp _ _ h3.sd.noK h3.sd.hk
      have hn4 := hkp _ _ h3.non h3.hn
      refine ⟨_, rfl, rl, _, rfl, .inl (SqL.of hk4), rfl, false, ?_, iteF ?_⟩
      · rw [h3.sd.klen, rowsOf_len]; simp
      -- told to the list
      refine ⟨_, rfl, .inl ⟨rfl, _, SqL.of hk4⟩, _, rfl, nl, _, _, _, rfl, rfl, SqL.of hn4, enm, _, rfl, z2, fun m' hm' => ⟨z4, fun t' ht' => ?_⟩⟩
      have s5 := (same_upd (o := .tup [.str "seen", .int 0]) hm').trans (same_upd (o := .tup [.str nm, .int 5, .int (more : Int), .ref m']) ht')
      refine ⟨rl, _, _, rfl, rfl, s5 _ _ hk4, by rw [h3.sd.klen, sizeLine_eq]; omega, ?_⟩
      have h6 := h3.putApp (c := ⟨nm, 5, more⟩) hC' ht hkp hon s5 upd_same
      generalize upd (upd (upd H4 m' (.tup [.str "seen", .int 0])) t' (.tup [.str nm, .int 5, .int (more : Int), .ref m'])) rl (.lst (kv ++ [.ref t'])) = H6 at h6 ⊢
      -- asked again: the new one holds
      refine ⟨_, rfl, _, rfl, nl, _, _, _, rfl, rfl, SqL.of h6.hn, enm, _, rfl, x, nm, more, _, _, _, rfl, h6.sd.ask (by rw [List.length_append, List.length_singleton]; omega) hb2 hy2 (hnm _ hnmz), fun H7 D7 s7 hD7 => ?_⟩
      have h7 := h6.same s7
      have htop : topsOf (rowsOf (cs ++ [⟨nm, 5, more⟩])) nm more = [cs.length] := by
        rw [rowsOf_snoc, ← rowsOf_len cs]
        refine new_top (B := 2 ^ 17000) (fun k hk => ?_) hmle
        rw [rowsOf_len] at hk
        have e : (rowsOf cs)[k]? = some (cs[k].n, cs[k].b) := by unfold rowsOf; rw [List.getElem?_map, List.getElem?_eq_getElem hk]; rfl
        rw [bitsAt_of e]
        exact hcb _ (List.getElem_mem hk)
      rw [htop] at hD7
      refine ⟨_, rfl, rl, _, rfl, .inl (SqL.of h7.sd.hk), _, _, rfl, rfl, z2, fun p hp => ?_⟩
      have elen : (((kv ++ [V.ref t']).length : Nat) : Int) - 1 = (cs.length : Int) := by rw [List.length_append, h3.sd.klen, List.length_singleton]; omega
      have s8 := same_upd (o := .tup [.str "one", .int ((((kv ++ [V.ref t']).length : Nat) : Int) - 1)]) hp
      have hp8 : upd H7 p (.tup [.str "one", .int ((((kv ++ [V.ref t']).length : Nat) : Int) - 1)]) p = some (.tup [.str "one", .int (cs.length : Int)]) := by rw [upd_same, elen]
      refine ⟨D7, p, _, _, rfl, rfl, .inl ⟨SqT.of (s8 _ _ hD7), SqT.of hp8⟩, .cons ⟨rfl, .inl rfl⟩ (.cons ⟨rfl, .inl rfl⟩ .nil), false, rfl, iteF ?_⟩
      have h8 := h7.same s8
      generalize upd H7 p (.tup [.str "one", .int ((((kv ++ [V.ref t']).length : Nat) : Int) - 1)]) = H8 at h8 ⊢
      have hl6 : (cs ++ [(⟨nm, 5, more⟩ : Ct)]).length < 64 := by rw [List.length_append, List.length_singleton]; omega
      -- right twice
      refine ⟨_, rfl, _, rfl, _, rfl, nl, _, _, _, rfl, rfl, SqL.of h8.hn, enm, _, rfl, x, rl, nm, n, _, _, _, _, rfl, h8.sd.ask hl6 hb hyl1 (hnm _ hnmz), h8.sd.hk, h8.sd.ra, h8.sd.atk, fun H9 s9 => ⟨_, rfl, iteF ?_⟩⟩
      have h9 := h8.same s9
      refine ⟨_, rfl, _, rfl, _, rfl, nl, _, _, _, rfl, rfl, SqL.of h9.hn, enm1, _, rfl, x, rl, nm1, more, _, _, _, _, rfl, h9.sd.ask hl6 hb2 hy2 (hnm _ hnmz1), h9.sd.hk, h9.sd.ra, h9.sd.atk, fun H10 s10 => ⟨_, rfl, iteF ?_⟩⟩
      have h10 := h9.same s10
      -- told to the list, then put
      refine ⟨_, rfl, .inl ⟨rfl, _, SqL.of h10.sd.hk⟩, _, rfl, nl, _, _, _, rfl, rfl, SqL.of h10.hn, enm, _, rfl, z2, fun m2 hm2 => ⟨z4, fun t2 ht2 => ?_⟩⟩
      have h11 := h10.same ((same_upd (o := .tup [.str "macro", .int 1]) hm2).trans (same_upd (o := .tup [.str nm, .int 7, .int (n : Int), .ref m2]) ht2))
      have f11 : upd (upd H10 m2 (.tup [.str "macro", .int 1])) t2 (.tup [.str nm, .int 7, .int (n : Int), .ref m2]) t2 = some (.tup [.str nm, .int 7, .int (n : Int), .ref m2]) := upd_same
      generalize upd (upd H10 m2 (.tup [.str "macro", .int 1])) t2 (.tup [.str nm, .int 7, .int (n : Int), .ref m2]) = H11 at h11 f11 ⊢
      refine ⟨rl, _, _, rfl, rfl, h11.sd.hk, by rw [h11.sd.klen, sizeLine_eq]; omega, ?_⟩
      have hn12 : upd H11 rl (.lst (kv ++ [.ref t'] ++ [.ref t2])) nl = some (.lst (zs.map V.str)) := by rw [upd_ne h11.bn]; exact h11.hn
      have hC12 := h11.app_cl (kv ++ [.ref t'] ++ [.ref t2])
      refine ⟨_, rfl, x, r'.dx, _, rfl, hC12.ins, rfl, _, rfl, nl, _, _, _, rfl, rfl, SqL.of hn12, enm, _, rfl, z2, fun m3 hm3 => ?_⟩
      have s13 := same_upd (o := .tup [.str "macro", .int 1]) hm3
      have hC13 := hC12.same s13
      refine ⟨x, nm, _, _, n, r', _, _, rfl, hC13, by rw [rowsOf_len]; omega, fun H14 r'' t3 hC'' htn3 ht3 hkp3 hon3 => ?_⟩
      have h14 := h11.appPut (c := (⟨nm, 7, n⟩ : Ct)) f11 s13 hC'' ht3 hkp3 hon3
      have hl14 : (cs ++ [(⟨nm, 5, more⟩ : Ct)] ++ [(⟨nm, 7, n⟩ : Ct)]).length < 64 := by rw [List.length_append, List.length_append, List.length_singleton, List.length_singleton]; omega
      refine ⟨_, rfl, _, rfl, _, rfl, nl, _, _, _, rfl, rfl, SqL.of h14.hn, enm, _, rfl, x, rl, nm, n, _, _, _, _, rfl, h14.sd.ask hl14 hb hyl1 (hnm _ hnmz), h14.sd.hk, h14.sd.ra, h14.sd.atk, fun H15 s15 => ⟨_, rfl, iteT ?_⟩⟩
      have h15 := h14.same s15
      exact ⟨_, rfl, _, rfl, _, rfl, nl, _, _, _, rfl, rfl, SqL.of h15.hn, enm, _, rfl, x, rl, nm, more, _, _, _, _, rfl, h15.sd.ask hl14 hb2 hy2 (hnm _ hnmz), h15.sd.hk, h15.sd.ra, h15.sd.atk, fun H16 s16 => q _⟩
    obtain ⟨tR0, hR0, hrest0⟩ := REST0
    -- behind all claims put
    have REST : ∃ t : TS, PSs (cxOf CX0 P w K mg base NL "law" (defScope sLaw) f cdv A outer s H E).nox ((defBody sLaw).drop 6) t ∧
        ∀ (nl x rl ml : Addr) (zs : List Str) (r : CR) (cs : List Ct) (rv kv : List V) (ms : List Int) (v4 v5 v7 v8 : Option V) (H1 : Hp), LI K C a nl x rl ns zs r cs rv kv H1 → cs.length ≤ 14 → (∀ c ∈ cs, c.b < 2 ^ 17000) → zs.length = 2 → (∀ z ∈ zs, NmOk z) → H1 ml = some (.lst (ms.map V.int)) → 1 ≤ ms.length →
          t { nx := fun _ H' => Q .non H', rt := Q } [some (.ref a), some (.ref nl), some (.ref x), some (.ref rl), v4, v5, some (.ref ml), v7, v8, none, none] H1 := by
      refine ⟨_, (pss_cons (ps_set (i := 9) nd rfl (Or.inl rfl) (pe_call GB hr (by rfl) mB FB.kp bB .nil pass0 (pa_cons (pv 0) (pa_cons (pe_ix ix_list (pv 6) pe_int (fun _ _ => rfl)) pa_nil))))
        (pss_cons (ps_set (i := 10) nd rfl (Or.inl rfl) (pe_op op_add (pv 9) (pe_op op_shl pe_int pe_int))) hR0)), ?_⟩
      intro nl x rl ml zs r cs rv kv ms v4 v5 v7 v8 H1 h hcl hcb hz hnm hml hms
      obtain ⟨m0, em0⟩ : ∃ m0 : Int, ms[0]? = some m0 := ⟨ms[0], List.getElem?_eq_getElem (by omega)⟩
      have eml : (ms.map V.int)[0]? = some (.int m0) := by rw [List.getElem?_map, em0]; rfl
      refine ⟨_, rfl, _, rfl, ml, _, _, _, rfl, rfl, SqL.of hml, atI_nat (k := 0) eml, a, m0, ns, rfl, h.sc.sq, hl, fun n ys hb hy hyb => ?_⟩
      refine ⟨_, rfl, _, _, rfl, rfl, ⟨by decide, by decide, by decide⟩, _, _, rfl, rfl, ?_⟩
      have hb2 : BitsOf (n + 2 ^ 17000) (ys ++ [((17000 : Nat) : Int)]) := bits_more hb fun y hy' => by have := hyb y hy'; omega
      have hy2 : (ys ++ [((17000 : Nat) : Int)]).length ≤ 1000 := by rw [List.length_append, List.length_singleton]; omega
      have eb : (n : Int) + (1 : Int) * 2 ^ (17000 : Int).toNat = ((n + 2 ^ 17000 : Nat) : Int) := by rw [Int.natCast_add, ← shl_one]; rfl
      obtain ⟨more, hmore⟩ : ∃ more : Nat, more = n + 2 ^ 17000 := ⟨_, rfl⟩
      rw [← hmore] at hb2 eb
      have hmle : 2 ^ 17000 ≤ more := by rw [hmore]; exact Nat.le_add_left _ _
      have hyl1 : ys.length ≤ 1000 := by omega
      have hq := hrest0 nl x rl zs r cs rv kv n more ys _ v4 v5 (some (.ref ml)) v7 v8 H1 h hcl hcb hz hnm hb hyl1 hb2 hy2 hmle
      rw [← eb] at hq
      exact hq
    obtain ⟨tR, hR, hrest⟩ := REST
    refine ⟨_, pss_cons (ps_set (i := 1) nd rfl (Or.inl rfl) (pe_call GM hr (by rfl) mM FM.kp bM .nil pass0 (pa_cons (pe_call GC hr (by rfl) mC FC.kp bC .nil pass0 (pa_cons (pv 0) (pa_cons pe_int pa_nil))) (pa_cons pe_int pa_nil))))
      (pss_cons (ps_set (i := 2) nd rfl (Or.inl rfl) (pe_make0 mN GN hr2 (by rfl) TC.mgC bN .nil pass0))
      (pss_cons (ps_set (i := 3) nd rfl (Or.inl rfl) (pe_lst pa_nil))
      (pss_cons (ps_for PassesOwn.never rfl (pi_range1 rfl T.range (pa_cons (pe_op op_add pe_int (pe_op op_mod (pe_call GC hr (by rfl) mC FC.kp bC .nil pass0 (pa_cons (pv 0) (pa_cons pe_int pa_nil))) pe_int)) pa_nil)) (pg_name (i := 4) nd rfl (Or.inl rfl))
      (pss_cons (ps_set (i := 5) nd rfl (Or.inl rfl) (pe_call GC hr (by rfl) mC FC.kp bC .nil pass0 (pa_cons (pv 0) (pa_cons (pe_op op_add pe_int (pv 4)) pa_nil))))
        (pss_cons (ps_expr (pe_bm PySem.F.plainAttrs_list PySem.F.slot_list_append PySem.F.type_list_append mt_append (pv 3) (pa_cons (pe_tup (pa_cons (pe_ix ix_list (pv 1) (pe_op op_mod (pv 5) pe_int) (fun _ _ => rfl)) (pa_cons (pe_op op_mod (pe_op op_fdiv (pv 5) pe_int) pe_int) (pa_cons (pe_call GB hr (by rfl) mB FB.kp bB .nil pass0 (pa_cons (pv 0) (pa_cons (pe_op op_mod (pe_op op_fdiv (pv 5) pe_int) pe_int) pa_nil))) (pa_cons (pe_tup (pa_cons pe_str (pa_cons (pv 4) pa_nil))) pa_nil))))) pa_nil)))
        (pss_one (ps_expr (pe_meth (pv 2) TC.cl mU GU hr bU .nil pass0 (pa_cons (pe_ix ix_tup (pe_ix ix_list (pv 3) (pv 4) (fun _ _ => rfl)) pe_int (fun _ _ => rfl)) (pa_cons (pe_ix ix_tup (pe_ix ix_list (pv 3) (pv 4) (fun _ _ => rfl)) pe_int (fun _ _ => rfl)) (pa_cons (pe_ix ix_tup (pe_ix ix_list (pv 3) (pv 4) (fun _ _ => rfl)) pe_int (fun _ _ => rfl)) (pa_cons (pe_ix ix_tup (pe_ix ix_list (pv 3) (pv 4) (fun _ _ => rfl)) pe_int (fun _ _ => rfl)) pa_nil))))))))))
      (pss_cons (ps_set (i := 6) nd rfl (Or.inl rfl) (pe_op op_cat (pe_lc (ext := []) lcLaw1 rfl (pi_range1 rfl T.range (pa_cons pe_int pa_nil))
          ⟨fun _ _ _ _ _ => (pg_name (i := 4) ndLaw1 rfl (Or.inl rfl) (.inr rfl)), fun _ _ _ _ _ => pts_nil, fun _ _ _ _ _ => (pe_op op_mod (pe_call GC hr (by rfl) mC FC.kp bC .nil pass0 (pa_cons (pv 0) (pa_cons (pe_op op_add pe_int (pv 4)) pa_nil))) pe_int)⟩) (pe_lst (pa_cons pe_int pa_nil))))
      (pss_cons (ps_for PassesOwn.never rfl (pi_list (pv 6)) (pg_name (i := 7) nd rfl (Or.inl rfl))
      (pss_one (ps_for PassesOwn.never rfl (pi_list (pv 1)) (pg_name (i := 8) nd rfl (Or.inl rfl))
        (pss_one (ps_if (pt_not (pt_val (pe_call GR hr (by rfl) mR kR bR .nil pass0 (pa_cons (pv 2) (pa_cons (pv 3) (pa_cons (pv 8) (pa_cons (pe_call GB hr (by rfl) mB FB.kp bB .nil pass0 (pa_cons (pv 0) (pa_cons (pv 7) pa_nil))) pa_nil)))))))
          (pss_one (ps_ret pe_bl))
          pss_nil))))) hR))))), ?_⟩
    refine ⟨_, rfl, a, 7, ns, rfl, hS, by decide, by decide, hl, fun c0 => ⟨c0, 2, rfl, by decide, by decide, fun H1 nl zs s1 hnln hnl hzl hz2 => ?_⟩⟩
    have hz : zs.length = 2 := hzl
    have hnm : ∀ z ∈ zs, NmOk z := fun z hz' => ⟨by have := (hz2 z hz').1; omega, fun c hc => by have := (hz2 z hz').2 c hc; omega⟩
    refine fun x dx hx hdx hxd => ?_
    have sx : Same H1 (upd (upd H1 dx (.own x)) x (.ins C dx [])) := fun b o e => by rw [upd_ne (ne_of_none e hx), upd_ne (ne_of_none e hdx)]; exact e
    refine ⟨x, dx, rfl, upd_same, fun H3 r hC hkeep hown => ⟨rfl, ?_⟩⟩
    have s3 : Same H1 H3 := fun b o e => hkeep b o (ne_of_none e hx) (sx b o e)
    have noown : ∀ b o, H1 b = some o → ¬ Own r b := fun b o e z => by have := hown b z; rw [sx b o e] at this; cases this
    refine ⟨Nat.zero_le _, fun rl hrl => ?_⟩
    have s4 := same_upd (o := .lst []) hrl
    have norl : ¬ Own r rl := fun z => by obtain ⟨u, hu'⟩ := hC.lst z; rw [hu'] at hrl; cases hrl
    have hI0 : LI K C a nl x rl ns zs r [] [] [] (upd H3 rl (.lst [])) := by
      refine ⟨⟨hC.same s4, upd_same, rfl, (fun k c e => by simp at e), norl⟩, ?_, s4 _ _ (s3 _ _ hnl), noown _ _ hnl, ne_of_none (s3 _ _ hnl) hrl⟩
      have good : ∀ o, H1 a = some o → ¬ (Own r a ∨ a = rl) := fun o e z => by
        rcases z with z | z
        · exact noown _ _ e z
        · rw [← z, s3 _ _ e] at hrl; cases hrl
      rcases s1.seq hS with h | h
      · rcases h with e | ⟨o, e⟩
        · exact .inr ⟨.inl (s4 _ _ (s3 _ _ e)), good _ e⟩
        · exact .inr ⟨.inr ⟨o, s4 _ _ (s3 _ _ e)⟩, good _ e⟩
      · exact .inl h
    generalize upd H3 rl (.lst []) = H4 at hI0 ⊢
    refine ⟨_, rfl, a, 8, ns, rfl, hI0.sc.sq, by decide, by decide, hl, fun c2 => ⟨_, _, rfl, rfl, (by show (0 : Int) < _; decide), _, _, rfl, rfl, _, rfl, ?_⟩⟩
    have g0 := Int.emod_nonneg c2 (show (13 : Int) ≠ 0 by decide)
    have g1 := Int.emod_lt_of_pos c2 (show (0 : Int) < 13 by decide)
    refine ⟨by omega, by omega, for_range (lo := 0) (n := (2 + c2 % 13).toNat) (fun i σ H' => ∃ (r : CR) (cs : List Ct) (rv kv : List V) (v4 v5 : Option V), σ = [some (.ref a), some (.ref nl), some (.ref x), some (.ref rl), v4, v5, none, none, none, none, none] ∧ LI K C a nl x rl ns zs r cs rv kv H' ∧ cs.length = i ∧ ∀ c ∈ cs, c.b < 2 ^ 17000)
      ⟨r, [], [], [], none, none, rfl, hI0, rfl, fun c h => nomatch h⟩ ?_ ?_⟩
    · rintro i σ H' hi ⟨r, cs, rv, kv, v4, v5, rfl, h, hcl, hcb⟩
      rw [show (0 : Int) + (i : Int) = (i : Int) by omega]
      refine ⟨_, rfl, _, rfl, _, _, rfl, rfl, a, _, ns, rfl, h.sc.sq, by show (0 : Int) ≤ 18 + (i : Int); omega, by show 18 + (i : Int) ≤ (1000 : Int); omega, hl, fun z => ?_⟩
      have a0 := Int.emod_nonneg z (show (2 : Int) ≠ 0 by decide)
      have a1 := Int.emod_lt_of_pos z (show (0 : Int) < 2 by decide)
      obtain ⟨nm, en, _⟩ := zs_at hz (i := z % 2) a0 a1
      refine ⟨_, rfl, .inl ⟨rfl, _, SqL.of h.sd.hk⟩, _, rfl, _, rfl, _, _, rfl, rfl, (by show (0 : Int) < _; decide), nl, _, _, _, rfl, rfl, SqL.of h.hn, en, _, rfl, _, _, rfl, rfl, ⟨by decide, by decide⟩, _, _, rfl, rfl, (by show (0 : Int) < _; decide), _, rfl, _, rfl, _, _, rfl, rfl, ⟨by decide, by decide⟩, _, _, rfl, rfl, (by show (0 : Int) < _; decide), a, _, ns, rfl, h.sc.sq, hl, fun n ys hb hy hyb => ?_⟩
      refine ⟨_, rfl, z2, fun m hm => ⟨z4, fun t' ht' => ?_⟩⟩
      have h2 := h.same ((same_upd (o := .tup [.str "macro", .int (i : Int)]) hm).trans (same_upd (o := .tup [.str nm, .int (z / 2 % 1000003), .int (n : Int), .ref m]) ht'))
      have f2 : upd (upd H' m (.tup [.str "macro", .int (i : Int)])) t' (.tup [.str nm, .int (z / 2 % 1000003), .int (n : Int), .ref m]) t' = some (.tup [.str nm, .int (z / 2 % 1000003), .int (n : Int), .ref m]) := upd_same
      generalize upd (upd H' m (.tup [.str "macro", .int (i : Int)])) t' (.tup [.str nm, .int (z / 2 % 1000003), .int (n : Int), .ref m]) = H2 at h2 f2 ⊢
      refine ⟨rl, _, _, rfl, rfl, h2.sd.hk, by rw [h2.sd.klen, hcl, sizeLine_eq]; omega, ?_⟩
      have hC3 := h2.app_cl (kv ++ [.ref t'])
      have f3 : upd H2 rl (.lst (kv ++ [.ref t'])) t' = some (.tup [.str nm, .int (z / 2 % 1000003), .int (n : Int), .ref m]) := by rw [upd_ne (kind_ne f2 h2.sd.hk (fun z => nomatch z))]; exact f2
      have e1 : atI (kv ++ [.ref t']) (i : Int) = some (.ref t') := atI_nat (by rw [← hcl, ← h2.sd.klen, List.getElem?_append_right (Nat.le_refl _), Nat.sub_self]; rfl)
      refine ⟨_, rfl, x, r.dx, _, rfl, hC3.ins, rfl, _, rfl, _, rfl, rl, _, _, _, rfl, rfl, SqL.of upd_same, e1, t', _, _, _, rfl, rfl, SqT.of f3, rfl, _, rfl, _, rfl, rl, _, _, _, rfl, rfl, SqL.of upd_same, e1, t', _, _, _, rfl, rfl, SqT.of f3, rfl, _, rfl, _, rfl, rl, _, _, _, rfl, rfl, SqL.of upd_same, e1, t', _, _, _, rfl, rfl, SqT.of f3, rfl, _, rfl, _, rfl, rl, _, _, _, rfl, rfl, SqL.of upd_same, e1, t', _, _, _, rfl, rfl, SqT.of f3, rfl, x, nm, _, _, n, r, _, rv, rfl, hC3, by rw [rowsOf_len]; omega, fun H12 r' t hC' htn ht hkp hon => ?_⟩
      refine ⟨r', cs ++ [⟨nm, z / 2 % 1000003, n⟩], _, _, _, _, rfl, h2.appPut (c := ⟨nm, z / 2 % 1000003, n⟩) f2 (fun _ _ e => e) hC' ht hkp hon, by rw [List.length_append, hcl]; rfl, fun c hc => ?_⟩
      rcases List.mem_append.mp hc with hc | hc
      · exact hcb c hc
      · rw [List.mem_singleton.mp hc]; exact lt_17000 hb hyb
    · rintro σ H' ⟨r, cs, rv, kv, v4, v5, rfl, h, hcl, hcb⟩
      -- the masks
      refine ⟨8, rfl, by decide, by decide, fun D hD => ?_⟩
      refine lc_rng (lo := 0) (n := 8) (fun k ys σ' H2 => (∃ v4, σ' = [some (.ref a), none, none, none, v4, none, none, none, none, none, none]) ∧ H2 = upd H' D (.lst ys) ∧ ∃ ms : List Int, ys = ms.map V.int ∧ ms.length = k)
        ⟨⟨_, rfl⟩, rfl, [], rfl, rfl⟩ ?_ ?_
      · rintro k ys σ' H2 hk ⟨⟨v4', rfl⟩, rfl, ms, hys, hms⟩
        unfold gName
        refine yes_if ?_
        refine ⟨_, rfl, _, rfl, _, _, rfl, rfl, a, _, ns, rfl, (h.same (same_upd hD)).sc.sq, by show (0 : Int) ≤ 9 + (0 + (k : Int)); omega, by show 9 + (0 + (k : Int)) ≤ (1000 : Int); omega, hl, fun z => ⟨_, _, rfl, rfl, (by show (0 : Int) < _; decide), ?_⟩⟩
        exact ⟨upd_same, by rw [hys, List.length_map, hms, sizeLine_eq]; omega, Beh.of hk ⟨⟨_, rfl⟩, by rw [upd_upd], ms ++ [z % 64], by rw [List.map_append, hys]; rfl, by rw [List.length_append, hms]; rfl⟩⟩
      · rintro ys σ' H2 ⟨_, rfl, ms, rfl, hms⟩
        have s2 := same_upd (o := .lst (ms.map V.int)) hD
        have hD2 : upd H' D (.lst (ms.map V.int)) D = some (.lst (ms.map V.int)) := upd_same
        generalize upd H' D (.lst (ms.map V.int)) = H2 at s2 hD2 ⊢
        refine ⟨by show 1 ≤ sizeLine; rw [sizeLine_eq]; decide, fun p hp => ?_⟩
        have s3 := same_upd (o := .lst [.int 63]) hp
        refine ⟨D, p, _, _, rfl, rfl, s3 _ _ hD2, upd_same, by rw [List.length_map, hms, sizeLine_eq]; decide, fun M hM => ?_⟩
        have s4 := same_upd (o := .lst (ms.map V.int ++ [.int 63])) hM
        have hM4 : upd (upd H2 p (.lst [.int 63])) M (.lst (ms.map V.int ++ [.int 63])) M = some (.lst ((ms ++ [63]).map V.int)) := by rw [upd_same, List.map_append]; rfl
        have h4 := h.same ((s2.trans s3).trans s4)
        generalize upd (upd H2 p (.lst [.int 63])) M (.lst (ms.map V.int ++ [.int 63])) = H5 at h4 hM4 ⊢
        refine ⟨_, rfl, M, rfl, ⟨_, SqL.of hM4⟩, for_list (xs := (ms ++ [63]).map V.int) (fun i σ H6 => ∃ (v7 v8 : Option V), σ = [some (.ref a), some (.ref nl), some (.ref x), some (.ref rl), v4, v5, some (.ref M), v7, v8, none, none] ∧ LI K C a nl x rl ns zs r cs rv kv H6 ∧ H6 M = some (.lst ((ms ++ [63]).map V.int)))
          ⟨_, _, rfl, h4, hM4⟩ (fun i σ H6 _ ⟨_, _, _, _, h⟩ => SqL.of h) ?_ ?_⟩
        · rintro i v σ H6 hi ⟨v7, v8, rfl, h6, hM6⟩
          obtain ⟨mk, _, rfl⟩ := List.mem_map.mp (List.mem_of_getElem? hi)
          refine ⟨_, rfl, nl, rfl, ⟨_, SqL.of h6.hn⟩, for_list (xs := zs.map V.str) (fun i σ H7 => ∃ (v8 : Option V), σ = [some (.ref a), some (.ref nl), some (.ref x), some (.ref rl), v4, v5, some (.ref M), some (.int mk), v8, none, none] ∧ LI K C a nl x rl ns zs r cs rv kv H7 ∧ H7 M = some (.lst ((ms ++ [63]).map V.int)))
            ⟨_, rfl, h6, hM6⟩ (fun i σ H7 _ ⟨_, _, h, _⟩ => SqL.of h.hn) ?_ ?_⟩
          · rintro i' v' σ' H7 hi' ⟨v8', rfl, h7, hM7⟩
            obtain ⟨nm, hnmz, rfl⟩ := List.mem_map.mp (List.mem_of_getElem? hi')
            refine ⟨_, rfl, _, rfl, _, rfl, _, rfl, _, rfl, a, mk, ns, rfl, h7.sc.sq, hl, fun n ys hb hy hyb => ?_⟩
            exact ⟨x, rl, nm, n, _, rv, kv, azOf cs, rfl, h7.sd.ask (by omega) hb (by omega) (hnm _ hnmz), h7.sd.hk, h7.sd.ra, h7.sd.atk, fun H8 s8 => ⟨_, rfl, iteF ⟨_, rfl, h7.same s8, s8 _ _ hM7⟩⟩⟩
          · rintro σ' H7 ⟨v8', rfl, h7, hM7⟩
            exact ⟨_, _, rfl, h7, hM7⟩
        · rintro σ H6 ⟨v7, v8, rfl, h6, hM6⟩
          exact hrest nl x rl M zs r cs rv kv (ms ++ [63]) v4 v5 v7 v8 H6 h6 (by omega) hcb hz hnm hM6 (by rw [List.length_append, List.length_singleton]; omega)
end
end K24

set_option Elab.async false
set_option linter.all false
set_option maxRecDepth 100000
set_option maxHeartbeats 4000000
namespace K24
open PySem L2 XC
/-! ### what the top has written; the law's head -/
theorem len1 {α : Type} {us : List α} (h : us.length = 1) : ∃ a0, us = [a0] := match us, h with | [a0], _ => ⟨a0, rfl⟩
theorem len2 {α : Type} {us : List α} (h : us.length = 2) : ∃ a0 a1, us = [a0, a1] := match us, h with | [a0, a1], _ => ⟨a0, a1, rfl⟩
theorem len3 {α : Type} {us : List α} (h : us.length = 3) : ∃ a0 a1 a2, us = [a0, a1, a2] := match us, h with | [a0, a1, a2], _ => ⟨a0, a1, a2, rfl⟩
theorem len4 {α : Type} {us : List α} (h : us.length = 4) : ∃ a0 a1 a2 a3, us = [a0, a1, a2, a3] := match us, h with | [a0, a1, a2, a3], _ => ⟨a0, a1, a2, a3, rfl⟩
theorem len5 {α : Type} {us : List α} (h : us.length = 5) : ∃ a0 a1 a2 a3 a4, us = [a0, a1, a2, a3, a4] := match us, h with | [a0, a1, a2, a3, a4], _ => ⟨a0, a1, a2, a3, a4, rfl⟩
theorem all_mk {l : PySem.W.OpenLaw} {w : World} {K : PySem.W.Frag} {h : Heap} {mg : Str → Option Value} {fa gC T1 gh gbf gbr ggo gna gnf gnn gnr gnt gtc fO fI fL fAn fC fH fM fB fD fY fA fV fR fZ fN fU fP fF fX fHI : Addr} (X : K.In h) (G : h.Ns mainGlobals mg) (hfa : mg "law" = some (.ref fa))
    {nmh qh : Str} {Nh : Addr} {bsh : List Value} {snh : List Str} {subh : List Value} {abh : Bool} {colh : Option Bool} {ddh : Option Addr} {k0h k1h k2h k3h k5h : Option Value}
    {nmtc qtc : Str} {Ntc : Addr} {bstc : List Value} {sntc : List Str} {subtc : List Value} {abtc : Bool} {coltc : Option Bool} {ddtc : Option Addr} {k0tc k1tc k2tc k3tc k5tc : Option Value}
    {odT1 odO anO odI anI odL anL odAn anAn odC anC odH anH odM anM odB anB odD anD odY anY odA anA odV anV odR anR odZ anZ odN anN odU anU odP anP odF anF odX anX odHI anHI : Option Addr} {slT1 slO slI slL slAn slC slH slM slB slD slY slA slV slR slZ slN slU slP slF slX slHI : Array (Option Value)} {ocT1 ocO kVO dcO pmO cdO ctO ocI kVI dcI pmI cdI ctI ocL kVL dcL pmL cdL ctL ocAn kVAn dcAn pmAn cdAn ctAn ocC kVC dcC pmC cdC ctC ocH kVH dcH pmH cdH ctH ocM kVM dcM pmM cdM ctM ocB kVB dcB pmB cdB ctB ocD kVD dcD pmD cdD ctD ocY kVY dcY pmY cdY ctY ocA kVA dcA pmA cdA ctA ocV kVV dcV pmV cdV ctV ocR kVR dcR pmR cdR ctR ocZ kVZ dcZ pmZ cdZ ctZ ocN kVN dcN pmN cdN ctN ocU kVU dcU pmU cdU ctU ocP kVP dcP pmP cdP ctP ocF kVF dcF pmF cdF ctF ocX kVX dcX pmX cdX ctX ocHI kVHI dcHI pmHI cdHI ctHI : Value} {nT1 : Nat}
    (qG : PySem.W.nsIn K mainGlobals "Claims" = some (some (.ref gC)))
    (eh : PySem.W.nsIn K mainGlobals "HouseError" = some (some (.ref gh)))
    (ebf : PySem.W.nsIn K mainGlobals "BadForm" = some (some (.ref gbf)))
    (ebr : PySem.W.nsIn K mainGlobals "BadRule" = some (some (.ref gbr)))
    (ego : PySem.W.nsIn K mainGlobals "GoesOn" = some (some (.ref ggo)))
    (ena : PySem.W.nsIn K mainGlobals "NoAhead" = some (some (.ref gna)))
    (enf : PySem.W.nsIn K mainGlobals "NoFill" = some (some (.ref gnf)))
    (enn : PySem.W.nsIn K mainGlobals "NoName" = some (some (.ref gnn)))
    (enr : PySem.W.nsIn K mainGlobals "NoRule" = some (some (.ref gnr)))
    (ent : PySem.W.nsIn K mainGlobals "NoText" = some (some (.ref gnt)))
    (etc : PySem.W.nsIn K mainGlobals "TwoClaims" = some (some (.ref gtc)))
    (aO : PySem.W.nsIn K mainGlobals "told" = some (some (.ref fO)))
    (lO : K.lookup fO = some ⟨ocO, odO, .func (PySem.W.fnOf "told" "told" (defArgs sTold) (defBody sTold) (defScope sTold) .none kVO dcO pmO anO cdO ctO), slO⟩)
    (cO : PySem.W.codeIn K cdO "told" = true)
    (kO : PySem.W.keepIn K (.ref fO) = true)
    (aI : PySem.W.nsIn K mainGlobals "within" = some (some (.ref fI)))
    (lI : K.lookup fI = some ⟨ocI, odI, .func (PySem.W.fnOf "within" "within" (defArgs sWithin) (defBody sWithin) (defScope sWithin) .none kVI dcI pmI anI cdI ctI), slI⟩)
    (cI : PySem.W.codeIn K cdI "within" = true)
    (kI : PySem.W.keepIn K (.ref fI) = true)
    (aL : PySem.W.nsIn K mainGlobals "last_of" = some (some (.ref fL)))
    (lL : K.lookup fL = some ⟨ocL, odL, .func (PySem.W.fnOf "last_of" "last_of" (defArgs sLast) (defBody sLast) (defScope sLast) .none kVL dcL pmL anL cdL ctL), slL⟩)
    (cL : PySem.W.codeIn K cdL "last_of" = true)
    (kL : PySem.W.keepIn K (.ref fL) = true)
    (aAn : PySem.W.nsIn K mainGlobals "in_another" = some (some (.ref fAn)))
    (lAn : K.lookup fAn = some ⟨ocAn, odAn, .func (PySem.W.fnOf "in_another" "in_another" (defArgs sAn) (defBody sAn) (defScope sAn) .none kVAn dcAn pmAn anAn cdAn ctAn), slAn⟩)
    (cAn : PySem.W.codeIn K cdAn "in_another" = true)
    (kAn : PySem.W.keepIn K (.ref fAn) = true)
    (aC : PySem.W.nsIn K mainGlobals "_law_cell" = some (some (.ref fC)))
    (lC : K.lookup fC = some ⟨ocC, odC, .func (PySem.W.fnOf "_law_cell" "_law_cell" (defArgs sCell) (defBody sCell) (defScope sCell) .none kVC dcC pmC anC cdC ctC), slC⟩)
    (cC : PySem.W.codeIn K cdC "_law_cell" = true)
    (kC : PySem.W.keepIn K (.ref fC) = true)
    (aH : PySem.W.nsIn K mainGlobals "_law_whole" = some (some (.ref fH)))
    (lH : K.lookup fH = some ⟨ocH, odH, .func (PySem.W.fnOf "_law_whole" "_law_whole" (defArgs sWhole) (defBody sWhole) (defScope sWhole) .none kVH dcH pmH anH cdH ctH), slH⟩)
    (cH : PySem.W.codeIn K cdH "_law_whole" = true)
    (kH : PySem.W.keepIn K (.ref fH) = true)
    (aM : PySem.W.nsIn K mainGlobals "_law_names" = some (some (.ref fM)))
    (lM : K.lookup fM = some ⟨ocM, odM, .func (PySem.W.fnOf "_law_names" "_law_names" (defArgs sNames) (defBody sNames) (defScope sNames) .none kVM dcM pmM anM cdM ctM), slM⟩)
    (cM : PySem.W.codeIn K cdM "_law_names" = true)
    (kM : PySem.W.keepIn K (.ref fM) = true)
    (aB : PySem.W.nsIn K mainGlobals "_law_bits" = some (some (.ref fB)))
    (lB : K.lookup fB = some ⟨ocB, odB, .func (PySem.W.fnOf "_law_bits" "_law_bits" (defArgs sBits) (defBody sBits) (defScope sBits) .none kVB dcB pmB anB cdB ctB), slB⟩)
    (cB : PySem.W.codeIn K cdB "_law_bits" = true)
    (kB : PySem.W.keepIn K (.ref fB) = true)
    (aD : PySem.W.nsIn K mainGlobals "_law_due" = some (some (.ref fD)))
    (lD : K.lookup fD = some ⟨ocD, odD, .func (PySem.W.fnOf "_law_due" "_law_due" (defArgs sDue) (defBody sDue) (defScope sDue) .none kVD dcD pmD anD cdD ctD), slD⟩)
    (cD : PySem.W.codeIn K cdD "_law_due" = true)
    (kD : PySem.W.keepIn K (.ref fD) = true)
    (aY : PySem.W.nsIn K mainGlobals "_law_only" = some (some (.ref fY)))
    (lY : K.lookup fY = some ⟨ocY, odY, .func (PySem.W.fnOf "_law_only" "_law_only" (defArgs sOnly) (defBody sOnly) (defScope sOnly) .none kVY dcY pmY anY cdY ctY), slY⟩)
    (cY : PySem.W.codeIn K cdY "_law_only" = true)
    (kY : PySem.W.keepIn K (.ref fY) = true)
    (aA : PySem.W.nsIn K mainGlobals "_law_asked" = some (some (.ref fA)))
    (lA : K.lookup fA = some ⟨ocA, odA, .func (PySem.W.fnOf "_law_asked" "_law_asked" (defArgs sAsked) (defBody sAsked) (defScope sAsked) .none kVA dcA pmA anA cdA ctA), slA⟩)
    (cA : PySem.W.codeIn K cdA "_law_asked" = true)
    (kA : PySem.W.keepIn K (.ref fA) = true)
    (aV : PySem.W.nsIn K mainGlobals "_law_by_any" = some (some (.ref fV)))
    (lV : K.lookup fV = some ⟨ocV, odV, .func (PySem.W.fnOf "_law_by_any" "_law_by_any" (defArgs sByAny) (defBody sByAny) (defScope sByAny) .none kVV dcV pmV anV cdV ctV), slV⟩)
    (cV : PySem.W.codeIn K cdV "_law_by_any" = true)
    (kV : PySem.W.keepIn K (.ref fV) = true)
    (aR : PySem.W.nsIn K mainGlobals "_law_right" = some (some (.ref fR)))
    (lR : K.lookup fR = some ⟨ocR, odR, .func (PySem.W.fnOf "_law_right" "_law_right" (defArgs sRight) (defBody sRight) (defScope sRight) .none kVR dcR pmR anR cdR ctR), slR⟩)
    (cR : PySem.W.codeIn K cdR "_law_right" = true)
    (kR : PySem.W.keepIn K (.ref fR) = true)
    (aZ : PySem.W.nsIn K mainGlobals "law" = some (some (.ref fZ)))
    (lZ : K.lookup fZ = some ⟨ocZ, odZ, .func (PySem.W.fnOf "law" "law" (defArgs sLaw) (defBody sLaw) (defScope sLaw) .none kVZ dcZ pmZ anZ cdZ ctZ), slZ⟩)
    (cZ : PySem.W.codeIn K cdZ "law" = true)
    (kZ : PySem.W.keepIn K (.ref fZ) = true)
    (aN : PySem.W.findIn K (.ref gC) "__init__" = some (some (.ref fN)))
    (lN : K.lookup fN = some ⟨ocN, odN, .func (PySem.W.fnOf "__init__" "Claims.__init__" (defArgs sCInit) (defBody sCInit) (defScope sCInit) .none kVN dcN pmN anN cdN ctN), slN⟩)
    (cN : PySem.W.codeIn K cdN "Claims.__init__" = true)
    (kN : PySem.W.keepIn K (.ref fN) = true)
    (iN : PySem.W.isFn K (.ref fN) = true)
    (aU : PySem.W.findIn K (.ref gC) "put" = some (some (.ref fU)))
    (lU : K.lookup fU = some ⟨ocU, odU, .func (PySem.W.fnOf "put" "Claims.put" (defArgs sCPut) (defBody sCPut) (defScope sCPut) .none kVU dcU pmU anU cdU ctU), slU⟩)
    (cU : PySem.W.codeIn K cdU "Claims.put" = true)
    (kU : PySem.W.keepIn K (.ref fU) = true)
    (iU : PySem.W.isFn K (.ref fU) = true)
    (aP : PySem.W.findIn K (.ref gC) "open_to" = some (some (.ref fP)))
    (lP : K.lookup fP = some ⟨ocP, odP, .func (PySem.W.fnOf "open_to" "Claims.open_to" (defArgs sCOpen) (defBody sCOpen) (defScope sCOpen) .none kVP dcP pmP anP cdP ctP), slP⟩)
    (cP : PySem.W.codeIn K cdP "Claims.open_to" = true)
    (kP : PySem.W.keepIn K (.ref fP) = true)
    (iP : PySem.W.isFn K (.ref fP) = true)
    (aF : PySem.W.findIn K (.ref gC) "claim_of" = some (some (.ref fF)))
    (lF : K.lookup fF = some ⟨ocF, odF, .func (PySem.W.fnOf "claim_of" "Claims.claim_of" (defArgs sCOf) (defBody sCOf) (defScope sCOf) .none kVF dcF pmF anF cdF ctF), slF⟩)
    (cF : PySem.W.codeIn K cdF "Claims.claim_of" = true)
    (kF : PySem.W.keepIn K (.ref fF) = true)
    (iF : PySem.W.isFn K (.ref fF) = true)
    (aX : PySem.W.findIn K (.ref gC) "outermost" = some (some (.ref fX)))
    (lX : K.lookup fX = some ⟨ocX, odX, .func (PySem.W.fnOf "outermost" "Claims.outermost" (defArgs sOuter) (defBody sOuter) (defScope sOuter) .none kVX dcX pmX anX cdX ctX), slX⟩)
    (cX : PySem.W.codeIn K cdX "Claims.outermost" = true)
    (kX : PySem.W.keepIn K (.ref fX) = true)
    (iX : PySem.W.isFn K (.ref fX) = true)
    (mkC : PySem.W.makesIn K gC = true)
    (kcC : PySem.W.keepIn K (.ref gC) = true)
    (pgC : PySem.W.plainGet K gC Str.empty = true)
    (hdC : PySem.W.hasDictIn K gC = true)
    (poC : PySem.W.plainOver K gC = true)
    (saC : PySem.W.findIn K (.ref gC) "__setattr__" = some (some (.builtin "object.__setattr__")))
    (nRC : PySem.W.findIn K (.ref gC) "rows" = some none)
    (nBC : PySem.W.findIn K (.ref gC) "by_last" = some none)
    (hn : PySem.W.specialIn K (.builtin "object.__class__") "__get__" = some (some (.builtin "getset_descriptor.__get__")))
    (htk : PySem.W.takesIn K (.builtin "object.__class__") = some true)
    (aHI : PySem.W.findIn K (.ref gh) "__init__" = some (some (.ref fHI)))
    (lHI : K.lookup fHI = some ⟨ocHI, odHI, .func (PySem.W.fnOf "__init__" "HouseError.__init__" (defArgs sHI) (defBody sHI) (defScope sHI) (.ref T1) kVHI dcHI pmHI anHI cdHI ctHI), slHI⟩)
    (cHI : PySem.W.codeIn K cdHI "HouseError.__init__" = true)
    (kHI : PySem.W.keepIn K (.ref fHI) = true)
    (iHI : PySem.W.isFn K (.ref fHI) = true)
    (lT1 : K.lookup T1 = some ⟨ocT1, odT1, .seq #[.none, .none] nT1, slT1⟩)
    (hfc : PySem.W.findCls K (.type "ValueError") (.type "type") "__init__" = some (.val (.builtin "ValueError.__init__")))
    (lh : K.lookup gh = some (excClassObj nmh qh gh Nh bsh [.type "ValueError", .type "Exception", .type "BaseException", .type "object"] true snh subh abh colh ddh k0h k1h k2h k3h k5h "ValueError.__new__"))
    (sah : PySem.W.findIn K (.ref gh) "__setattr__" = some (some (.builtin "object.__setattr__")))
    (gah : PySem.W.findIn K (.ref gh) "__getattribute__" = some (some (.builtin "BaseException.__getattribute__")))
    (gnh : PySem.W.findIn K (.ref gh) "__getattr__" = some none)
    (inh : PySem.W.findIn K (.ref gh) "__init__" = some (some (.ref fHI)))
    (kph : PySem.W.keepIn K (.ref gh) = true)
    (ltc : K.lookup gtc = some (excClassObj nmtc qtc gtc Ntc bstc [.ref gh, .type "ValueError", .type "Exception", .type "BaseException", .type "object"] true sntc subtc abtc coltc ddtc k0tc k1tc k2tc k3tc k5tc "ValueError.__new__"))
    (satc : PySem.W.findIn K (.ref gtc) "__setattr__" = some (some (.builtin "object.__setattr__")))
    (gatc : PySem.W.findIn K (.ref gtc) "__getattribute__" = some (some (.builtin "BaseException.__getattribute__")))
    (gntc : PySem.W.findIn K (.ref gtc) "__getattr__" = some none)
    (intc : PySem.W.findIn K (.ref gtc) "__init__" = some (some (.ref fHI)))
    (kptc : PySem.W.keepIn K (.ref gtc) = true)
    (tA : PySem.W.takerIn K gtc "at" = some none)
    (tO : PySem.W.takerIn K gtc "other" = some none)
    (hab : PySem.W.findIn K (.ref gtc) "__class__" = some (some (.builtin "object.__class__")))
    (subH : PySem.W.mroIn K gtc (.ref gh) = some true)
    (subT : PySem.W.mroIn K gtc (.ref gtc) = some true)
    (nab : PySem.W.findIn K (.ref gtc) "at" = some none)
    (nob : PySem.W.findIn K (.ref gtc) "other" = some none)
    (kve : PySem.W.kitOne K (.ref gtc) (.type "ValueError") = some true)
    (kebf : PySem.W.kitOne K (.ref gtc) (.ref gbf) = some false)
    (kebr : PySem.W.kitOne K (.ref gtc) (.ref gbr) = some false)
    (kego : PySem.W.kitOne K (.ref gtc) (.ref ggo) = some false)
    (kena : PySem.W.kitOne K (.ref gtc) (.ref gna) = some false)
    (kenf : PySem.W.kitOne K (.ref gtc) (.ref gnf) = some false)
    (kenn : PySem.W.kitOne K (.ref gtc) (.ref gnn) = some false)
    (kenr : PySem.W.kitOne K (.ref gtc) (.ref gnr) = some false)
    (kent : PySem.W.kitOne K (.ref gtc) (.ref gnt) = some false)
    (ketc : PySem.W.kitOne K (.ref gtc) (.ref gtc) = some true)
    (z0 : PySem.W.nsIn K mainGlobals "len" = some none)
    (z1 : PySem.W.nsIn K mainGlobals "range" = some none)
    (z2 : PySem.W.nsIn K mainGlobals "isinstance" = some none)
    (z3 : PySem.W.nsIn K mainGlobals "int" = some none)
    (z4 : PySem.W.nsIn K mainGlobals "bool" = some none)
    (z5 : PySem.W.nsIn K mainGlobals "any" = some none)
    (z6 : PySem.W.nsIn K mainGlobals "sum" = some none)
    (z7 : PySem.W.nsIn K mainGlobals "list" = some none)
    (z8 : PySem.W.nsIn K mainGlobals "sorted" = some none)
    (z9 : PySem.W.nsIn K mainGlobals "ValueError" = some none)
    : ∃ fd : FuncData, (∀ (s : Shared) (v : Value), BindsTo s fd ⟨[v], []⟩ [("_law_script", v)]) ∧ ∀ base : Heap, K.In base → base.Ns mainGlobals mg → FnOk l.prog w K mg base CX0 7 fa fd ["_law_script"] (spLaw K) := by
  have e := hfa.symm.trans (PySem.W.mg_of X G aZ)
  cases e
  have T : Txt mg := ⟨PySem.W.mg_none_of X G z0, PySem.W.mg_none_of X G z1, PySem.W.mg_none_of X G z2, PySem.W.mg_none_of X G z3, PySem.W.mg_none_of X G z4, PySem.W.mg_none_of X G z5, PySem.W.mg_none_of X G z6⟩
  have TX : Txn mg := ⟨PySem.W.mg_none_of X G z5, PySem.W.mg_none_of X G z9⟩
  have TC : ClT K mg gC := ⟨⟨pgC, hdC, poC, saC⟩, nRC, nBC, PySem.W.mg_of X G qG, PySem.W.mg_none_of X G z0, PySem.W.mg_none_of X G z7, PySem.W.mg_none_of X G z8⟩
  have FO := fun_mk (st := sTold) lO cO kO
  have bO := FO.binds (ps := ["bits"]) fun _ _ _ _ _ _ us hl => by obtain ⟨_, rfl⟩ := len1 hl; rfl
  have FI := fun_mk (st := sWithin) lI cI kI
  have bI := FI.binds (ps := ["one", "other"]) fun _ _ _ _ _ _ us hl => by obtain ⟨_, _, rfl⟩ := len2 hl; rfl
  have FL := fun_mk (st := sLast) lL cL kL
  have bL := FL.binds (ps := ["bits"]) fun _ _ _ _ _ _ us hl => by obtain ⟨_, rfl⟩ := len1 hl; rfl
  have FAn := fun_mk (st := sAn) lAn cAn kAn
  have bAn := FAn.binds (ps := ["bits", "sets"]) fun _ _ _ _ _ _ us hl => by obtain ⟨_, _, rfl⟩ := len2 hl; rfl
  have FC := fun_mk (st := sCell) lC cC kC
  have bC := FC.binds (ps := ["_law_script", "_law_k"]) fun _ _ _ _ _ _ us hl => by obtain ⟨_, _, rfl⟩ := len2 hl; rfl
  have FH := fun_mk (st := sWhole) lH cH kH
  have bH := FH.binds (ps := ["_law_found"]) fun _ _ _ _ _ _ us hl => by obtain ⟨_, rfl⟩ := len1 hl; rfl
  have FM := fun_mk (st := sNames) lM cM kM
  have bM := FM.binds (ps := ["_law_cell_here", "_law_many"]) fun _ _ _ _ _ _ us hl => by obtain ⟨_, _, rfl⟩ := len2 hl; rfl
  have FB := fun_mk (st := sBits) lB cB kB
  have bB := FB.binds (ps := ["_law_script", "_law_mask"]) fun _ _ _ _ _ _ us hl => by obtain ⟨_, _, rfl⟩ := len2 hl; rfl
  have FD := fun_mk (st := sDue) lD cD kD
  have bD := FD.binds (ps := ["_law_rows", "_law_name", "_law_bits_here"]) fun _ _ _ _ _ _ us hl => by obtain ⟨_, _, _, rfl⟩ := len3 hl; rfl
  have FY := fun_mk (st := sOnly) lY cY kY
  have bY := FY.binds (ps := ["_law_e"]) fun _ _ _ _ _ _ us hl => by obtain ⟨_, rfl⟩ := len1 hl; rfl
  have FA := fun_mk (st := sAsked) lA cA kA
  have bA := FA.binds (ps := ["_law_claims", "_law_name", "_law_bits_here"]) fun _ _ _ _ _ _ us hl => by obtain ⟨_, _, _, rfl⟩ := len3 hl; rfl
  have FV := fun_mk (st := sByAny) lV cV kV
  have bV := FV.binds (ps := ["_law_claims", "_law_name", "_law_bits_here"]) fun _ _ _ _ _ _ us hl => by obtain ⟨_, _, _, rfl⟩ := len3 hl; rfl
  have FR := fun_mk (st := sRight) lR cR kR
  have bR := FR.binds (ps := ["_law_claims", "_law_rows", "_law_name", "_law_bits_here"]) fun _ _ _ _ _ _ us hl => by obtain ⟨_, _, _, _, rfl⟩ := len4 hl; rfl
  have FZ := fun_mk (st := sLaw) lZ cZ kZ
  have FN := fun_mk (st := sCInit) lN cN kN
  have bN := FN.binds (ps := ["self"]) fun _ _ _ _ _ _ us hl => by obtain ⟨_, rfl⟩ := len1 hl; rfl
  have FU := fun_mk (st := sCPut) lU cU kU
  have bU := FU.binds (ps := ["self", "name", "at", "bits", "meaning"]) fun _ _ _ _ _ _ us hl => by obtain ⟨_, _, _, _, _, rfl⟩ := len5 hl; rfl
  have FP := fun_mk (st := sCOpen) lP cP kP
  have bP := FP.binds (ps := ["self", "name", "bits"]) fun _ _ _ _ _ _ us hl => by obtain ⟨_, _, _, rfl⟩ := len3 hl; rfl
  have FF := fun_mk (st := sCOf) lF cF kF
  have bF := FF.binds (ps := ["self", "name", "bits"]) fun _ _ _ _ _ _ us hl => by obtain ⟨_, _, _, rfl⟩ := len3 hl; rfl
  have FX := fun_mk (st := sOuter) lX cX kX
  have bX := FX.binds (ps := ["self", "numbers"]) fun _ _ _ _ _ _ us hl => by obtain ⟨_, _, rfl⟩ := len2 hl; rfl
  have mO := PySem.W.mg_of X G aO
  have mI := PySem.W.mg_of X G aI
  have mL := PySem.W.mg_of X G aL
  have mAn := PySem.W.mg_of X G aAn
  have mC := PySem.W.mg_of X G aC
  have mH := PySem.W.mg_of X G aH
  have mM := PySem.W.mg_of X G aM
  have mB := PySem.W.mg_of X G aB
  have mD := PySem.W.mg_of X G aD
  have mY := PySem.W.mg_of X G aY
  have mA := PySem.W.mg_of X G aA
  have mV := PySem.W.mg_of X G aV
  have mR := PySem.W.mg_of X G aR
  have mU : Meth K gC "put" fU := ⟨aU, iU, kU⟩
  have mP : Meth K gC "open_to" fP := ⟨aP, iP, kP⟩
  have mF : Meth K gC "claim_of" fF := ⟨aF, iF, kF⟩
  have mX : Meth K gC "outermost" fX := ⟨aX, iX, kX⟩
  have mN : Mk K gC fN := ⟨mkC, aN, iN, kcC⟩
  have FHI := fund_mk (st := sHI) lHI cHI kHI
  have bHI : Binds K (PySem.W.fnOf "__init__" "HouseError.__init__" (defArgs sHI) (defBody sHI) (defScope sHI) (.ref T1) kVHI dcHI pmHI anHI cdHI ctHI) ["self", "words", "at", "other"] [] := fun s us hK hl => by
    have h4 : us.length = 4 := by simpa using hl
    match us, h4 with
    | [_, _, _, _], _ => exact PySem.W.binds_K hK rfl lT1 rfl rfl rfl
  have ECh : ECls K gh := ⟨⟨_, (by unfold PySem.W.clsIn; rw [lh]), rfl, rfl⟩, sah, gah, gnh⟩
  have MKh : MkE K gh fHI := ⟨ECh, ⟨_, _, _, _, _, _, _, _, _, _, _, _, _, _, _, _, lh, rfl⟩, inh, iHI, kph⟩
  have ECtc : ECls K gtc := ⟨⟨_, (by unfold PySem.W.clsIn; rw [ltc]), rfl, rfl⟩, satc, gatc, gntc⟩
  have MKtc : MkE K gtc fHI := ⟨ECtc, ⟨_, _, _, _, _, _, _, _, _, _, _, _, _, _, _, _, ltc, rfl⟩, intc, iHI, kptc⟩
  have ECT : EC K gtc := ⟨ECtc, tA, tO⟩
  have k1 : PySem.W.kitAny K (.ref gtc) [.ref gbf, .ref gbr, .ref ggo, .ref gna] = some false := by simp only [PySem.W.kitAny, kebf, kebr, kego, kena]
  have k2 : PySem.W.kitAny K (.ref gtc) [.ref gnf, .ref gnn, .ref gnr, .ref gnt] = some false := by simp only [PySem.W.kitAny, kenf, kenn, kenr, kent]
  have RR : Rcs K mg ⟨gh, gbf, gbr, ggo, gna, gnf, gnn, gnr, gnt, gtc⟩ fHI := ⟨PySem.W.mg_of X G eh, PySem.W.mg_of X G ebf, PySem.W.mg_of X G ebr, PySem.W.mg_of X G ego, PySem.W.mg_of X G ena, PySem.W.mg_of X G enf, PySem.W.mg_of X G enn, PySem.W.mg_of X G enr, PySem.W.mg_of X G ent, PySem.W.mg_of X G etc, MKh, MKtc, ECT, ⟨ECtc, hab, hn, htk⟩, subH, subT, nab, nob, kve, ketc, k1, k2⟩
  refine ⟨PySem.W.fnOf "law" "law" (defArgs sLaw) (defBody sLaw) (defScope sLaw) .none kVZ dcZ pmZ anZ cdZ ctZ, fun s v => .of_eq rfl, fun base _ _ => ?_⟩
  have GHI : FnOk l.prog w K mg base CX0 1 fHI _ ["self", "words", "at", "other"] (spHI K) := ok_hi FHI TX hfc
  have GF : FnOk l.prog w K mg base (CXE l.prog w) 4 fF _ ["self", "name", "bits"] (spOfX gC gtc) := ok_ofX FF TC TX FO bO mO FI bI mI FP bP mP FAn bAn mAn FX bX mX MKtc ECT RR.mtc GHI bHI
  have GA := ok_asked FA T TX TC RR bF mF GF FY bY mY FH bH mH
  have GV := ok_byany FV T TC RR bF mF GF
  exact ok_law FZ T TC FL bL mL FN bN mN FU bU mU FC bC mC FM bM mM FB bB mB kA bA mA GA kR bR mR (ok_right FR T FD bD mD kA bA mA GA kV bV mV GV)
theorem walk {l : PySem.W.OpenLaw} {q : Program} {loose : List Str} {XP : (Str → Option Value) → Heap → Prop} {YP : World → Heap → Prop} {d : DefRec} {K : Params → PySem.W.Frag} (hn : l.most = some 63) (hdf : d.params.defaults = [])
    (hY : ∀ (w : World) (h : Heap), YP w h → (K w.params).In h)
    (F : ∀ (w : World) (mg : Str → Option Value) (fa : Addr) (h : Heap), (K w.params).In h → h.Ns mainGlobals mg → mg d.name = some (.ref fa) →
      ∃ fd : FuncData, (∀ (s : Shared) (u : Value), BindsTo s fd ⟨[u], []⟩ [("_law_script", u)]) ∧ ∀ base : Heap, (K w.params).In base → base.Ns mainGlobals mg → FnOk l.prog w (K w.params) mg base CX0 7 fa fd ["_law_script"] (spLaw (K w.params))) :
    PySem.W.WalkO q loose XP YP l.row.toRowW d [] (fun f vs => PySem.call f vs) :=
  L2.walk_of (n := 63) (k := 7) (x := "_law_script") (CX := fun _ => CX0) (sp := fun w => spLaw (K w.params)) hn (by decide) hdf ⟨rfl, by decide, by decide⟩ hY F (fun _ _ a ns hl _ hS => ⟨a, ns, rfl, hS, hl, fun _ => rfl⟩) fun _ _ _ _ _ z => z
end K24
open PySem PySem.W PyProof.Rows
set_option maxRecDepth 100000 in
set_option maxHeartbeats 0 in
theorem PySem.Challenge.cw_macrohouse_k24_two_claims_holds : PySem.Challenge.rw_macrohouse_k24_two_claims.Holds := by
  w_on; o_law; k_head; (case hw => w_witness2)
  k_fill
  refine K24.walk (l := PySem.Challenge.rw_macrohouse_k24_two_claims) rfl rfl (fun w h Y => PySem.W.kIn_of Y) ?F
  case F =>
    intro w mg fa h KX G hmg
    refine' K24.all_mk KX G hmg ?qG ?eh ?ebf ?ebr ?ego ?ena ?enf ?enn ?enr ?ent ?etc ?aO ?lO ?cO ?kO ?aI ?lI ?cI ?kI ?aL ?lL ?cL ?kL ?aAn ?lAn ?cAn ?kAn ?aC ?lC ?cC ?kC ?aH ?lH ?cH ?kH ?aM ?lM ?cM ?kM ?aB ?lB ?cB ?kB ?aD ?lD ?cD ?kD ?aY ?lY ?cY ?kY ?aA ?lA ?cA ?kA ?aV ?lV ?cV ?kV ?aR ?lR ?cR ?kR ?aZ ?lZ ?cZ ?kZ ?aN ?lN ?cN ?kN ?iN ?aU ?lU ?cU ?kU ?iU ?aP ?lP ?cP ?kP ?iP ?aF ?lF ?cF ?kF ?iF ?aX ?lX ?cX ?kX ?iX ?mkC ?kcC ?pgC ?hdC ?poC ?saC ?nRC ?nBC ?hn ?htk ?aHI ?lHI ?cHI ?kHI ?iHI ?lT1 ?hfc ?lh ?sah ?gah ?gnh ?inh ?kph ?ltc ?satc ?gatc ?gntc ?intc ?kptc ?tA ?tO ?hab ?subH ?subT ?nab ?nob ?kve ?kebf ?kebr ?kego ?kena ?kenf ?kenn ?kenr ?kent ?ketc ?z0 ?z1 ?z2 ?z3 ?z4 ?z5 ?z6 ?z7 ?z8 ?z9
    (case qG => k_is); (case eh => k_is); (case ebf => k_is); (case ebr => k_is); (case ego => k_is); (case ena => k_is)
    (case enf => k_is); (case enn => k_is); (case enr => k_is); (case ent => k_is); (case etc => k_is); (case aO => k_is)
    (case lO => k_is); (case cO => k_is); (case kO => k_is); (case aI => k_is); (case lI => k_is); (case cI => k_is)
    (case kI => k_is); (case aL => k_is); (case lL => k_is); (case cL => k_is); (case kL => k_is); (case aAn => k_is)
    (case lAn => k_is); (case cAn => k_is); (case kAn => k_is); (case aC => k_is); (case lC => k_is); (case cC => k_is)
    (case kC => k_is); (case aH => k_is); (case lH => k_is); (case cH => k_is); (case kH => k_is); (case aM => k_is)
    (case lM => k_is); (case cM => k_is); (case kM => k_is); (case aB => k_is); (case lB => k_is); (case cB => k_is)
    (case kB => k_is); (case aD => k_is); (case lD => k_is); (case cD => k_is); (case kD => k_is); (case aY => k_is)
    (case lY => k_is); (case cY => k_is); (case kY => k_is); (case aA => k_is); (case lA => k_is); (case cA => k_is)
    (case kA => k_is); (case aV => k_is); (case lV => k_is); (case cV => k_is); (case kV => k_is); (case aR => k_is)
    (case lR => k_is); (case cR => k_is); (case kR => k_is); (case aZ => k_is); (case lZ => k_is); (case cZ => k_is)
    (case kZ => k_is); (case aN => k_is); (case lN => k_is); (case cN => k_is); (case kN => k_is); (case iN => k_is)
    (case aU => k_is); (case lU => k_is); (case cU => k_is); (case kU => k_is); (case iU => k_is); (case aP => k_is)
    (case lP => k_is); (case cP => k_is); (case kP => k_is); (case iP => k_is); (case aF => k_is); (case lF => k_is)
    (case cF => k_is); (case kF => k_is); (case iF => k_is); (case aX => k_is); (case lX => k_is); (case cX => k_is)
    (case kX => k_is); (case iX => k_is); (case mkC => k_is); (case kcC => k_is); (case pgC => k_is); (case hdC => k_is)
    (case poC => k_is); (case saC => k_is); (case nRC => k_is); (case nBC => k_is); (case hn => k_is); (case htk => k_is)
    (case aHI => k_is); (case lHI => k_is); (case cHI => k_is); (case kHI => k_is); (case iHI => k_is); (case lT1 => k_is)
    (case hfc => k_is); (case lh => k_is); (case sah => k_is); (case gah => k_is); (case gnh => k_is); (case inh => k_is)
    (case kph => k_is); (case ltc => k_is); (case satc => k_is); (case gatc => k_is); (case gntc => k_is); (case intc => k_is)
    (case kptc => k_is); (case tA => k_is); (case tO => k_is); (case hab => k_is); (case subH => k_is); (case subT => k_is)
    (case nab => k_is); (case nob => k_is); (case kve => kit_is); (case kebf => kit_is); (case kebr => kit_is); (case kego => kit_is)
    (case kena => kit_is); (case kenf => kit_is); (case kenn => kit_is); (case kenr => kit_is); (case kent => kit_is); (case ketc => kit_is)
    (case z0 => k_is); (case z1 => k_is); (case z2 => k_is); (case z3 => k_is); (case z4 => k_is); (case z5 => k_is)
    (case z6 => k_is); (case z7 => k_is); (case z8 => k_is); (case z9 => k_is)
#print axioms PySem.Challenge.cw_macrohouse_k24_two_claims_holds
